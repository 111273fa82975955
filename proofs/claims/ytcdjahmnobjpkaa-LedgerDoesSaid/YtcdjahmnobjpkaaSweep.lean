/- What is proved here: what Sweep answers, and leaves. -/
import Derived.Test.YtcdjahmnobjpkaaSwp
namespace Go.Proofs.Ytcdjahmnobjpkaa
open Go Go.RowKit Go.Maps Go.WideMaps Go.Sort

def dropsE (L zs : List En) : List En := zs.foldl (fun L y => dropE L y.k) L
theorem drops_snoc (L zs : List En) (y : En) : dropsE L (zs ++ [y]) = dropE (dropsE L zs) y.k := by simp [dropsE]
theorem mem_drops {x : En} : ∀ {zs L : List En}, x ∈ dropsE L zs ↔ x ∈ L ∧ ∀ y ∈ zs, x.k ≠ y.k
  | [], L => by simp [dropsE]
  | z :: r, L => by
    show x ∈ dropsE (dropE L z.k) r ↔ _
    rw [mem_drops, mem_drop]
    simp [and_assoc]
theorem rise_drops : ∀ {zs L : List En}, Rising En.nm L → Rising En.nm (dropsE L zs)
  | [], _, h => h
  | z :: r, L, h => rise_drops (zs := r) (L := dropE L z.k) (rise_drop h z.k)
theorem drops_len : ∀ (zs L : List En), (dropsE L zs).length ≤ L.length
  | [], _ => Nat.le_refl _
  | z :: r, L => Nat.le_trans (drops_len r (dropE L z.k)) (length_delN _ _)
theorem drops_past {L ys : List En} {now : Int} (hR : Rising En.nm L) (hp : ys.Perm (pastE L now)) : dropsE L ys = leftE L now := by
  refine Rising.ext (rise_drops hR) (hR.filter _) fun x => ?_
  rw [mem_drops]
  show _ ↔ x ∈ leftE L now
  rw [mem_left]
  refine and_congr_right fun hx => ⟨fun h ht => h x (hp.mem_iff.2 (mem_past.2 ⟨hx, ht⟩)) rfl, fun h y hy e => ?_⟩
  obtain ⟨h1, h2⟩ := mem_past.1 (hp.mem_iff.1 hy)
  rw [keyE_one hR hx h1 e] at h
  exact h h2
theorem info_string : (Try.prog.info? 9).map (fun i => (i.zero, i.size, i.bytes)) = some (some (.string ⟨#[]⟩), 1, 16) := by kernel_rfl
theorem info_parts {t : TypeId} {v : Value} {s b : Nat} (h : (Try.prog.info? t).map (fun i => (i.zero, i.size, i.bytes)) = some (some v, s, b)) : ∃ i, Try.prog.info? t = some i ∧ i.zero = some v ∧ i.size = s ∧ i.bytes = b := by
  obtain ⟨i, hi, e⟩ := Option.map_eq_some_iff.1 h
  simp only [Prod.mk.injEq] at e
  exact ⟨i, hi, e.1, e.2.1, e.2.2⟩
theorem LedL.cut {w : World} {l m room : Nat} {L : List En} {f : Lit → Option Value} {Φ : Nat → Prop} (h : LedL w l m room L f Φ) {s : ByteArray} (hs : s.size ≤ maxLen) :
    ∃ w2, (Builtin.delete_ #[58, 9] 0 #[.map (some m), .string s]).run Try.prog w = .ok (.tuple #[]) w2 ∧ LedL w2 l m room (dropE L s) (delV f (strK s)) Φ ∧ Chg (fun i => i = m) w w2 := by
  obtain ⟨w2, hr, m2, c2⟩ := h.mp.cut keyed_str Try.underlying58 (key_str hs) 0
  refine ⟨w2, hr, ⟨c2.heap h.blk h.l_m, ?_, h.ok.drop s, fun u => ?_, fun y hy => h.vs y (mem_drop.1 hy).1, h.roomB, h.inn⟩, c2⟩
  · rw [h.pl, Option.isSome_map] at m2
    cases ho : findE L s with
    | none =>
      rw [ho] at m2
      rw [dropE_none ho]
      exact m2
    | some y =>
      rw [ho] at m2
      have := length_drop h.ok.srt ho
      rwa [show (dropE L s).length = L.length - 1 by omega]
  · by_cases e : u = s
    · subst e
      rw [delV_same, find_drop_same]
      rfl
    · rw [delV_other _ fun e2 => e (strK_inj e2), find_drop_other h.ok.srt e, h.pl]

/-- What Sweep answers, and leaves. -/
def SweepSaid (l room : Nat) (L : List En) (Φ : Nat → Prop) (now : Int) (w : World) (e : Ending) (w' : World) : Prop :=
  ∃ A c ys, e = .returned (.slice A (List.length ys) c) ∧ ys.Perm (pastE L now) ∧ ys.Pairwise (fun a b => ¬ befE b a) ∧ w'.ownsRow w.heap.size 9 1 (.slice A ys.length c) ys.length (ys.map keyV) ∧ LedAt w' l room (leftE L now) Φ ∧ Chg Φ w w'
/-- While what is past is taken out. -/
structure SwpEnd (w : World) (l m room : Nat) (L : List En) (Φ : Nat → Prop) (now : Int) (A : Option Addr) (n c k : Nat) (ys : List En) (wr : World) : Prop where
  led : ∃ f, LedL wr l m room (dropsE L (ys.take k)) f fun i => Φ i ∧ i < w.heap.size
  row : wr.ownsRow w.heap.size 9 1 (.slice A n c) n (ys.map keyV)
  chg : Chg (fun i => Φ i ∧ i < w.heap.size) w wr
  perm : ys.Perm (pastE L now)
  srt : ys.Pairwise fun a b => ¬ befE b a
  len : ys.length = n
  cap : n ≤ c ∧ c ≤ maxLen
section
variable {w wr : World} {l m room : Nat} {L : List En} {Φ : Nat → Prop} {now : Int} {A : Option Addr} {n c k : Nat} {ys : List En}
theorem SwpEnd.done (h : SwpEnd w l m room L Φ now A n c k ys wr) (hR : Rising En.nm L) (hk : n ≤ k) : SweepSaid l room L Φ now w (.returned (.slice A n c)) wr := by
  obtain ⟨f, hf⟩ := h.led
  rw [List.take_of_length_le (by rw [h.len]; exact hk), drops_past hR h.perm] at hf
  have hl := h.len
  subst hl
  exact ⟨A, c, ys, rfl, h.perm, h.srt, h.row, ⟨m, f, hf.mono fun _ _ hi => hi.1⟩, h.chg.mono fun _ _ hi => hi.1⟩
theorem SwpEnd.step (h : SwpEnd w l m room L Φ now A n c k ys wr) (hk : k < n) (hW : ∀ x ∈ L, x.k.size ≤ maxLen) : ∃ (b : Nat) (s : ByteArray), A = some ⟨b, 0, none⟩ ∧ wr.cell? ⟨b, k, none⟩ = some (.string s) ∧ wr.cell? ⟨l, 1, none⟩ = some (.map (some m)) ∧ ∃ w2, (Builtin.delete_ #[58, 9] 0 #[.map (some m), .string s]).run Try.prog wr = .ok (.tuple #[]) w2 ∧ Hid (SwpEnd w l m room L Φ now A n c (k + 1) ys w2) := by
  obtain ⟨f, hf⟩ := h.led
  have hkl : k < ys.length := by rw [h.len]; exact hk
  obtain ⟨b, cap, e, hbl, _⟩ := h.row.form (by omega)
  obtain ⟨rfl, rfl⟩ : A = some ⟨b, 0, none⟩ ∧ c = cap := by simpa using e
  have hc : wr.cell? ⟨b, k, none⟩ = some (.string ys[k].k) := by
    have := h.row.cellAt k (by omega)
    rwa [List.getElem?_map, List.getElem?_eq_getElem hkl] at this
  have hm : ys[k] ∈ pastE L now := h.perm.mem_iff.1 (List.getElem_mem hkl)
  obtain ⟨w2, hr, h2, c2⟩ := hf.cut (s := ys[k].k) (hW _ (mem_past.1 hm).1)
  have hin : (fun i => Φ i ∧ i < w.heap.size) m := hf.inn.2
  refine ⟨b, ys[k].k, rfl, hc, (two_cells' hf.blk).2, w2, hr, Lib.hid ⟨⟨delV f (strK ys[k].k), ?_⟩, c2.own h.row fun g hg e => ?_, h.chg.trans (c2.mono (Ψ := fun i => Φ i ∧ i < w.heap.size) fun i _ e => by rw [e]; exact hin) fun _ _ e => e, h.perm, h.srt, h.len, h.cap⟩⟩
  · rw [List.take_add_one, List.getElem?_eq_getElem hkl, Option.toList_some, drops_snoc]
    exact h2
  · simp [Value.ownBlock] at hg
    have := hin.2
    omega
end

set_option maxHeartbeats 1600000 in
set_option maxRecDepth 100000 in
theorem Sweep_any {w : World} {l room : Nat} {L : List En} {Φ : Nat → Prop} (h : LedAt w l room L Φ) (hLn : L.length < 900000) {now : Int} (hS : pastE L now = [] ∨ SortOK (pastE L now).length) :
    Calls Try.prog 17 #[.pointer (some ⟨l, 0, none⟩), .int .i64 now] w (SweepSaid l room L Φ now w) := by
  have h0 := h
  obtain ⟨m, f, h⟩ := h
  obtain ⟨c0, c1⟩ := two_cells' h.blk
  obtain ⟨D, hM, hDs, hD⟩ := h.mp
  have hll := lt_of_block h.blk
  have HWF := Lib.hid h.ok.wf
  have HRS := Lib.hid h.ok.srt
  have HST : Hid (∀ w1, w1.ranges Try.prog 9 anyV m w.heap.size L.length D (Maps.has D) (Maps.size D) → w.grownBy w1 none → SwpRel w m L now D w.heap.size (.slice none 0 0) w1 (Maps.has D) (Maps.size D) []) := Lib.hid (by
    intro w1 hr hg
    refine ⟨⟨hg.os, hg.tape, hg.output, hg.size, fun k hk => hg.block k hk (by simp)⟩, hr, Nat.le_refl _, World.ownsRow_nil _ _ _ _, ⟨(fun x hx => by cases hx), List.nodup_nil, fun x hx he => ?_⟩⟩
    obtain ⟨hx1, hx2⟩ := mem_past.1 hx
    rw [(hD _).1, h.pl, findE_mem h.ok.srt hx1] at he
    cases he)
  have HSRT : Hid (∀ wr A n c left cnt xs, n = List.length xs → SwpRel w m L now D w.heap.size (.slice A n c) wr left cnt xs → (∀ k, left k = false) → Calls Try.prog 29 #[.slice A n c, .func (.func 30) #[.pointer (some ⟨l, 0, none⟩)] #[]] wr fun e w' => e = .returned (.tuple #[]) ∧ ∃ ys, Hid (SwpEnd w l m room L Φ now A n c 0 ys w')) := Lib.hid (by
    intro wr A n c left cnt xs hn hrel hl
    subst hn
    have hp := hrel.col.perm (past_nodup h.ok.srt now) hl
    have hpl := hp.length_eq
    have hΦ : ∀ k, k < w.heap.size → Φ k → (Φ k ∧ k < w.heap.size) := fun k hk hp => ⟨hp, hk⟩
    have h1 : LedL wr l m room L f fun k => Φ k ∧ k < w.heap.size := (h.mono hΦ).keep (Ψ := fun _ => False) (Chg.of_below hrel.low) fun _ _ => id
    by_cases hz : xs.length = 0
    · obtain rfl : xs = [] := List.eq_nil_of_length_eq_zero hz
      refine (sortT0 A c _ wr).mono ?_
      rintro e w' ⟨rfl, rfl⟩
      have hcc : 0 ≤ c ∧ c ≤ maxLen := by
        rcases hrel.row.2 with ⟨e1, _⟩ | ⟨g, cap, cur, e1, _, hg, h1, h2, _⟩
        · cases e1
          exact ⟨Nat.le_refl _, Nat.zero_le _⟩
        · cases e1
          exact ⟨h1, h2⟩
      exact ⟨rfl, [], Lib.hid ⟨⟨f, h1⟩, hrel.row, Chg.of_below hrel.low, hp, List.Pairwise.nil, rfl, hcc⟩⟩
    · obtain ⟨rb, cap, e, hbl, _⟩ := hrel.row.form (by omega)
      obtain ⟨rfl, rfl⟩ : A = some ⟨rb, 0, none⟩ ∧ c = cap := by simpa using e
      have hOK : SortOK xs.length := by
        rcases hS with h1 | h1
        · rw [h1] at hpl
          exact absurd hpl hz
        · rwa [← hpl] at h1
      obtain ⟨_, _, hcc⟩ := own_cells hrel.row
      refine (hOK wr l room L _ rb c xs ⟨m, f, h1⟩ rfl (fun x hx => (mem_past.1 (hrel.col.sub x hx).1).1) (fun hp => by have := hp.2; omega) (own_base hrel.row (Nat.zero_le _))).mono ?_
      rintro e w' ⟨rfl, ys, hys, hso, how, hcg⟩
      have hlow : Chg (fun i => Φ i ∧ i < w.heap.size) w w' := (Chg.of_below hrel.low).trans hcg fun i hi e => by omega
      exact ⟨rfl, ys, Lib.hid ⟨⟨f, h1.keep hcg fun i hi e => by have := hi.2; omega⟩, own_up how fun g hg => by simp [Value.ownBlock] at hg; omega, hlow, hys.trans hp, hso, hys.length_eq, hcc⟩⟩)
  have HM0 := Lib.hid hM
  have HDv := Lib.hid hD
  have HH := Lib.hid h
  obtain ⟨i0, hi, hz0, hz1, hz2⟩ := info_parts info_string
  clear h h0 hM hDs hD hS
  go_enter Try.func17, Try.ntmps17
  go_wp2_with (at_range; refine wpList_range_own _ rfl _ 58 rfl 9 62 keyed_str Try.underlying58 anyV m L.length D rfl HM0.out ?_; intro w1 hrg1 hg1 hs1; have HC := Lib.hid (HST.out w1 hrg1 hg1); clear hrg1 hg1 hs1)
  go_frame
  go_loopw [5] (fun sv wr => ∃ (A : Option Addr) (c n : Nat) (left : Lit → Bool) (cnt : Nat) (xs : List En), sv = .slice A n c ∧ Hid (n = xs.length) ∧ Hid (SwpRel w m L now D w.heap.size (.slice A n c) wr left cnt xs)) (fun _ wr => wr.rangeLeft m w.heap.size)
  case atStart => exact ⟨none, 0, 0, _, _, [], rfl, Lib.hid rfl, HC⟩
  case round =>
    clear HC
    obtain ⟨A, c, n, left, cnt, xs, rfl, HN, HR⟩ := hrel
    go_wp2_with (at_next; refine wpList_next_ranges _ rfl _ rfl 9 keyed_str anyV Value.string id strV_inv (fun v _ _ => ⟨v, rfl⟩) m w.heap.size L.length D left cnt rfl HR.out.rng ?_ ?_)
    · intro _ hl0
      have hE := HSRT.out wr A n c left cnt xs HN.out HR.out hl0
      have HE := Lib.hid hE
      clear hE hl0
      go_wp2_with (go_at_call 29; refine HE.out.mono ?_; rintro e w3 ⟨rfl, ys, HX⟩)
      have hcap := HX.out.cap
      unfold maxLen at hcap
      obtain ⟨q1, q2⟩ := hcap
      clear HE
      go_loopw [34] (fun vi wv => ∃ k : Nat, vi = .int .i64 k ∧ k ≤ n ∧ Hid (SwpEnd w l m room L Φ now A n c k ys wv)) (fun vi _ => n - (intOf vi).toNat)
      case atStart => exact ⟨0, rfl, Nat.zero_le _, HX⟩
      case round =>
        clear HX
        obtain ⟨k, rfl, hk, HY⟩ := hrel
        by_cases hlt : k < n
        · obtain ⟨b, s, hA, r0, r1, w4, hrun, HZ⟩ := HY.out.step hlt HWF.out
          subst hA
          have hlt' : (k : Int) < n := by omega
          have HR4 := Lib.hid hrun
          clear hrun HY
          go_wp2_with (at_delete; refine wpList_delete_run rfl _ _ 58 9 rfl _ _ rfl rfl HR4.out ?_)
          go_roundw
          case rel => exact ⟨k + 1, by go_num, by omega, HZ⟩
          case measure => simp [intOf]; omega
        · have hlt' : ¬ (k : Int) < n := by omega
          go_wp2
          go_ret
          exact HY.out.done HRS.out (by omega)
    · intro s cv kl ya yb w2 cnt2 hkey hlk hv hat hrg2 hlt hg2 hs2 hen
      obtain ⟨vn, vt, rfl, how, hsz, hnext, hskip⟩ := swp_round HH.out HDv.out HR.out (y := (ya, yb)) hkey hv hat hrg2 hg2 hlk
      have HLT : Hid (cnt2 < wr.rangeLeft m w.heap.size) := Lib.hid (by rw [HR.out.rng.left_eq]; exact hlt)
      have HOW := Lib.hid how
      have HNX := Lib.hid hnext
      have HSK := Lib.hid hskip
      have hnL : n ≤ L.length := by
        rw [HN.out]
        exact HR.out.col.le HRS.out
      have hNx := HN.out
      rw [← hNx] at HOW HNX
      have HNX2 : Hid (n = xs.length) := HN
      clear hkey hlk hv hat hrg2 hlt hg2 hs2 hnext hskip how hNx
      by_cases ht : vt ≤ now
      · go_wp2_with (at_builtin; refine wpList_append_src (o := ⟨some 27, _, _, _, _, _⟩) rfl (.tmp 24) (.tmp 26) 38 rfl w.heap.size 9 i0 _ 1 16 Try.underlying38 hi hz0 hz1 hz2 rfl (by omega) _ n _ rfl ((HOW.out.alloc _).alloc _) (some ⟨w2.heap.size + 1, 0, none⟩) 1 1 [.string s] rfl rfl (fun e => by cases e) (by simpa using news_new (w2.alloc _) _ _) (fun u hu => by simp at hu; subst hu; rfl) (by unfold maxLen; omega) (by omega) (by simp; omega) ?_; intro v2 w3 ho3 hg3; obtain ⟨A3, c3, rfl⟩ := own_slice ho3; obtain ⟨ys, hys, HX1⟩ := HNX.out _ ht _ _ ho3 hg3; have HX := Lib.hid HX1; clear ho3 hg3 HX1)
        go_roundw
        case rel => exact ⟨A3, c3, n + 1, _, _, ys, rfl, Lib.hid hys.symm, HX⟩
        case measure =>
          have h9 := HX.out.rng.left_eq
          have h10 := HLT.out
          omega
      · have HX1 := Lib.hid fun B => HSK.out B ht
        go_wp2_with fail
        go_roundw
        case rel => exact ⟨A, c, n, _, _, xs, rfl, HNX2, Lib.hid (HX1.out _)⟩
        case measure =>
          have h9 := (HX1.out (.cells #[.int .i64 vn, .int .i64 vt] 62)).rng.left_eq
          have h10 := HLT.out
          omega
end Go.Proofs.Ytcdjahmnobjpkaa
