/- What is proved here: what the document's Sweep answers. -/
import Derived.Test.YtcdjahmnobjpkaaRef
import Derived.Test.YtcdjahmnobjpkaaSweeps
namespace Go.Proofs.Ytcdjahmnobjpkaa
open Go Go.RowKit Go.Maps Go.WideMaps

/-- Where the one is that goes first, of those ahead of i. -/
def MinAt (L : List En) (now : Int) (i : Nat) (a : Int) : Prop :=
  (a = -1 ∧ ∀ j y, j < i → L[j]? = some y → ¬ y.t ≤ now) ∨
  (∃ (m : Nat) (x : En), a = m ∧ m < i ∧ L[m]? = some x ∧ x.t ≤ now ∧ ∀ j y, j < i → L[j]? = some y → y.t ≤ now → ¬ befE y x)
theorem min_start (L : List En) (now : Int) : MinAt L now 0 (-1) := .inl ⟨rfl, fun _ _ hj => absurd hj (Nat.not_lt_zero _)⟩
theorem min_skip {L : List En} {now : Int} {i : Nat} {a : Int} {y : En} (h : MinAt L now i a) (hy : L[i]? = some y) (hn : ¬ y.t ≤ now) : MinAt L now (i + 1) a := by
  rcases h with ⟨rfl, h⟩ | ⟨m, x, rfl, hm, hx, hxn, h⟩
  · refine .inl ⟨rfl, fun j z hj hz => ?_⟩
    by_cases e : j = i
    · subst e
      rw [hy] at hz
      obtain rfl := Option.some.inj hz
      exact hn
    · exact h j z (by omega) hz
  · refine .inr ⟨m, x, rfl, by omega, hx, hxn, fun j z hj hz hzn => ?_⟩
    by_cases e : j = i
    · subst e
      rw [hy] at hz
      obtain rfl := Option.some.inj hz
      exact absurd hzn hn
    · exact h j z (by omega) hz hzn
theorem min_first {L : List En} {now : Int} {i : Nat} {y : En} (h : MinAt L now i (-1)) (hy : L[i]? = some y) (hn : y.t ≤ now) : MinAt L now (i + 1) i := by
  rcases h with ⟨_, h⟩ | ⟨m, x, e, _⟩
  · refine .inr ⟨i, y, rfl, by omega, hy, hn, fun j z hj hz hzn => ?_⟩
    by_cases e : j = i
    · subst e
      rw [hy] at hz
      obtain rfl := Option.some.inj hz
      exact befE_irrefl _
    · exact absurd hzn (h j z (by omega) hz)
  · omega
theorem min_less {L : List En} {now : Int} {i m : Nat} {x y : En} (h : MinAt L now i m) (hx : L[m]? = some x) (hy : L[i]? = some y) (hn : y.t ≤ now) (hlt : y.t < x.t) : MinAt L now (i + 1) i := by
  rcases h with ⟨e, _⟩ | ⟨m2, x2, e, hm, hx2, hxn, h⟩
  · omega
  · obtain rfl : m = m2 := by omega
    rw [hx] at hx2
    obtain rfl := Option.some.inj hx2
    refine .inr ⟨i, y, rfl, by omega, hy, hn, fun j z hj hz hzn => ?_⟩
    by_cases e : j = i
    · subst e
      rw [hy] at hz
      obtain rfl := Option.some.inj hz
      exact befE_irrefl _
    · exact fun hb => h j z (by omega) hz hzn (befE_trans hb (.inl hlt))
theorem min_not {L : List En} (hR : Rising En.nm L) {now : Int} {i m : Nat} {x y : En} (h : MinAt L now i m) (hx : L[m]? = some x) (hy : L[i]? = some y) (hlt : ¬ y.t < x.t) : MinAt L now (i + 1) m := by
  rcases h with ⟨e, _⟩ | ⟨m2, x2, e, hm, hx2, hxn, h⟩
  · omega
  · obtain rfl : m = m2 := by omega
    rw [hx] at hx2
    obtain rfl := Option.some.inj hx2
    refine .inr ⟨m, x, rfl, by omega, hx, hxn, fun j z hj hz hzn => ?_⟩
    by_cases e : j = i
    · subst e
      rw [hy] at hz
      obtain rfl := Option.some.inj hz
      rintro (hb | ⟨_, hb⟩)
      · exact hlt hb
      · obtain ⟨g1, e1⟩ := List.getElem?_eq_some_iff.1 hx
        obtain ⟨g2, e2⟩ := List.getElem?_eq_some_iff.1 hy
        have h5 := List.pairwise_iff_getElem.1 hR m j g1 g2 hm
        rw [e1, e2] at h5
        have := WideShapes.bytes_trans _ _ _ hb h5
        rw [WideAt.bytes_irrefl] at this
        cases this
    · exact h j z (by omega) hz hzn

/-- What has been swept so far, and what is left. -/
structure SwR (L : List En) (now : Int) (ks : List En) : Prop where
  past : ∀ x ∈ ks, x ∈ pastE L now
  srt : ks.Pairwise fun a b => ¬ befE b a
  first : ∀ a ∈ ks, ∀ b ∈ pastE (dropsE L ks) now, ¬ befE b a
  nodup : ks.Nodup
theorem SwR.start (L : List En) (now : Int) : SwR L now [] := ⟨(fun x hx => by cases hx), List.Pairwise.nil, (fun a ha => by cases ha), List.nodup_nil⟩
theorem SwR.step {L ks : List En} {now : Int} (h : SwR L now ks) {x : En} (hx : x ∈ pastE (dropsE L ks) now) (hm : ∀ y ∈ pastE (dropsE L ks) now, ¬ befE y x) : SwR L now (ks ++ [x]) := by
  obtain ⟨h1, h2⟩ := mem_past.1 hx
  obtain ⟨h3, h4⟩ := mem_drops.1 h1
  refine ⟨fun y hy => ?_, List.pairwise_append.2 ⟨h.srt, by simp, fun a ha b hb => ?_⟩, fun a ha b hb => ?_, ?_⟩
  · rcases List.mem_append.1 hy with hy | hy
    · exact h.past y hy
    · simp at hy
      subst hy
      exact mem_past.2 ⟨h3, h2⟩
  · simp at hb
    subst hb
    exact h.first a ha _ hx
  · rw [drops_snoc] at hb
    obtain ⟨hb1, hb2⟩ := mem_past.1 hb
    have hb3 : b ∈ pastE (dropsE L ks) now := mem_past.2 ⟨(mem_drop.1 hb1).1, hb2⟩
    rcases List.mem_append.1 ha with ha | ha
    · exact h.first a ha b hb3
    · simp at ha
      subst ha
      exact hm b hb3
  · rw [List.nodup_append]
    refine ⟨h.nodup, by simp, fun a ha b hb e => ?_⟩
    simp at hb
    exact h4 a ha (by rw [e, hb])
theorem SwR.done {L ks : List En} {now : Int} (hR : Rising En.nm L) (h : SwR L now ks) (hn : ∀ y ∈ dropsE L ks, ¬ y.t ≤ now) : ks.Perm (pastE L now) ∧ dropsE L ks = leftE L now := by
  have hp : ks.Perm (pastE L now) := (List.perm_ext_iff_of_nodup h.nodup (past_nodup hR now)).2 fun x => ⟨h.past x, fun hx => by
    obtain ⟨h1, h2⟩ := mem_past.1 hx
    apply Classical.byContradiction
    intro hc
    refine hn x (mem_drops.2 ⟨h1, fun y hy e => hc ?_⟩) h2
    rw [keyE_one hR h1 (mem_past.1 (h.past y hy)).1 e]
    exact hy⟩
  exact ⟨hp, drops_past hR hp⟩
/-- Sorted, there is one row. -/
theorem sorted_one {L : List En} (hR : Rising En.nm L) {xs ys : List En} (hx : xs.Perm ys) (hl : ∀ x ∈ xs, x ∈ L) (h1 : xs.Pairwise fun a b => ¬ befE b a) (h2 : ys.Pairwise fun a b => ¬ befE b a) : xs = ys := by
  refine hx.eq_of_pairwise (le := fun a b => ¬ befE b a) (fun a b ha hb h3 h4 => ?_) h1 h2
  apply Classical.byContradiction
  intro hc
  have hk : a.k ≠ b.k := fun e => hc (keyE_one hR (hl a ha) (hl b (hx.mem_iff.2 hb)) e)
  rcases befE_total hk with h5 | h5
  · exact h4 h5
  · exact h3 h5

/-- While the document sweeps. -/
structure SwpR (w : World) (base : Nat) (o : Option Nat) (L : List En) (now : Int) (A1 : Option Addr) (n1 c1 : Nat) (Ak : Option Addr) (nk ck : Nat) (ks : List En) (wr : World) : Prop where
  row : RRow wr base A1 n1 c1 (dropsE L ks)
  keys : wr.ownsRow w.heap.size 9 1 (.slice Ak nk ck) nk (ks.map keyV)
  low : Below w.heap.size w wr
  own : ∀ g, (Value.slice A1 n1 c1).ownBlock = some g → o = some g ∨ w.heap.size ≤ g
  sw : SwR L now ks
theorem SwpR.later {w wr w' : World} {base : Nat} {o : Option Nat} {L ks : List En} {now : Int} {A1 Ak : Option Addr} {n1 c1 nk ck : Nat} (h : SwpR w base o L now A1 n1 c1 Ak nk ck ks wr) (hb : Below wr.heap.size wr w') : SwpR w base o L now A1 n1 c1 Ak nk ck ks w' :=
  ⟨h.row.below hb, own_below h.keys hb, h.low.trans (hb.mono h.low.size), h.own, h.sw⟩
def SweepRSaid (base : Nat) (o : Option Nat) (L : List En) (now : Int) (w : World) (e : Ending) (w' : World) : Prop :=
  ∃ A2 n2 c2 A3 n3 c3, ∃ ys : List En, e = .returned (.tuple #[.slice A2 n2 c2, .slice A3 n3 c3]) ∧ Hid (RRow w' base A2 n2 c2 (leftE L now) ∧ Below w.heap.size w w' ∧ (∀ g, (Value.slice A2 n2 c2).ownBlock = some g → o = some g ∨ w.heap.size ≤ g) ∧ w'.ownsRow w.heap.size 9 1 (.slice A3 n3 c3) n3 (ys.map keyV) ∧ ys.Perm (pastE L now) ∧ ys.Pairwise fun a b => ¬ befE b a)
theorem own_two {w : World} {base b2 n c nk ck : Nat} {A Ak : Option Addr} {L ks : List En} (h1 : RRow w base A n c L) (h2 : w.ownsRow b2 9 1 (.slice Ak nk ck) nk (ks.map keyV)) {g : Nat} (hg1 : (Value.slice A n c).ownBlock = some g) (hg2 : (Value.slice Ak nk ck).ownBlock = some g) : False := by
  rcases h1.1.2 with ⟨e, _⟩ | ⟨g1, _, cur1, e, _, hb1, _⟩
  · rw [e] at hg1; simp [Value.ownBlock] at hg1
  · rcases h2.2 with ⟨e2, _⟩ | ⟨g2, _, cur2, e2, _, hb2, _⟩
    · rw [e2] at hg2; simp [Value.ownBlock] at hg2
    · rw [e] at hg1
      rw [e2] at hg2
      simp [Value.ownBlock] at hg1 hg2
      subst hg1 hg2
      rw [hb1] at hb2
      simp at hb2
theorem news_str (w : World) (s : ByteArray) (t : TypeId) : ∀ ad, some (⟨w.heap.size, 0, none⟩ : Addr) = some ad → ∀ j u, ([.string s] : List Value)[j]? = some u → (w.alloc (.cells #[.string s] t)).cell? (ad.add j) = some u := fun ad had j u hu => news_new w (.string s) t ad had j u hu

set_option maxHeartbeats 6400000 in
set_option maxRecDepth 100000 in
theorem refSweep_any {w : World} {base n c : Nat} {A : Option Addr} {L : List En} (h : RRow w base A n c L) (hb : base ≤ w.heap.size) (hn : n < 800000) (hR : Rising En.nm L) (now : Int) :
    Calls Try.prog 15 #[.slice A n c, .int .i64 now] w (SweepRSaid base (Value.slice A n c).ownBlock L now w) := by
  have HS0 : Hid (SwpR w base (Value.slice A n c).ownBlock L now A n c none 0 0 [] w) := Lib.hid ⟨h, World.ownsRow_nil _ _ _ _, Below.refl _ _, fun g hg => .inl hg, SwR.start L now⟩
  obtain ⟨i0, hi, hz0, hz1, hz2⟩ := info_parts info_string
  have HRs := Lib.hid hR
  have HBs := Lib.hid hb
  generalize (Value.slice A n c).ownBlock = o at *
  clear h hR hb
  go_enter Try.func15, Try.ntmps15
  go_wp2
  go_loopw [0, 6] (fun u v wr => ∃ (A1 : Option Addr) (n1 c1 : Nat) (Ak : Option Addr) (nk ck : Nat) (ks : List En), u = .slice A1 n1 c1 ∧ v = .slice Ak nk ck ∧ n1 + nk ≤ n ∧ Hid (SwpR w base o L now A1 n1 c1 Ak nk ck ks wr)) (fun u _ _ => match u with | .slice _ m _ => m | _ => 0)
  case atStart => exact ⟨A, n, c, none, 0, 0, [], rfl, rfl, Nat.le_refl _, HS0⟩
  case round =>
    clear HS0
    obtain ⟨A1, n1, c1, Ak, nk, ck, ks, rfl, rfl, hnn, HS⟩ := hrel
    have HLN := Lib.hid HS.out.row.len
    obtain ⟨hc1, hm1⟩ := HS.out.row.caps
    have HRD : Hid (Rising En.nm (dropsE L ks)) := Lib.hid (rise_drops HRs.out)
    generalize wr = wo at *
    generalize hLc : dropsE L ks = Lc at HRD HLN
    have HLC := Lib.hid hLc
    clear hLc
    go_wp2
    go_loopw [7, 8] (fun a i wr => ∃ (j q : Nat) (av : Int), a = .int .i64 av ∧ i = .int .i64 j ∧ j ≤ n1 ∧ av < n1 ∧ -1 ≤ av ∧ wr = wo.drewN q ∧ Hid (MinAt Lc now j av)) (fun _ i _ => n1 - (intOf i).toNat)
    case atStart => exact ⟨0, 0, -1, rfl, rfl, Nat.zero_le _, by omega, by omega, rfl, Lib.hid (min_start Lc now)⟩
    case round =>
      obtain ⟨j, q, av, rfl, rfl, hj, hav, hav1, rfl, HM⟩ := hrel
      by_cases hjn : j < n1
      · obtain ⟨y, hy⟩ : ∃ y, Lc[j]? = some y := ⟨_, List.getElem?_eq_getElem (by rw [HLN.out]; exact hjn)⟩
        obtain ⟨b, yv, hA, hyv, r0, r1, r2⟩ := HS.out.row.cell (by rw [HLC.out]; exact hy)
        subst hA
        have HY := Lib.hid hy
        have hjn' : (j : Int) < n1 := by omega
        by_cases hyn : y.t ≤ now
        · rcases (by omega : av = -1 ∨ 0 ≤ av) with rfl | hav0
          · have HM2 := Lib.hid (min_first HM.out hy hyn)
            have s2 : (wo.drewN q).cell? ⟨b, j * 3 + 2, none⟩ = some (.int .i64 y.t) := r2
            clear hy hyv r0 r1 r2 HM
            generalize hW : wo.drewN q = W at *
            have HW := Lib.hid hW
            clear hW
            go_wp2_with fail
            go_quiet (fail)
            have HW2 : Hid (W.drewN nq = wo.drewN (q + nq)) := Lib.hid (by rw [← HW.out]; simp [World.drewN, Nat.add_assoc])
            go_wp2
            go_roundw
            case rel => exact ⟨j + 1, q + nq, j, rfl, by go_num, by omega, by omega, by omega, HW2.out, HM2⟩
            case measure => simp [intOf]; omega
          · obtain ⟨m, hm⟩ : ∃ m : Nat, av = m := ⟨av.toNat, by omega⟩
            subst hm
            obtain ⟨x, hx⟩ : ∃ x, Lc[m]? = some x := ⟨_, List.getElem?_eq_getElem (by rw [HLN.out]; omega)⟩
            obtain ⟨b9, xv, hA9, hxv, p0, p1, p2⟩ := HS.out.row.cell (by rw [HLC.out]; exact hx)
            obtain rfl : b = b9 := by simpa using hA9
            have hneg : ¬ (m : Int) < 0 := by omega
            have hm' : (m : Int) < n1 := by omega
            have s2 : (wo.drewN q).cell? ⟨b, j * 3 + 2, none⟩ = some (.int .i64 y.t) := r2
            have u2 : (wo.drewN q).cell? ⟨b, m * 3 + 2, none⟩ = some (.int .i64 x.t) := p2
            by_cases hlt : y.t < x.t
            · have HM2 := Lib.hid (min_less HM.out hx hy hyn hlt)
              have hd : decide (y.t < x.t) = true := by simpa using hlt
              clear hy hyv r0 r1 r2 HM hx hxv p0 p1 p2 hA9
              generalize hW : wo.drewN q = W at *
              have HW := Lib.hid hW
              clear hW
              go_wp2_with fail
              go_quiet (fail)
              have HW2 : Hid (W.drewN nq = wo.drewN (q + nq)) := Lib.hid (by rw [← HW.out]; simp [World.drewN, Nat.add_assoc])
              go_wp2
              go_roundw
              case rel => exact ⟨j + 1, q + nq, j, rfl, by go_num, by omega, by omega, by omega, HW2.out, HM2⟩
              case measure => simp [intOf]; omega
            · have HM2 := Lib.hid (min_not HRD.out HM.out hx hy hlt)
              have hd : decide (y.t < x.t) = false := by simpa using hlt
              clear hy hyv r0 r1 r2 HM hx hxv p0 p1 p2 hA9
              generalize hW : wo.drewN q = W at *
              have HW := Lib.hid hW
              clear hW
              go_wp2_with fail
              go_quiet (fail)
              have HW2 : Hid (W.drewN nq = wo.drewN (q + nq)) := Lib.hid (by rw [← HW.out]; simp [World.drewN, Nat.add_assoc])
              go_wp2
              go_roundw
              case rel => exact ⟨j + 1, q + nq, m, rfl, by go_num, by omega, by omega, by omega, HW2.out, HM2⟩
              case measure => simp [intOf]; omega
        · have HM2 := Lib.hid (min_skip HM.out hy hyn)
          have hd : decide (y.t ≤ now) = false := by simpa using hyn
          have s2 : (wo.drewN q).cell? ⟨b, j * 3 + 2, none⟩ = some (.int .i64 y.t) := r2
          clear hy hyv r0 r1 r2 HM
          generalize hW : wo.drewN q = W at *
          have HW := Lib.hid hW
          clear hW
          go_wp2_with fail
          go_quiet (fail)
          have HW2 : Hid (W.drewN nq = wo.drewN (q + nq)) := Lib.hid (by rw [← HW.out]; simp [World.drewN, Nat.add_assoc])
          go_wp2
          go_roundw
          case rel => exact ⟨j + 1, q + nq, av, rfl, by go_num, by omega, by omega, by omega, HW2.out, HM2⟩
          case measure => simp [intOf]; omega
      · obtain rfl : j = n1 := by omega
        have hd0 : decide ((j : Int) < (j : Int)) = false := decide_eq_false (by omega)
        have HS2 := Lib.hid (HS.out.later (w' := wo.drewN q) ⟨rfl, rfl, rfl, Nat.le_refl _, fun _ _ => rfl⟩)
        generalize wo.drewN q = W at *
        clear HS
        rcases (by omega : av = -1 ∨ 0 ≤ av) with rfl | hav0
        · have HE : Hid (SweepRSaid base o L now w (.returned (.tuple #[.slice A1 j c1, .slice Ak nk ck])) W) := Lib.hid (by
            have hno : ∀ y ∈ dropsE L ks, ¬ y.t ≤ now := fun y hy => by
              rcases HM.out with ⟨_, h1⟩ | ⟨m, _, e, _⟩
              · obtain ⟨i, hi2, e⟩ := List.getElem_of_mem hy
                rw [HLC.out] at hi2
                refine h1 i y (by rw [HLN.out] at hi2; exact hi2) ?_
                rw [← HLC.out, List.getElem?_eq_getElem (by rw [HLC.out]; exact hi2), e]
              · omega
            obtain ⟨h1, h2⟩ := HS2.out.sw.done HRs.out hno
            have h3 := HS2.out.row
            rw [h2] at h3
            exact ⟨A1, j, c1, Ak, nk, ck, ks, rfl, Lib.hid ⟨h3, HS2.out.low, HS2.out.own, HS2.out.keys, h1, HS2.out.sw.srt⟩⟩)
          clear HM
          go_wp2
          go_ret2
          exact HE.out
        · obtain ⟨m, hm⟩ : ∃ m : Nat, av = m := ⟨av.toNat, by omega⟩
          subst hm
          have hneg : ¬ (m : Int) < 0 := by omega
          have hm' : (m : Int) < j := by omega
          obtain ⟨x, hx⟩ : ∃ x, Lc[m]? = some x := ⟨_, List.getElem?_eq_getElem (by rw [HLN.out]; omega)⟩
          obtain ⟨b, xv, hA, hxv, r0, r1, r2⟩ := HS2.out.row.cell (by rw [HLC.out]; exact hx)
          subst hA
          have HXP : Hid (x ∈ pastE (dropsE L ks) now ∧ ∀ y ∈ pastE (dropsE L ks) now, ¬ befE y x) := Lib.hid (by
            rw [HLC.out]
            rcases HM.out with ⟨e, _⟩ | ⟨m2, x2, e, hm2, hx2, hxn, h1⟩
            · omega
            · obtain rfl : m = m2 := by omega
              rw [hx] at hx2
              obtain rfl := Option.some.inj hx2
              refine ⟨mem_past.2 ⟨List.mem_of_getElem? hx, hxn⟩, fun y hy => ?_⟩
              obtain ⟨g1, g2⟩ := mem_past.1 hy
              obtain ⟨i, hi2, e⟩ := List.getElem_of_mem g1
              exact h1 i y (by rw [HLN.out] at hi2; exact hi2) (by rw [List.getElem?_eq_getElem hi2, e]) g2)
          have HDL : Hid ((dropE (dropsE L ks) x.k).length + 1 = j) := Lib.hid (by
            have h1 := length_drop (rise_drops (zs := ks) HRs.out) (findE_mem (rise_drops HRs.out) (mem_past.1 HXP.out.1).1)
            have h2 := HS2.out.row.len
            omega)
          have HKY := Lib.hid HS2.out.keys
          have HKB := Lib.hid HS2.out.low.size
          have HAP : Hid (∀ v2 w2, w2.ownsRow w.heap.size 9 1 v2 (nk + 1) (ks.map keyV ++ [.string x.k]) → (W.alloc (.cells #[.string x.k] 9)).grownBy w2 (Value.slice Ak nk ck).ownBlock → ∃ A3 c3, v2 = .slice A3 (nk + 1) c3 ∧ w2.cell? ⟨b, m * 3, none⟩ = some (.string x.k) ∧
              Hid (Calls Try.prog 14 #[.slice (some ⟨b, 0, none⟩) j c1, .string x.k] w2 fun e w3 => ∃ A4 n4 c4, e = .returned (.slice A4 n4 c4) ∧ n4 + 1 = j ∧ Hid (SwpR w base o L now A4 n4 c4 A3 (nk + 1) c3 (ks ++ [x]) w3))) := Lib.hid fun v2 w2 ho hg => by
            obtain ⟨A3, c3, rfl⟩ := own_slice ho
            have hlow := HS2.out.low
            have hbw2 : Below w.heap.size w w2 := (hlow.alloc hlow.size _).grown hg (by simp; have := hlow.size; omega) fun i hi => (HS2.out.keys.lt i hi).1
            have hs2 := hbw2.size
            have hWa : Chg (fun _ => False) W (W.alloc (.cells #[.string x.k] 9)) := Chg.alloc _ _
            have hrow : RRow w2 base (some ⟨b, 0, none⟩) j c1 (dropsE L ks) := (HS2.out.row.chg hWa fun _ _ => id).chg (Chg.of_grown hg) fun g hg1 hg2 => own_two HS2.out.row HS2.out.keys hg1 hg2
            refine ⟨A3, c3, rfl, ?_, Lib.hid ((refDrop_any hrow (by omega) x.k).mono ?_)⟩
            · obtain ⟨b9, _, hA9, _, k0, _⟩ := hrow.cell (by rw [HLC.out]; exact hx)
              obtain rfl : b = b9 := by simpa using hA9
              exact k0
            · rintro e w3 ⟨A4, n4, c4, rfl, hM4⟩
              have hM := hM4.out
              have hl4 := hM.1.len
              have hdl := HDL.out
              refine ⟨A4, n4, c4, rfl, by omega, Lib.hid ⟨?_, ?_, hbw2.trans (hM.2.mono hs2), fun g hg1 => .inr ?_, HS2.out.sw.step HXP.out.1 HXP.out.2⟩⟩
              · rw [drops_snoc]
                exact hM.1.rebase (Nat.le_trans HBs.out hs2)
              · have := own_below ho hM.2
                rw [List.map_append]
                exact this
              · have := (hM.1.lt g hg1).1
                omega
          clear hx hxv HM HXP
          go_wp2_with (first
            | (at_builtin; refine wpList_append_src (o := ⟨some 51, _, _, _, _, _⟩) rfl (.tmp 44) (.tmp 50) 38 rfl w.heap.size 9 i0 _ 1 16 Try.underlying38 hi hz0 hz1 hz2 rfl (by omega) _ nk (ks.map keyV) rfl (HKY.out.alloc _) (some ⟨W.heap.size, 0, none⟩) 1 1 [.string x.k] rfl rfl (fun e => by cases e) (news_str W _ _) (fun u hu => by simp at hu; subst hu; rfl) (by unfold maxLen; omega) (by omega) (by have := HKB.out; simp; omega) ?_; intro v2 w2 ho2 hg2; obtain ⟨A3, c3, rfl, t0, HDC⟩ := HAP.out v2 w2 ho2 hg2; clear ho2 hg2)
            | (go_at_call 14; refine HDC.out.mono ?_; rintro e w3 ⟨A4, n4, c4, rfl, hn4, HS4⟩))
          go_roundw
          case rel => exact ⟨A4, n4, c4, A3, nk + 1, c3, ks ++ [x], rfl, rfl, by omega, HS4⟩
          case measure => simp; omega
end Go.Proofs.Ytcdjahmnobjpkaa
