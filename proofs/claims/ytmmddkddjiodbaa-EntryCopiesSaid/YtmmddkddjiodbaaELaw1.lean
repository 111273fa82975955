/- What is proved here: the document's Merge in all its ways; the laws' Of and few; what comes in as calls. -/
import Derived.Test.YtmmddkddjiodbaaERef6
namespace Go.Proofs.Ytmmddkddjiodbaa
open Go Go.RowKit Go.Maps Go.WideMaps

section
variable {w : World} {B T : Int} {A : Option Addr} {n c : Nat} {L : List En} {Ψ : Nat → Prop}
theorem RMerge_any (h : SRd enC w Ψ A n c L) (h0 : 0 ≤ B) (h1 : B ≤ 4611686018427387904) (hn : n < 800000) {A2 : Option Addr} {m d : Nat} {M : List En} {Ψ2 : Nat → Prop} (hM : WRd enC w Ψ2 A2 m d M) (hm : m < 100000) {y : Int} (hy0 : 0 ≤ y) (hy : I64 y) (term : Int) :
    Calls Try.prog 31 #[rlV B T A n c, .int .i64 y, .int .i64 term, .slice A2 m d] w (RLeft3 w Ψ B T (mergeF B T L y term M).1 (mergeF B T L y term M).2.1 (mergeF B T L y term M).2.2) := by
  have hml := hM.len
  unfold mergeF
  rw [if_neg (by omega), hml]
  by_cases c2 : y < B
  · rw [if_pos c2]
    by_cases c3 : (m : Int) ≤ B - y
    · rw [if_pos c3]
      exact (RMerge_same h h0 h1 (by omega) hy0 hy hm).1 c2 c3
    · rw [if_neg c3]
      exact RMerge_past h h1 hn hM hm hy0 c2 (by omega) term
  · rw [if_neg c2]
    by_cases c3 : hasAt B L y = true ∧ termAt B T L y = term
    · rw [if_pos c3]
      have hh := c3.1
      unfold hasAt at hh
      rw [decide_eq_true_eq, h.len] at hh
      obtain ⟨p, hp⟩ : ∃ p : Nat, y = B + p := ⟨(y - B).toNat, by omega⟩
      subst hp
      have := RMerge_at (T := T) h h0 h1 hn hM hm (p := p) (by omega)
      rw [c3.2] at this
      rw [show (B + (p : Int) - B).toNat = p by omega]
      exact this
    · rw [if_neg c3]
      exact (RMerge_same h h0 h1 (by omega) hy0 hy hm).2 (by omega) c3
/-- What Of returns. -/
def OfSaid (L : List En) (w : World) (e : Ending) (w' : World) : Prop :=
  ∃ A c, e = .returned (.slice A L.length c) ∧ Mk enC 2 36 w L A L.length c w'
set_option maxHeartbeats 3200000 in
set_option maxRecDepth 100000 in
theorem Of_any (h : WRd enC w Ψ A n c L) (hn : n < 1000000) : Calls Try.prog 25 #[.slice A n c] w (OfSaid L w) := by
  obtain ⟨i0, hi0, hz0, hz1, hz2⟩ := info_partsR info_en
  have hcaps := h.caps
  have HS : Hid (∀ V, Below w.heap.size w V → WRd enC V Ψ A n c L) := Lib.hid fun V hb => h.below hb
  have HLN := Lib.hid h.len
  clear h
  go_enter Try.func25, Try.ntmps25
  go_wp2_with fail
  go_loopw [3, 8] (fun v i wr => ∃ (k : Nat) (Ar : Option Addr) (cr : Nat), i = .int .i64 k ∧ k ≤ n ∧ v = .slice Ar k cr ∧ Hid (Mk enC 2 36 w (L.take k) Ar k cr wr)) (fun _ i _ => n - (intOf i).toNat)
  case atStart => exact ⟨0, none, 0, rfl, Nat.zero_le _, rfl, Lib.hid (Mk.start _ _ _ (Below.refl _ _))⟩
  case round =>
    obtain ⟨k, Ar, cr, rfl, hkn, rfl, HM⟩ := hrel
    by_cases hlt : k < n
    · have hlt' : (k : Int) < n := by omega
      obtain ⟨x, hx⟩ : ∃ x, L[k]? = some x := ⟨_, List.getElem?_eq_getElem (by rw [HLN.out]; exact hlt)⟩
      obtain ⟨g, o, rfl, hg, _, q0, q1⟩ := (HS.out wr HM.out.bel).en hx
      have HTK := Lib.hid (take_more hx)
      obtain ⟨V, hV⟩ : ∃ V, V = wr.alloc (.cells #[.int .i64 x.t, .string x.d] 47) := ⟨_, rfl⟩
      have hbV : Below wr.heap.size wr V := by rw [hV]; exact (Below.refl _ _).alloc (Nat.le_refl _) _
      have hres : V.heap[wr.heap.size]? = some (.cells #[.int .i64 x.t, .string x.d] 47 (0, 0)) := by rw [hV]; exact heap_alloc_new _ _
      obtain ⟨r0, r1, _, _⟩ := two_cells hres
      obtain ⟨V2, hV2⟩ : ∃ V2, V2 = V.alloc (.cells #[.int .i64 x.t, .string x.d] 36) := ⟨_, rfl⟩
      have hbV2 : Below wr.heap.size wr V2 := by rw [hV2]; exact hbV.alloc hbV.size _
      have hm2 := HM.out.later hbV2
      have HOW := Lib.hid hm2.row
      have HSZ := Lib.hid hm2.bel.size
      have HNW : Hid (∀ j u, (enC x)[j]? = some u → V2.cell? ((⟨V.heap.size, 0, none⟩ : Addr).add j) = some u) := Lib.hid (by rw [hV2]; exact news_two V x _)
      have H1 := Lib.hid (one_en x)
      have HL2 : Hid ((enC x).length = 1 * 2) := Lib.hid rfl
      have HAP : Hid (∀ v3 w3, w3.ownsRow w.heap.size 36 2 v3 (k + 1) ((L.take k).flatMap enC ++ enC x) → V2.grownBy w3 (Value.slice Ar k cr).ownBlock → ∃ A3 c3, v3 = .slice A3 (k + 1) c3 ∧ Hid (Mk enC 2 36 w (L.take (k + 1)) A3 (k + 1) c3 w3)) := Lib.hid fun v3 w3 ho hg => by
        rw [HTK.out]
        exact hm2.appsTo (M := [x]) (m := 1) rfl rfl rfl (by rw [List.flatMap_singleton]; exact ho) hg
      have HV := Lib.hid hV
      have HV2 := Lib.hid hV2
      clear hx hg hV hV2 hbV hbV2 hres hm2 HTK
      generalize enC x = xc at *
      obtain ⟨xt, xd⟩ := x
      dsimp only at *
      go_upto_region 5 with fail
      rw [← HV.out]
      clear q0 q1
      go_wp2_with (rw [← HV2.out]; at_builtin; refine wpList_append_src (o := ⟨some 15, _, _, _, _, _⟩) rfl (.tmp 12) (.tmp 14) 44 rfl w.heap.size 36 i0 _ 2 24 Try.underlying44 hi0 hz0 hz1 hz2 rfl (by omega) _ k _ rfl HOW.out (some ⟨V.heap.size, 0, none⟩) 1 1 xc rfl HL2.out (fun e => by cases e) (fun ad had => by cases had; exact HNW.out) H1.out (by unfold maxLen; omega) (by omega) HSZ.out ?_; intro v3 w3 ho3 hg3; obtain ⟨A3, c3, rfl, HM3⟩ := HAP.out v3 w3 ho3 hg3; clear ho3 hg3)
      go_roundw
      case rel => exact ⟨k + 1, A3, c3, by go_num, by omega, rfl, HM3⟩
      case measure => simp [intOf]; omega
    · obtain rfl : k = n := by omega
      have hd0 : decide ((k : Int) < (k : Int)) = false := decide_eq_false (by omega)
      have HE : Hid (OfSaid L w (.returned (.slice Ar k cr)) wr) := Lib.hid (by
        have := HM.out
        rw [List.take_of_length_le (by rw [HLN.out]; exact Nat.le_refl _)] at this
        have hl := HLN.out
        exact ⟨Ar, cr, by rw [hl], by rw [hl]; exact this⟩)
      go_wp2_with fail
      go_ret
      exact HE.out
/-- A call: what stands in its struct, and the entries that come with it. -/
structure OpM where
  kind : Int
  at_ : Int
  term : Int
  A : Option Addr
  n : Nat
  c : Nat
  M : List En
def opC (p : OpM) : List Value := [.int .i64 p.kind, .int .i64 p.at_, .int .i64 p.term, .slice p.A p.n p.c]
theorem op_len (p : OpM) : (opC p).length = 4 := rfl
structure OpOk (w : World) (N : Nat) (p : OpM) : Prop where
  ik : I64 p.kind
  ia : I64 p.at_
  it : I64 p.term
  rd : WRd enC w (fun k => k < N) p.A p.n p.c p.M
  sz : p.n ≤ 140737488355328
  ti : ∀ x ∈ p.M, I64 x.t
theorem OpOk.below {w w' : World} {N : Nat} {p : OpM} (h : OpOk w N p) (hb : Below N w w') : OpOk w' N p := ⟨h.ik, h.ia, h.it, h.rd.below' hb, h.sz, h.ti⟩
/-- A slice of calls. -/
structure OpsRd (w : World) (A : Option Addr) (n c : Nat) (l : List OpM) : Prop where
  rd : WRd opC w (fun k => k < w.heap.size) A n c l
  ok : ∀ p ∈ l, OpOk w w.heap.size p
def sumN (l : List OpM) : Nat := (l.map OpM.n).sum
theorem sumN_more {l : List OpM} {k : Nat} {p : OpM} (h : l[k]? = some p) : sumN (l.take (k + 1)) = sumN (l.take k) + p.n := by
  unfold sumN
  rw [take_more h, List.map_append, List.sum_append]
  simp
theorem sumN_le (l : List OpM) (k : Nat) : sumN (l.take k) ≤ sumN l := by
  unfold sumN
  conv => rhs; rw [← List.take_append_drop k l]
  rw [List.map_append, List.sum_append]
  omega
/-- May calls be gone through here? -/
structure FewOk (l : List OpM) : Prop where
  n60 : l.length ≤ 60
  s400 : sumN l ≤ 400
  at_ : ∀ p ∈ l, -1099511627776 ≤ p.at_ ∧ p.at_ ≤ 1099511627776
def FewSaid (l : List OpM) (w : World) (e : Ending) (w' : World) : Prop := ∃ q, e = .returned (.bool q) ∧ (q = true → FewOk l) ∧ w = w'
theorem WRd.op {l : List OpM} (h : WRd opC w Ψ A n c l) {j : Nat} {p : OpM} (hx : l[j]? = some p) : ∃ b o, A = some ⟨b, o, none⟩ ∧ b < w.heap.size ∧ Ψ b ∧ w.cell? ⟨b, o + j * 4, none⟩ = some (.int .i64 p.kind) ∧ w.cell? ⟨b, o + j * 4 + 1, none⟩ = some (.int .i64 p.at_) ∧ w.cell? ⟨b, o + j * 4 + 2, none⟩ = some (.int .i64 p.term) ∧ w.cell? ⟨b, o + j * 4 + 3, none⟩ = some (.slice p.A p.n p.c) := by
  obtain ⟨b, o, e, hb, hp, hc⟩ := h.cell op_len hx
  exact ⟨b, o, e, hb, hp, hc 0 _ rfl, hc 1 _ rfl, hc 2 _ rfl, hc 3 _ rfl⟩
set_option maxHeartbeats 3200000 in
set_option maxRecDepth 100000 in
theorem few_any {l : List OpM} (h : OpsRd w A n c l) : Calls Try.prog 9 #[.slice A n c] w (FewSaid l w) := by
  have hcaps := h.rd.caps
  have hln := h.rd.len
  have HO := Lib.hid h
  have HF : Hid (∀ w', w = w' → FewSaid l w (.returned (.bool false)) w') := Lib.hid fun w' e => ⟨false, rfl, (fun h => by cases h), e⟩
  have HT : Hid (n ≤ 60 → sumN (l.take n) ≤ 400 → (∀ p ∈ l.take n, -1099511627776 ≤ p.at_ ∧ p.at_ ≤ 1099511627776) → FewSaid l w (.returned (.bool true)) w) := Lib.hid fun h1 h2 h3 => by
    rw [List.take_of_length_le (by rw [hln]; exact Nat.le_refl _)] at h2 h3
    exact ⟨true, rfl, fun _ => ⟨by omega, h2, h3⟩, rfl⟩
  have HLN := Lib.hid hln
  clear h hln
  go_enter Try.func9, Try.ntmps9
  go_wp2_with fail
  go_loop [3, 4] (fun s i => ∃ k s0 : Nat, i = .int .i64 k ∧ s = .int .i64 s0 ∧ k ≤ n ∧ k ≤ 61 ∧ s0 ≤ k * 140737488355328 ∧ Hid (s0 = sumN (l.take k)) ∧ Hid (∀ p ∈ l.take k, -1099511627776 ≤ p.at_ ∧ p.at_ ≤ 1099511627776)) (fun _ i => n - (intOf i).toNat)
  case atStart => exact ⟨0, 0, rfl, rfl, Nat.zero_le _, by omega, by omega, Lib.hid rfl, Lib.hid (fun p hp => by simp at hp)⟩
  case round =>
    obtain ⟨k, s0, rfl, rfl, hkn, hk61, hs0, HS, HP⟩ := hrel
    by_cases hlt : k < n
    · have hlt' : (k : Int) < n := by omega
      by_cases h60 : k ≤ 60
      · obtain ⟨p, hp⟩ : ∃ p, l[k]? = some p := ⟨_, List.getElem?_eq_getElem (by rw [HLN.out]; exact hlt)⟩
        obtain ⟨g, o, rfl, _, _, q0, q1, q2, q3⟩ := HO.out.rd.op hp
        have hok := HO.out.ok p (List.mem_of_getElem? hp)
        have hsz := hok.sz
        have HS2 : Hid (s0 + p.n = sumN (l.take (k + 1))) := Lib.hid (by rw [sumN_more hp, HS.out])
        have HPI : Hid ((-1099511627776 ≤ p.at_ ∧ p.at_ ≤ 1099511627776) → ∀ r ∈ l.take (k + 1), -1099511627776 ≤ r.at_ ∧ r.at_ ≤ 1099511627776) := Lib.hid fun hh r hr => by
          rw [take_more hp] at hr
          rcases List.mem_append.1 hr with hr | hr
          · exact HP.out r hr
          · simp at hr
            subst hr
            exact hh
        clear hp hok HS HP q0 q2
        obtain ⟨kd, y, tm, Ap, np, cp, M⟩ := p
        dsimp only at *
        by_cases hr : -1099511627776 ≤ y ∧ y ≤ 1099511627776
        · have HP2 := Lib.hid (HPI.out hr)
          have d1 : ¬ y < -1099511627776 := by omega
          have d2 : ¬ 1099511627776 < y := by omega
          clear HPI hr
          go_wp2_with fail
          go_round
          case rel => exact ⟨k + 1, s0 + np, by go_num, by go_num, by omega, by omega, by omega, HS2, HP2⟩
          case measure => simp [intOf]; omega
        · have d1 : y < -1099511627776 ∨ (¬ y < -1099511627776 ∧ 1099511627776 < y) := by omega
          clear HPI hr
          rcases d1 with d1 | ⟨d1, d2⟩
          · go_wp2_with fail
            go_ret
            exact HF.out _ rfl
          · go_wp2_with fail
            go_ret
            exact HF.out _ rfl
      · have d1 : ¬ (k : Int) ≤ 60 := by omega
        have d2 : ¬ (n : Int) ≤ 60 := by omega
        go_wp2_with fail
        go_ret
        exact HF.out _ rfl
    · obtain rfl : k = n := by omega
      have hd0 : decide ((k : Int) < (k : Int)) = false := decide_eq_false (by omega)
      by_cases h60 : k ≤ 60
      · have d1 : (k : Int) ≤ 60 := by omega
        by_cases h400 : s0 ≤ 400
        · have d2 : (s0 : Int) ≤ 400 := by omega
          have HE := Lib.hid (HT.out h60 (by rw [← HS.out]; exact h400) HP.out)
          clear HT HF HS HP
          go_wp2_with fail
          go_ret
          exact HE.out
        · have d2 : ¬ (s0 : Int) ≤ 400 := by omega
          clear HT HS HP
          go_wp2_with fail
          go_ret
          exact HF.out _ rfl
      · have d1 : ¬ (k : Int) ≤ 60 := by omega
        clear HT HS HP
        go_wp2_with fail
        go_ret
        exact HF.out _ rfl
end
end Go.Proofs.Ytmmddkddjiodbaa
