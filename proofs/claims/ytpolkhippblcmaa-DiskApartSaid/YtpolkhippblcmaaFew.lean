/- What is proved here: what 'few' and the laws' own 'Do' do. -/
import Derived.Test.YtpolkhippblcmaaArgs
import Derived.Deep.DeepCutAuto
namespace Go.Proofs.Ytpolkhippblcmaa
open Go Go.RowKit Go.Maps

def weigh (p : OpM) : Nat := p.bn + p.nm.size + p.tn.size
def weighs (l : List OpM) : Nat := (l.map weigh).sum
theorem weighs_snoc (l : List OpM) (p : OpM) : weighs (l ++ [p]) = weighs l + weigh p := by simp [weighs]
/-- May calls be gone through? -/
def fewF (l : List OpM) : Bool := decide (l.length ≤ 60) && decide (weighs (l.take 61) ≤ 3000)

theorem OpsRd.at {w : World} {B : Nat} {A : Option Addr} {n c : Nat} {l : List OpM} (h : OpsRd w B A n c l) {j : Nat} (hj : j < n) :
    ∃ p b o, l[j]? = some p ∧ p ∈ l ∧ A = some ⟨b, o, none⟩ ∧ b < B ∧ (∀ i u, p.vals[i]? = some u → w.cell? ⟨b, o + (j * 6 + i), none⟩ = some u) ∧ OpOk w B p := by
  have hl : j < l.length := by rw [h.len]; exact hj
  obtain ⟨b, o, e, hB, hc⟩ := h.place j l[j] (List.getElem?_eq_getElem hl)
  exact ⟨l[j], b, o, List.getElem?_eq_getElem hl, List.getElem_mem hl, e, hB, hc, h.ok _ (List.getElem_mem hl)⟩

set_option maxHeartbeats 1600000 in
set_option maxRecDepth 100000 in
theorem few_any {w : World} {B : Nat} {A : Option Addr} {n c : Nat} {l : List OpM} (h : OpsRd w B A n c l) :
    Calls Try.prog 6 #[.slice A n c] w fun e w' => e = .returned (.bool (fewF l)) ∧ ∃ q, w' = w.drewN q := by
  have hc := h.cap
  have hm := h.max
  unfold maxLen at hm
  have HD := Lib.hid h
  have HLEN := Lib.hid h.len
  clear h
  go_enter Try.func6, Try.ntmps6
  go_wp2_with fail
  go_loopw [3, 4] (fun t i wr => ∃ k W : Nat, i = .int .i64 k ∧ t = .int .i64 W ∧ k ≤ n ∧ k ≤ 61 ∧ W ≤ k * 422212465053696 ∧ Hid (weighs (l.take k) = W) ∧ Hid (∃ q, wr = w.drewN q))
    (fun _ i _ => 61 - (intOf i).toNat)
  case atStart => exact ⟨0, 0, rfl, rfl, Nat.zero_le _, by omega, by omega, Lib.hid rfl, Lib.hid ⟨0, rfl⟩⟩
  case round =>
    obtain ⟨k, W, rfl, rfl, hk, hk2, hW, HW, HQ⟩ := hrel
    by_cases hkn : k < n
    · by_cases hk60 : k ≤ 60
      · obtain ⟨p, b, o, hp, _, rfl, hbB, hcell, hok⟩ := HD.out.at hkn
        obtain ⟨q, hq⟩ := HQ.out
        have e0 : wr.cell? ⟨b, o + k * 6 + 1, none⟩ = some (.string p.nm) := by rw [hq]; exact hcell 1 _ rfl
        have e1 : wr.cell? ⟨b, o + k * 6 + 2, none⟩ = some (.string p.tn) := by rw [hq]; exact hcell 2 _ rfl
        have e2 : wr.cell? ⟨b, o + k * 6 + 3, none⟩ = some (.slice p.bA p.bn p.bc) := by rw [hq]; exact hcell 3 _ rfl
        have s0 := hok.sn
        have s1 := hok.st
        have s2 := hok.sb
        have s3 := hok.rb.cap
        have s4 := hok.rb.max
        unfold maxLen at s4
        have HW2 : Hid (weighs (l.take (k + 1)) = W + (p.bn + p.nm.size + p.tn.size)) := Lib.hid (by
          rw [List.take_add_one, hp]
          show weighs (l.take k ++ [p]) = _
          rw [weighs_snoc, HW.out]
          rfl)
        have hkn' : (k : Int) < n := by omega
        have hk60' : (k : Int) ≤ 60 := by omega
        have HQ2 := Lib.hid hq
        obtain ⟨pk, pnm, ptn, pbA, pbn, pbc, pb, pn, pkA, pkn, pkc, pks⟩ := p
        simp only at e0 e1 e2 s0 s1 s2 s3 s4
        clear hp hcell hok hq HQ
        generalize hz0 : pnm.size = z0 at *
        generalize hz1 : ptn.size = z1 at *
        obtain ⟨w1, w2, w3⟩ : IntKind.i64.wrap ((pbn : Int) + (z0 : Int)) = (pbn : Int) + (z0 : Int) ∧ IntKind.i64.wrap ((pbn : Int) + (z0 : Int) + (z1 : Int)) = (pbn : Int) + (z0 : Int) + (z1 : Int) ∧ IntKind.i64.wrap ((W : Int) + ((pbn : Int) + (z0 : Int) + (z1 : Int))) = (W : Int) + ((pbn : Int) + (z0 : Int) + (z1 : Int)) :=
          ⟨IntWalk.i64_in _ (by omega), IntWalk.i64_in _ (by omega), IntWalk.i64_in _ (by omega)⟩
        go_wp2_with fail
        go_quiet (fail)
        clear w1 w2 w3
        go_wp2_with fail
        go_roundw
        case rel =>
          refine ⟨k + 1, W + (pbn + z0 + z1), by go_num, by go_num, by omega, by omega, by omega, HW2, Lib.hid ?_⟩
          rw [HQ2.out]
          exact ⟨_, by rw [World.drewN_drewN]⟩
        case measure => simp [intOf]; omega
      · have hk61 : k = 61 := by omega
        subst hk61
        have hkn' : (61 : Int) < n := by omega
        have HF : Hid (fewF l = false) := Lib.hid (by
          unfold fewF
          rw [decide_eq_false (by rw [HLEN.out]; omega)]
          rfl)
        have hn60 : (60 : Int) < n := by omega
        obtain ⟨q, hq⟩ := HQ.out
        have HQ2 := Lib.hid hq
        clear hq
        go_wp2_with fail
        go_ret
        exact ⟨by rw [HF.out]; rfl, q, HQ2.out⟩
    · obtain rfl : k = n := by omega
      obtain ⟨q, hq⟩ := HQ.out
      have HQ2 := Lib.hid hq
      clear hq
      have htk : l.take 61 = l.take k := by
        by_cases h61 : k = 61
        · rw [h61]
        · rw [List.take_of_length_le (by rw [HLEN.out]; omega), List.take_of_length_le (by rw [HLEN.out]; omega)]
      have HF : Hid (fewF l = (decide ((k : Int) ≤ 60) && decide ((W : Int) ≤ 3000))) := Lib.hid (by
        unfold fewF
        rw [HLEN.out, htk, HW.out]
        congr 1
        · exact decide_eq_decide.2 (by omega)
        · exact decide_eq_decide.2 (by omega))
      clear htk
      by_cases hk60 : (k : Int) ≤ 60
      · by_cases hw30 : (W : Int) ≤ 3000
        · have d1 : decide ((k : Int) ≤ 60) = true := decide_eq_true hk60
          have d2 : decide ((W : Int) ≤ 3000) = true := decide_eq_true hw30
          go_wp2_with fail
          go_ret
          exact ⟨by rw [HF.out, d1, d2]; rfl, q, HQ2.out⟩
        · have d1 : decide ((k : Int) ≤ 60) = true := decide_eq_true hk60
          have d2 : decide ((W : Int) ≤ 3000) = false := decide_eq_false hw30
          replace hw30 : (3000 : Int) < W := by omega
          go_wp2_with fail
          go_ret
          exact ⟨by rw [HF.out, d1, d2]; rfl, q, HQ2.out⟩
      · have d1 : decide ((k : Int) ≤ 60) = false := decide_eq_false hk60
        replace hk60 : (60 : Int) < k := by omega
        go_wp2_with fail
        go_ret
        exact ⟨by rw [HF.out, d1]; rfl, q, HQ2.out⟩

/-! ### the laws' own Do -/
def doF (room : Int) (S : List RF) (p : OpM) : List RF × Int :=
  if p.kind = 0 then appendF room S p.nm.data.toList p.b else if p.kind = 1 then syncF S p.nm.data.toList else if p.kind = 2 then cutF S p.nm.data.toList p.n
  else if p.kind = 3 then removeF S p.nm.data.toList else if p.kind = 5 then (crashF p.ks S, 0) else renameF S p.nm.data.toList p.tn.data.toList

theorem OpSaid.of_alloc {w w' : World} {d : Nat} {room r : Int} {S : List RF} {Φ : Nat → Prop} {e : Ending} {o : Obj} (h : OpSaid d room S r Φ (w.alloc o) e w') : OpSaid d room S r Φ w e w' :=
  ⟨h.1, (Chg.alloc (Φ := Φ) w o).trans h.2.1 fun _ _ e => e, h.2.2.mono fun k _ hk => by
    rcases hk with hk | hk
    · exact .inl hk
    · refine .inr ⟨?_, hk.2⟩
      have := hk.1
      simp at this
      omega⟩

set_option maxHeartbeats 3200000 in
set_option maxRecDepth 100000 in
theorem Do_any {w : World} {d B : Nat} {room : Int} {S : List RF} {Φ : Nat → Prop} (h : DiskAt w d room S Φ) (p : OpM) (hp : OpOk w B p) (hB : B ≤ w.heap.size) (hΦ : ∀ b, b < B → ¬ Φ b) (hL : S.length ≤ 1000000) :
    Calls Try.prog 11 #[.pointer (some ⟨d, 0, none⟩), .agg #[.int .i64 p.kind, .string p.nm, .string p.tn, .slice p.bA p.bn p.bc, .int .i64 p.n, .slice p.kA p.kn p.kc]] w (OpSaid d room (doF room S p).1 (doF room S p).2 Φ w) := by
  obtain ⟨W, hW⟩ : ∃ W, W = w.alloc (.cells #[.int .i64 p.kind, .string p.nm, .string p.tn, .slice p.bA p.bn p.bc, .int .i64 p.n, .slice p.kA p.kn p.kc] 34) := ⟨_, rfl⟩
  have hbW : Below w.heap.size w W := by rw [hW]; exact (Below.refl _ _).alloc (Nat.le_refl _) _
  have hD : DiskAt W d room S Φ := h.keep (Ψ := fun _ => False) (Chg.of_below hbW) fun _ _ => id
  have hok := hp.below (hbW.mono hB)
  have hBW : B ≤ W.heap.size := Nat.le_trans hB hbW.size
  have s0 : p.nm.size ≤ maxLen := by have := hp.sn; unfold maxLen; omega
  have s1 : p.tn.size ≤ maxLen := by have := hp.st; unfold maxLen; omega
  have hback : ∀ {S' : List RF} {r : Int} {e : Ending} {w' : World}, OpSaid d room S' r Φ W e w' → OpSaid d room S' r Φ w e w' := fun ho => by
    rw [hW] at ho
    exact ho.of_alloc
  have HAP := Lib.hid ((Append_any hD p.nm s0 p.bA p.bn p.bc p.b (hok.rb.more hBW) hok.byt hL).mono fun _ _ ho => hback ho)
  have HSY := Lib.hid ((Sync_any hD p.nm s0).mono fun _ _ ho => hback ho)
  have HCU := Lib.hid ((Cut_any hD p.nm s0 p.n).mono fun _ _ ho => hback ho)
  have HRE := Lib.hid ((Remove_any hD p.nm s0).mono fun _ _ ho => hback ho)
  have HRN := Lib.hid ((Rename_any hD p.nm p.tn s0 s1 hL).mono fun _ _ ho => hback ho)
  have HCR := Lib.hid ((Crash_any hD p.kA p.kn p.kc p.ks (hok.rk.more hBW) (fun b o e hn => hΦ b (hp.lowK b o e hn)) hok.ki hL).mono (R' := fun e w' => e = .returned (.tuple #[]) ∧ OpSaid d room (crashF p.ks S) 0 Φ w (.returned (.int .i64 0)) w') fun e w' ho => ⟨ho.1, hback ⟨rfl, ho.2⟩⟩)
  obtain ⟨kind, nm, tn, bA, bn, bc, b, n, kA, kn, kc, ks⟩ := p
  simp only at HAP HSY HCU HRE HRN HCR hW ⊢
  subst hW
  clear hback hok hp hD h hbW hBW hB hΦ s0 s1
  unfold doF
  simp only
  by_cases k0 : kind = 0
  · subst k0
    rw [if_pos rfl]
    go_enter Try.func11, Try.ntmps11
    go_wp2_with (go_at_call 18; (with_reducible refine HAP.out.mono ?_); rintro e w1 ⟨rfl, hx⟩; have HX := Lib.hid hx; clear hx)
    go_ret
    exact ⟨rfl, HX.out⟩
  · rw [if_neg k0]
    by_cases k1 : kind = 1
    · subst k1
      rw [if_pos rfl]
      clear k0
      go_enter Try.func11, Try.ntmps11
      go_wp2_with (go_at_call 19; (with_reducible refine HSY.out.mono ?_); rintro e w1 ⟨rfl, hx⟩; have HX := Lib.hid hx; clear hx)
      go_ret
      exact ⟨rfl, HX.out⟩
    · rw [if_neg k1]
      by_cases k2 : kind = 2
      · subst k2
        rw [if_pos rfl]
        clear k0 k1
        go_enter Try.func11, Try.ntmps11
        go_wp2_with (go_at_call 28; (with_reducible refine HCU.out.mono ?_); rintro e w1 ⟨rfl, hx⟩; have HX := Lib.hid hx; clear hx)
        go_ret
        exact ⟨rfl, HX.out⟩
      · rw [if_neg k2]
        by_cases k3 : kind = 3
        · subst k3
          rw [if_pos rfl]
          clear k0 k1 k2
          go_enter Try.func11, Try.ntmps11
          go_wp2_with (go_at_call 29; (with_reducible refine HRE.out.mono ?_); rintro e w1 ⟨rfl, hx⟩; have HX := Lib.hid hx; clear hx)
          go_ret
          exact ⟨rfl, HX.out⟩
        · rw [if_neg k3]
          by_cases k5 : kind = 5
          · subst k5
            rw [if_pos rfl]
            clear k0 k1 k2 k3
            go_enter Try.func11, Try.ntmps11
            go_wp2_with (go_at_call 20; (with_reducible refine HCR.out.mono ?_); rintro e w1 ⟨rfl, hx⟩; have HX := Lib.hid hx; clear hx)
            go_ret
            exact HX.out
          · rw [if_neg k5]
            go_enter Try.func11, Try.ntmps11
            go_wp2_with (go_at_call 30; (with_reducible refine HRN.out.mono ?_); rintro e w1 ⟨rfl, hx⟩; have HX := Lib.hid hx; clear hx)
            go_ret
            exact ⟨rfl, HX.out⟩
end Go.Proofs.Ytpolkhippblcmaa
