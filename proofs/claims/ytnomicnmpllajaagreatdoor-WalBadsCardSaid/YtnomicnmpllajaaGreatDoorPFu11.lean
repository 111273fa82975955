/- What is proved here: a region that draws its order, whose last operations wait for all others: what the others read need only stand till the last ones come up. -/
/- What is proved here: one record more in a log in memory. -/
/- What is proved here: many records more in a log in memory (readSegment's append). -/
/- What is proved here: what the disk's calls do under a log. -/
import Derived.Test.YtnomicnmpllajaaGreatDoorPFu10
import Derived.StillTail
import Derived.Deep.RegionHeld3
import Derived.Maps.AppendAt
import Derived.Test.YtnomicnmpllajaaGreatDoorPFu8
import Derived.Outline
section
namespace Go.Proofs.YtnomicnmpllajaaGreatDoor
open Go Go.RowKit Go.Maps

section
variable {P : Program} {w : World}
/-- 'append' to a row of the call's own, as one step of a region that draws its order; and where the new row lies. -/
theorem step_append_where {ops : Array Oper} {o : Oper} {a : Act} {K : Act → World → Prop} {Q : Exit → Act → World → Prop} {E : Prop} (hgd : o.guard = none) (s x : Operand) (t : TypeId)
    (ho : o.op = .call { callee := .builtin .append, args := #[s, x], argTypes := #[t, t] })
    (base : Nat) (e : TypeId) (i : TypeInfo) (z : Value) (size bytes : Nat) (ht : P.underlying t = some (.slice e)) (hi : P.info? e = some i) (hz : i.zero = some z)
    (hsize : i.size = size) (hby : i.bytes = bytes) (hzs : z.cells.size = size) (hsz : 0 < size)
    (v : Value) (n : Nat) (xs : List Value) (hs : a.eval s = v) (hown : w.ownsRow base e size v n xs)
    (A : Option Addr) (m c : Nat) (news : List Value) (hx : a.eval x = .slice A m c) (hl : news.length = m * size) (hnil : A = none → m = 0 ∧ c = 0)
    (hnews : ∀ ad, A = some ad → ∀ j u, news[j]? = some u → w.cell? (ad.add j) = some u) (h1 : ∀ u ∈ news, u.oneCell' = true)
    (h63 : n + m ≤ maxLen) (hbytes : (n + m) * bytes ≤ 140737488355328) (hbase : base ≤ w.heap.size)
    (h : ∀ v' w', w'.ownsRow base e size v' (n + m) (xs ++ news) → w.grownBy w' v.ownBlock → (v'.ownBlock = v.ownBlock ∨ v'.ownBlock = some w.heap.size) → K (a.put o.dst v') w') :
    if Region.wanted o (yielded ops a.tmps) = true then Oper.wp P o a w K Q else E := by
  have hw : Region.wanted o (yielded ops a.tmps) = true := by simp [Region.wanted, hgd]
  rw [if_pos hw]
  rcases A with _ | ad
  · obtain ⟨rfl, rfl⟩ := hnil rfl
    have hn : news = [] := List.eq_nil_of_length_eq_zero (by simpa using hl)
    subst hn
    have hrun := run_append_owned_none (P := P) w base t o.type e i size ht hi v n xs hown
    unfold Oper.wp
    simp [execOp, ho, resolve, invoke, builtin, hs, hx, hrun, Result.andThen]
    exact h v w (by simpa using hown) (World.grownBy.refl _ _) (.inl rfl)
  · obtain ⟨v', w', hrun, h2, h3, _, h5⟩ := run_append_own_at (P := P) w base t o.type e i z size bytes ht hi hz hsize hby hzs hsz v n xs hown ad m c news hl (hnews ad rfl) h1 h63 hbytes hbase
    unfold Oper.wp
    simp [execOp, ho, resolve, invoke, builtin, hs, hx, hrun, Result.andThen]
    exact h v' w' h2 h3 h5
end

section
variable {P : Program} {ops : Array Oper} {Q : Exit → Act → World → Prop} {md : Region.Mode} {S : World → Prop} {n : Nat}
/-- Whatever order is picked from here on; S holds behind each of the first n. -/
def wpAnyG (P : Program) (md : Region.Mode) (ops : Array Oper) (Q : Exit → Act → World → Prop) (S : World → Prop) (n : Nat) : Nat → Array Bool → Act → World → Prop
  | 0, listed, a, w => Region.ready md ops listed = [] ∧ Q .normal a w
  | fuel + 1, listed, a, w =>
    (Region.ready md ops listed = [] → Q .normal a w) ∧
    ∀ i ∈ Region.ready md ops listed, wpOp P ops Q i (fun a' w' => (i < n → S w') ∧ wpAnyG P md ops Q S n fuel (listed.setIfInBounds i true) a' w') a w
theorem wpAny_of_G : ∀ (fuel : Nat) (listed : Array Bool) (a : Act) (w : World), wpAnyG P md ops Q S n fuel listed a w → wpAny P md ops Q fuel listed a w
  | 0, _, _, _, h => h
  | fuel + 1, _, _, _, h => ⟨h.1, fun i hi => wpOp_mono (fun a' w' h' => wpAny_of_G fuel _ a' w' h'.2) (h.2 i hi)⟩
/-- The last ones wait for number i. -/
def waitB (md : Region.Mode) (ops : Array Oper) (n i : Nat) : Bool := (List.range ops.size).all fun j => decide (j < n) || Region.waitsFor md ops j i
theorem waitB_spec {i j : Nat} (h : waitB md ops n i = true) {listed : Array Bool} (hr : i ∈ Region.ready md ops listed) (hj : j ∈ Region.ready md ops listed) : j < n := by
  obtain ⟨_, oj, hoj, hall⟩ := mem_ready.1 hj
  have hlt : j < ops.size := (Array.getElem?_eq_some_iff.1 hoj).1
  have h1 := List.all_eq_true.1 h j (List.mem_range.2 hlt)
  simp only [Bool.or_eq_true, decide_eq_true_eq] at h1
  rcases h1 with h1 | h1
  · exact h1
  · obtain ⟨o', ho', e, he, hb, hon⟩ := Region.waitsFor_spec h1
    have : o' = oj := Option.some.inj (ho'.symm.trans hoj)
    subst this
    have h2 := hall e he hb
    rw [hon, getD_both (mem_ready.1 hr).1] at h2
    cases h2
theorem wpAnyG_first {i : Nat} {oi : Oper} {v : Value} (hi : ops[i]? = some oi) (hsel : ∀ (j : Nat) (o : Oper) cs b, ops[j]? = some o → o.op ≠ .select cs b)
    (hQ : ∀ c a w, Q (.panic c) (a.put oi.dst v) w → Q (.panic c) a w) (hwt : waitB md ops n i = true) :
    ∀ (fuel : Nat) (listed : Array Bool) (a : Act) (w : World),
      (∀ j oj, ops[j]? = some oj → j ≠ i → listed.getD j true = false → (∀ e ∈ oj.after, Region.binds md e = true → e.on ≠ i) → oi.apart ops oj = true) →
      i ∈ Region.ready md ops listed → YieldsIf P ops S oi v a → S w →
      wpAnyG P md ops Q S n fuel (listed.setIfInBounds i true) (a.put oi.dst v) w → wpAnyG P md ops Q S n (fuel + 1) listed a w := by
  intro fuel
  induction fuel with
  | zero =>
    intro listed a w _ hr hy hS H
    refine ⟨fun h => (by rw [h] at hr; cases hr), fun j hj => ?_⟩
    by_cases hji : j = i
    · subst hji; exact hy.wpOp hi hS ⟨fun _ => hS, H⟩
    · have := ready_mono hj hji
      rw [H.1] at this
      cases this
  | succ fuel ih =>
    intro listed a w hfree hr hy hS H
    refine ⟨fun h => (by rw [h] at hr; cases hr), fun j hj => ?_⟩
    by_cases hji : j = i
    · subst hji; exact hy.wpOp hi hS ⟨fun _ => hS, H⟩
    · have hjn := waitB_spec hwt hr hj
      have h1 := H.2 j (ready_mono hj hji)
      obtain ⟨hjun, oj, hoj, hall⟩ := mem_ready.1 hj
      have hnot : ∀ e ∈ oj.after, Region.binds md e = true → e.on ≠ i := fun e he hb heq => by
        have h1 := hall e he hb
        rw [heq, getD_both (mem_ready.1 hr).1] at h1
        cases h1
      have h2 := wpOp_putIf hoj (hfree j oj hoj hji hjun hnot) (fun cs b => hsel i oi cs b hi) (fun cs b => hsel j oj cs b hoj) hQ hy h1
      have hfree' : ∀ k ok, ops[k]? = some ok → k ≠ i → (listed.setIfInBounds j true).getD k true = false →
          (∀ e ∈ ok.after, Region.binds md e = true → e.on ≠ i) → oi.apart ops ok = true := fun k ok hk hki hun hno => by
        refine hfree k ok hk hki ?_ hno
        by_cases hjk : j = k
        · subst hjk; exact hjun
        · rw [getD_set_ne true hjk] at hun; exact hun
      refine wpOp_mono (fun a' w' h3 => ⟨h3.2.1, ih (listed.setIfInBounds j true) a' w' hfree' (ready_mono hr (Ne.symm hji)) h3.1 (h3.2.1 hjn) ?_⟩) h2
      rw [Array.setIfInBounds_comm _ _ hji]
      exact h3.2.2
theorem wpAnyG_take {i : Nat} {oi : Oper} {v : Value} {fuel : Nat} {listed : Array Bool} {a : Act} {w : World} (hi : ops[i]? = some oi)
    (hs : Region.noSelect ops = true) (hf : Region.free md ops listed i = true) (hr : (Region.ready md ops listed).contains i = true) (hwt : waitB md ops n i = true)
    (hQ : ∀ c a w, Q (.panic c) (a.put oi.dst v) w → Q (.panic c) a w) (hy : YieldsIf P ops S oi v a) (hS : S w)
    (h : wpAnyG P md ops Q S n fuel (listed.setIfInBounds i true) (a.put oi.dst v) w) : wpAnyG P md ops Q S n (fuel + 1) listed a w :=
  wpAnyG_first hi (Region.noSelect_spec hs) hQ hwt fuel listed a w (Region.free_spec hi hf) (by simpa using hr) hy hS h
/-- One alone may come up. -/
theorem wpAnyG_one {i : Nat} {o : Oper} {fuel : Nat} {listed : Array Bool} {a : Act} {w : World} (hr : Region.ready md ops listed = [i]) (ho : ops[i]? = some o)
    (h : ∀ K' : Act → World → Prop, Shut (∀ a w, (i < n → S w) → wpAnyG P md ops Q S n fuel (listed.setIfInBounds i true) a w → K' a w) → if Region.wanted o (yielded ops a.tmps) = true then Oper.wp P o a w K' Q else K' (a.put o.dst undef) w) :
    wpAnyG P md ops Q S n (fuel + 1) listed a w := by
  refine ⟨fun h0 => (by rw [hr] at h0; cases h0), fun j hj => ?_⟩
  rw [hr] at hj
  obtain rfl : j = i := by simpa using hj
  exact wpOp_step ho (fun K' hK => h K' (fun a w hS hW => hK a w ⟨hS, hW⟩))
theorem wpAnyG_done {listed : Array Bool} {a : Act} {w : World} (hr : Region.ready md ops listed = []) (h : Q .normal a w) : ∀ fuel, wpAnyG P md ops Q S n fuel listed a w
  | 0 => ⟨hr, h⟩
  | _ + 1 => ⟨fun _ => h, by rw [hr]; simp⟩
/-- The beginning. -/
theorem wp_region_G (S : World → Prop) (n : Nat) {id : Nat} {a : Act} {w : World} (hm : P.follows .mixedOrders = true)
    (h : wpAnyG P .any ops Q S n ops.size (Array.replicate ops.size false) a w.drew) : (Code.region id ops true).wp P Q a w :=
  wp_region_any hm (wpAny_of_G _ _ _ _ h)
end
end Go.Proofs.YtnomicnmpllajaaGreatDoor
end

section
namespace Go.Proofs.YtnomicnmpllajaaGreatDoor
open Go Go.RowKit

theorem Rd.kept {Kp : Nat → Prop} {w w' : World} {A : Option Addr} {n c : Nat} {xs : List Int} (h : Rd w w.heap.size .u8 A n c xs) (hk : Kept Kp w w') (hA : ∀ a, A = some a → 0 < n → Kp a.block) : Rd w' w'.heap.size .u8 A n c xs :=
  ⟨h.len, h.cap, h.max, h.nil, fun j u hu => by
    obtain ⟨b, o, e, hb, hc⟩ := h.place j u hu
    refine ⟨b, o, e, Nat.lt_of_lt_of_le hb hk.2, ?_⟩
    rw [← hc]
    unfold World.cell?
    have hj := (List.getElem?_eq_some_iff.1 hu).1
    rw [h.len] at hj
    rw [hk.1 b (hA _ e (by omega))]⟩
theorem own_shape {w : World} {base e size n : Nat} {v : Value} {xs : List Value} (h : w.ownsRow base e size v n xs) : ∃ A c, v = .slice A n c := by
  rcases h.2 with ⟨rfl, rfl⟩ | ⟨g, cap, cur, rfl, _⟩
  · exact ⟨_, _, rfl⟩
  · exact ⟨_, _, rfl⟩
theorem news1 (w : World) (u : Value) (t : TypeId) : ∀ ad, some (⟨w.heap.size, 0, none⟩ : Addr) = some ad → ∀ j z, [u][j]? = some z → (w.alloc (.cells #[u] t)).cell? (ad.add j) = some z := by
  intro ad had j z hj
  obtain rfl := Option.some.inj had
  rw [Addr.add_lit, Nat.zero_add, cell_of_row _ _ _ _ _ _ (heap_alloc_new w _)]
  simpa using hj
/-- A new row of bytes. -/
theorem Byt.of_new {w w' : World} {B n c : Nat} {A : Option Addr} {xs : List Int} {Φ Λ : Nat → Prop} (ho : w.ownsRow B 5 1 (.slice A n c) n (xs.map (Value.int .u8))) (hn : xs.length = n) (hx : ∀ x ∈ xs, 0 ≤ x ∧ x < 256) (hl : n ≤ 1048576) (hc : Chg Φ w w') (hΦ : ∀ i, B ≤ i → ¬ Φ i) (hΛ : ∀ i, B ≤ i → i < w.heap.size → Λ i) : Byt w' Λ A c xs := by
  subst hn
  have hinn : ∀ a, A = some a → B ≤ a.block ∧ a.block < w.heap.size := fun a ha => by
    have := ho.lt a.block (by rw [ha]; rfl)
    exact this
  have ho' := hc.own ho fun g hg e => by
    obtain ⟨a, ha, rfl⟩ := own_block hg
    exact hΦ _ (hinn a ha).1 e
  obtain ⟨A', c', e, hr⟩ := Rd.of_own ho'
  cases e
  exact ⟨hr, fun a ha => ⟨hΛ _ (hinn a ha).1 (hinn a ha).2, own_typ ho' ha⟩, hx, hl⟩
section
variable {w0 w8 w9 w99 : World} {Kp : Nat → Prop} {lb d : Nat} {R : Int} {S : List RF} {M : LogM} {V : LogV}
theorem WPair.addRec (h : WPair w0 Kp lb d R S M V w8) (hKp : ∀ k, Kp k → k < w8.heap.size) (hb9 : Below w8.heap.size w8 w9) {cA : Option Addr} {cC n : Nat} {xs : List Int} (ho9 : w9.ownsRow w8.heap.size 5 1 (.slice cA n cC) n (xs.map (Value.int .u8))) (hn : xs.length = n) (hx : ∀ x ∈ xs, 0 ≤ x ∧ x < 256) (hl : n ≤ 1048576)
    {v99 : Value} {o : Obj} (ho : w99.ownsRow 0 33 1 v99 (M.recs.length + 1) (recC V.rv M.recs ++ [.slice cA n cC])) (hg : (w9.alloc o).grownBy w99 (Value.slice V.rA M.recs.length V.rC).ownBlock) (hw : v99.ownBlock = (Value.slice V.rA M.recs.length V.rC).ownBlock ∨ v99.ownBlock = some (w9.alloc o).heap.size) :
    ∃ A' c', v99 = .slice A' (M.recs.length + 1) c' ∧ lb < w99.heap.size ∧ w99.cell? ⟨lb, 5, none⟩ = some (.slice V.rA M.recs.length V.rC) ∧ w99.frozen? ⟨lb, 5, none⟩ = false ∧
      Hid (∃ V', WPair w0 Kp lb d R S { M with recs := M.recs ++ [xs] } V' (w99.setCell ⟨lb, 5, none⟩ (.slice A' (M.recs.length + 1) c')) ∧ Kept Kp w8 (w99.setCell ⟨lb, 5, none⟩ (.slice A' (M.recs.length + 1) c'))) := by
  obtain ⟨A', c', rfl⟩ := own_shape ho
  obtain ⟨Φ, Λ, hlog, hd, ha, hK⟩ := h.ex
  have hlog9 := hlog.later hb9
  obtain ⟨p1, p2, p3, p4⟩ := hlog9.apart
  have hs9 := hb9.size
  have hs99 := hg.size
  have hsa : (w9.alloc o).heap.size = w9.heap.size + 1 := by simp
  have hc : Chg (fun i => ∃ a, V.rA = some a ∧ a.block = i) w9 w99 := (Chg.alloc (Φ := fun i => ∃ a, V.rA = some a ∧ a.block = i) w9 o).trans ((Chg.of_grown hg).mono fun i _ hi => own_block hi) fun _ _ e => e
  have hblk : w99.heap[lb]? = _ := (hc.block lb hlog9.lt fun ⟨a, e, hb⟩ => p2 a e hb).trans hlog9.blk
  have hcell : w99.cell? ⟨lb, 5, none⟩ = some (.slice V.rA M.recs.length V.rC) := by rw [cell_of_row _ _ _ _ _ _ hblk]; rfl
  have hfr : w99.frozen? ⟨lb, 5, none⟩ = false := by simp [World.frozen?, hblk]
  have hrB : ∀ a, V.rA = some a → Λ a.block ∧ a.block < w8.heap.size := fun a e => by
    obtain ⟨cur, h1⟩ := own_typ hlog.recs e
    exact ⟨hlog.inn.2.2 a e, lt_of_block h1⟩
  obtain ⟨Λ', hΛ'⟩ : ∃ Λ' : Nat → Prop, Λ' = fun i => Λ i ∨ (w8.heap.size ≤ i ∧ i < w99.heap.size) := ⟨_, rfl⟩
  have hΛ : ∀ i, i < w9.heap.size → Λ i → Λ' i := fun i _ h1 => by rw [hΛ']; exact .inl h1
  have hA' : ∀ a, A' = some a → Λ' a.block := fun a e => by
    subst e
    obtain ⟨cur, h1⟩ := own_typ ho rfl
    have hlt := lt_of_block h1
    have hob : (Value.slice (some a) (M.recs.length + 1) c').ownBlock = some a.block := rfl
    rw [hob] at hw
    rw [hΛ']
    rcases hw with hw | hw
    · obtain ⟨a2, e2, hb2⟩ := own_block hw.symm
      have := (hrB a2 e2).1
      rw [hb2] at this
      exact .inl this
    · have := Option.some.inj hw
      exact .inr ⟨by omega, hlt⟩
  have hlen : (M.recs ++ [xs]).length = M.recs.length + 1 := by simp
  have hoN : w99.ownsRow 0 33 1 (.slice A' (M.recs ++ [xs]).length c') (M.recs ++ [xs]).length (recC (V.rv ++ [(cA, cC)]) (M.recs ++ [xs])) := by
    rw [recC_snoc hlog.rlen, hlen, hn]
    exact ho
  have hlogN := hlog9.setRecs (w1 := w99) (l := M.recs ++ [xs]) (rv' := V.rv ++ [(cA, cC)]) hoN (by simp [hlog.rlen]) hc hA' hΛ (fun j p ys hp hy => by
    by_cases hj : j < M.recs.length
    · rw [List.getElem?_append_left (by rw [hlog.rlen]; exact hj)] at hp
      rw [List.getElem?_append_left hj] at hy
      have hb := hlog9.each j p ys hp hy
      refine (hb.mono hΛ).but hc fun a e ⟨a', e', hb'⟩ => ?_
      obtain ⟨_, cur, h1⟩ := hb.inn a e
      obtain ⟨cur', h2⟩ := own_typ hlog9.recs e'
      exact ne_of_typ h2 h1 (by decide) hb'
    · have hj2 : j = M.recs.length := by
        have := (List.getElem?_eq_some_iff.1 hy).1
        rw [hlen] at this
        omega
      subst hj2
      rw [List.getElem?_append_right (Nat.le_refl _), Nat.sub_self] at hy
      rw [List.getElem?_append_right (by rw [hlog.rlen]; exact Nat.le_refl _), hlog.rlen, Nat.sub_self] at hp
      simp at hy hp
      subst hy hp
      exact Byt.of_new ho9 hn hx hl hc (fun i hi ⟨a, e, hb⟩ => by have := (hrB a e).2; omega) fun i h1 h2 => by rw [hΛ']; exact .inr ⟨h1, by omega⟩)
  rw [hlen] at hlogN
  have hc2 : Chg (fun i => i = lb) w99 (w99.setCell ⟨lb, 5, none⟩ (.slice A' (M.recs.length + 1) c')) := Chg.set _ _ _ _
  have hcs := hc2.size
  have hlbΛ := hlog.inn.1
  have hb0 := h.below.size
  refine ⟨A', c', rfl, lt_of_block hblk, hcell, hfr, Lib.hid ⟨{ V with rA := A', rC := c', rv := V.rv ++ [(cA, cC)] }, ⟨?_, Φ, Λ', hlogN, ?_, fun i h1 h2 => ?_, fun i hi => ?_⟩, fun i hi => ?_, by omega⟩⟩
  · exact h.below.trans ((hb9.mono hb0).trans ((hc.below (by omega) fun i ⟨a, e, hb⟩ => by rw [← hb]; exact (hK _ (.inr (hrB a e).1)).1).trans (hc2.below (by omega) fun i hi => by rw [hi]; exact (hK _ (.inr hlbΛ)).1)))
  · refine ((hd.later hb9).keep hc fun i h1 ⟨a, e, hb⟩ => ?_).keep hc2 fun i h1 e => ?_
    · rw [← hb] at h1
      exact ha _ h1 (hrB a e).1
    · have e' : i = lb := e
      rw [e'] at h1
      exact ha _ h1 hlbΛ
  · rw [hΛ'] at h2
    rcases h2 with h2 | h2
    · exact ha i h1 h2
    · have := (hK i (.inl h1)).2.2
      omega
  · rcases hi with hi | hi
    · exact ⟨(hK i (.inl hi)).1, (hK i (.inl hi)).2.1, by have := (hK i (.inl hi)).2.2; omega⟩
    · rw [hΛ'] at hi
      rcases hi with hi | hi
      · exact ⟨(hK i (.inr hi)).1, (hK i (.inr hi)).2.1, by have := (hK i (.inr hi)).2.2; omega⟩
      · exact ⟨by omega, fun h9 => by have := hKp i h9; omega, by omega⟩
  · have hi8 := hKp i hi
    rw [Below.heap_setCell _ _ _ _ fun e => (hK _ (.inr hlbΛ)).2.1 (by have e' : i = lb := e; rw [← e']; exact hi)]
    rw [hc.block i (by omega) fun ⟨a, e, hb⟩ => (hK _ (.inr (hrB a e).1)).2.1 (by rw [hb]; exact hi)]
    exact hb9.block i hi8
end
end Go.Proofs.YtnomicnmpllajaaGreatDoor
end

section
namespace Go.Proofs.YtnomicnmpllajaaGreatDoor
open Go Go.RowKit

theorem recC_app {rv pv : List (Option Addr × Nat)} {l nl : List (List Int)} (h : rv.length = l.length) : recC (rv ++ pv) (l ++ nl) = recC rv l ++ recC pv nl := by
  unfold recC
  rw [List.zipWith_append h]
section
variable {w0 w9 w99 : World} {Kp Kp' D : Nat → Prop} {lb d : Nat} {R : Int} {S : List RF} {M : LogM} {V : LogV}
/-- The new records lie in the blocks D, which were kept apart; from now on they are the log's. -/
theorem WPair.addRecs (h : WPair w0 Kp' lb d R S M V w9) (hsub : ∀ k, Kp k → Kp' k) (hKp : ∀ k, Kp' k → k < w9.heap.size) (hD : ∀ k, D k → w0.heap.size ≤ k ∧ Kp' k ∧ ¬ Kp k)
    {pv : List (Option Addr × Nat)} {nl : List (List Int)} (hpl : pv.length = nl.length) (hea : ∀ (j : Nat) (p : Option Addr × Nat) (xs : List Int), pv[j]? = some p → nl[j]? = some xs → Byt w9 D p.1 p.2 xs)
    {v99 : Value} (ho : w99.ownsRow 0 33 1 v99 (M.recs.length + nl.length) (recC V.rv M.recs ++ recC pv nl)) (hg : w9.grownBy w99 (Value.slice V.rA M.recs.length V.rC).ownBlock) (hw : v99.ownBlock = (Value.slice V.rA M.recs.length V.rC).ownBlock ∨ v99.ownBlock = some w9.heap.size) :
    ∃ A' c', v99 = .slice A' (M.recs.length + nl.length) c' ∧ lb < w99.heap.size ∧ w99.cell? ⟨lb, 5, none⟩ = some (.slice V.rA M.recs.length V.rC) ∧ w99.frozen? ⟨lb, 5, none⟩ = false ∧
      Hid (∃ V', WPair w0 Kp lb d R S { M with recs := M.recs ++ nl } V' (w99.setCell ⟨lb, 5, none⟩ (.slice A' (M.recs.length + nl.length) c')) ∧ Kept Kp w9 (w99.setCell ⟨lb, 5, none⟩ (.slice A' (M.recs.length + nl.length) c'))) := by
  obtain ⟨A', c', rfl⟩ := own_shape ho
  obtain ⟨Φ, Λ, hlog, hd, ha, hK⟩ := h.ex
  obtain ⟨p1, p2, p3, p4⟩ := hlog.apart
  have hs99 := hg.size
  have hc : Chg (fun i => ∃ a, V.rA = some a ∧ a.block = i) w9 w99 := (Chg.of_grown hg).mono fun i _ hi => own_block hi
  have hblk : w99.heap[lb]? = _ := (hc.block lb hlog.lt fun ⟨a, e, hb⟩ => p2 a e hb).trans hlog.blk
  have hcell : w99.cell? ⟨lb, 5, none⟩ = some (.slice V.rA M.recs.length V.rC) := by rw [cell_of_row _ _ _ _ _ _ hblk]; rfl
  have hfr : w99.frozen? ⟨lb, 5, none⟩ = false := by simp [World.frozen?, hblk]
  have hrB : ∀ a, V.rA = some a → Λ a.block ∧ a.block < w9.heap.size := fun a e => by
    obtain ⟨cur, h1⟩ := own_typ hlog.recs e
    exact ⟨hlog.inn.2.2 a e, lt_of_block h1⟩
  obtain ⟨Λ', hΛ'⟩ : ∃ Λ' : Nat → Prop, Λ' = fun i => Λ i ∨ D i ∨ (w9.heap.size ≤ i ∧ i < w99.heap.size) := ⟨_, rfl⟩
  have hΛ : ∀ i, i < w9.heap.size → Λ i → Λ' i := fun i _ h1 => by rw [hΛ']; exact .inl h1
  have hA' : ∀ a, A' = some a → Λ' a.block := fun a e => by
    subst e
    obtain ⟨cur, h1⟩ := own_typ ho rfl
    have hlt := lt_of_block h1
    have hob : (Value.slice (some a) (M.recs.length + nl.length) c').ownBlock = some a.block := rfl
    rw [hob] at hw
    rw [hΛ']
    rcases hw with hw | hw
    · obtain ⟨a2, e2, hb2⟩ := own_block hw.symm
      have := (hrB a2 e2).1
      rw [hb2] at this
      exact .inl this
    · have := Option.some.inj hw
      exact .inr (.inr ⟨by omega, hlt⟩)
  have hlen : (M.recs ++ nl).length = M.recs.length + nl.length := by simp
  have hoN : w99.ownsRow 0 33 1 (.slice A' (M.recs ++ nl).length c') (M.recs ++ nl).length (recC (V.rv ++ pv) (M.recs ++ nl)) := by
    rw [recC_app hlog.rlen, hlen]
    exact ho
  have hlogN := hlog.setRecs (w1 := w99) (l := M.recs ++ nl) (rv' := V.rv ++ pv) hoN (by simp [hlog.rlen, hpl]) hc hA' hΛ (fun j p ys hp hy => by
    by_cases hj : j < M.recs.length
    · rw [List.getElem?_append_left (by rw [hlog.rlen]; exact hj)] at hp
      rw [List.getElem?_append_left hj] at hy
      have hb := hlog.each j p ys hp hy
      refine (hb.mono hΛ).but hc fun a e ⟨a', e', hb'⟩ => ?_
      obtain ⟨_, cur, h1⟩ := hb.inn a e
      obtain ⟨cur', h2⟩ := own_typ hlog.recs e'
      exact ne_of_typ h2 h1 (by decide) hb'
    · rw [List.getElem?_append_right (by omega)] at hy
      rw [List.getElem?_append_right (by rw [hlog.rlen]; omega), hlog.rlen] at hp
      have hb := hea _ p ys hp hy
      refine (hb.mono (Λ' := Λ') fun i _ h1 => by rw [hΛ']; exact .inr (.inl h1)).but hc fun a e ⟨a', e', hb'⟩ => ?_
      obtain ⟨_, cur, h1⟩ := hb.inn a e
      obtain ⟨cur', h2⟩ := own_typ hlog.recs e'
      exact ne_of_typ h2 h1 (by decide) hb')
  rw [hlen] at hlogN
  have hc2 : Chg (fun i => i = lb) w99 (w99.setCell ⟨lb, 5, none⟩ (.slice A' (M.recs.length + nl.length) c')) := Chg.set _ _ _ _
  have hcs := hc2.size
  have hlbΛ := hlog.inn.1
  have hb0 := h.below.size
  refine ⟨A', c', rfl, lt_of_block hblk, hcell, hfr, Lib.hid ⟨{ V with rA := A', rC := c', rv := V.rv ++ pv }, ⟨?_, Φ, Λ', hlogN, ?_, fun i h1 h2 => ?_, fun i hi => ?_⟩, fun i hi => ?_, by omega⟩⟩
  · exact h.below.trans ((hc.below (by omega) fun i ⟨a, e, hb⟩ => by rw [← hb]; exact (hK _ (.inr (hrB a e).1)).1).trans (hc2.below (by omega) fun i hi => by rw [hi]; exact (hK _ (.inr hlbΛ)).1))
  · refine (hd.keep hc fun i h1 ⟨a, e, hb⟩ => ?_).keep hc2 fun i h1 e => ?_
    · rw [← hb] at h1
      exact ha _ h1 (hrB a e).1
    · have e' : i = lb := e
      rw [e'] at h1
      exact ha _ h1 hlbΛ
  · rw [hΛ'] at h2
    rcases h2 with h2 | h2 | h2
    · exact ha i h1 h2
    · exact (hK i (.inl h1)).2.1 (hD i h2).2.1
    · have := (hK i (.inl h1)).2.2
      omega
  · rcases hi with hi | hi
    · exact ⟨(hK i (.inl hi)).1, fun h9 => (hK i (.inl hi)).2.1 (hsub i h9), by have := (hK i (.inl hi)).2.2; omega⟩
    · rw [hΛ'] at hi
      rcases hi with hi | hi | hi
      · exact ⟨(hK i (.inr hi)).1, fun h9 => (hK i (.inr hi)).2.1 (hsub i h9), by have := (hK i (.inr hi)).2.2; omega⟩
      · exact ⟨(hD i hi).1, (hD i hi).2.2, by have := hKp i (hD i hi).2.1; omega⟩
      · exact ⟨by omega, fun h9 => by have := hKp i (hsub i h9); omega, by omega⟩
  · have hi' := hsub i hi
    have hi8 := hKp i hi'
    rw [Below.heap_setCell _ _ _ _ fun e => (hK _ (.inr hlbΛ)).2.1 (by have e' : i = lb := e; rw [← e']; exact hi')]
    exact hc.block i (by omega) fun ⟨a, e, hb⟩ => (hK _ (.inr (hrB a e).1)).2.1 (by rw [hb]; exact hi')
end
end Go.Proofs.YtnomicnmpllajaaGreatDoor
end

section
namespace Go.Proofs.YtnomicnmpllajaaGreatDoor
open Go Go.RowKit

section
variable {w0 w w' : World} {Kp : Nat → Prop} {lb d : Nat} {R : Int} {S S' : List RF} {M : LogM} {V : LogV}
/-- Whatever call of the disk's: what is said of the disk holds under the log. -/
theorem WPair.said {f : FuncId} {args : Array Value} {r : Int} (h : WPair w0 Kp lb d R S M V w) (hKp : ∀ k, Kp k → k < w.heap.size)
    (hc : ∀ Φ, DiskAt w d R S Φ → Calls Tryz.prog f args w (OpSaid d R S' r Φ w)) :
    Calls Tryz.prog f args w fun e w' => e = .returned (.int .i64 r) ∧ WPair w0 Kp lb d R S' M V w' ∧ Kept Kp w w' := by
  obtain ⟨Φ, Λ, hl, hd, ha, hK⟩ := h.ex
  refine (hc Φ hd).mono ?_
  rintro e w' ⟨rfl, hc, hd'⟩
  have hsz := h.below.size
  have hcs := hc.size
  refine ⟨rfl, ⟨h.below.trans (hc.below hsz fun i hi => (hK i (.inl hi)).1), (fun i => grow Φ w w' i ∧ i < w'.heap.size), Λ, hl.keep hc fun i h1 h2 => ha i h2 h1, hd'.mono fun i hi h1 => ⟨h1, hi⟩, fun i hi h1 => ?_, fun i hi => ?_⟩, fun i hi => hc.block i (hKp i hi) fun h1 => (hK i (.inl h1)).2.1 hi, hcs⟩
  · rcases hi.1 with h2 | h2
    · exact ha i h2 h1
    · have := (hK i (.inr h1)).2.2
      omega
  · rcases hi with ⟨hi | hi, hi2⟩ | hi
    · exact ⟨(hK i (.inl hi)).1, (hK i (.inl hi)).2.1, hi2⟩
    · exact ⟨by omega, fun h9 => by have := hKp i h9; omega, hi2⟩
    · exact ⟨(hK i (.inr hi)).1, (hK i (.inr hi)).2.1, Nat.lt_of_lt_of_le (hK i (.inr hi)).2.2 hcs⟩
theorem WPair.dsync (h : WPair w0 Kp lb d R S M V w) (hKp : ∀ k, Kp k → k < w.heap.size) (s : ByteArray) (hs : s.size ≤ maxLen) :
    Calls Tryz.prog 56 #[.pointer (some ⟨d, 0, none⟩), .string s] w fun e w' => e = .returned (.int .i64 (syncF S s.data.toList).2) ∧ WPair w0 Kp lb d R (syncF S s.data.toList).1 M V w' ∧ Kept Kp w w' :=
  h.said hKp fun _ hd => Sync_any hd s hs
theorem WPair.dcut (h : WPair w0 Kp lb d R S M V w) (hKp : ∀ k, Kp k → k < w.heap.size) (s : ByteArray) (hs : s.size ≤ maxLen) (n : Int) :
    Calls Tryz.prog 60 #[.pointer (some ⟨d, 0, none⟩), .string s, .int .i64 n] w fun e w' => e = .returned (.int .i64 (cutF S s.data.toList n).2) ∧ WPair w0 Kp lb d R (cutF S s.data.toList n).1 M V w' ∧ Kept Kp w w' :=
  h.said hKp fun _ hd => Cut_any hd s hs n
theorem WPair.dremove (h : WPair w0 Kp lb d R S M V w) (hKp : ∀ k, Kp k → k < w.heap.size) (s : ByteArray) (hs : s.size ≤ maxLen) :
    Calls Tryz.prog 59 #[.pointer (some ⟨d, 0, none⟩), .string s] w fun e w' => e = .returned (.int .i64 (removeF S s.data.toList).2) ∧ WPair w0 Kp lb d R (removeF S s.data.toList).1 M V w' ∧ Kept Kp w w' :=
  h.said hKp fun _ hd => Remove_any hd s hs
theorem WPair.drename (h : WPair w0 Kp lb d R S M V w) (hKp : ∀ k, Kp k → k < w.heap.size) (s t : ByteArray) (hs : s.size ≤ maxLen) (ht : t.size ≤ maxLen) (hL : S.length ≤ 1000000) :
    Calls Tryz.prog 57 #[.pointer (some ⟨d, 0, none⟩), .string s, .string t] w fun e w' => e = .returned (.int .i64 (renameF S s.data.toList t.data.toList).2) ∧ WPair w0 Kp lb d R (renameF S s.data.toList t.data.toList).1 M V w' ∧ Kept Kp w w' :=
  h.said hKp fun _ hd => Rename_any hd s t hs ht hL
/-- Another list of segments in the log's cell, whose row stands already. -/
theorem WPair.putSegs {w99 : World} {Ψ : Nat → Prop} (h : WPair w0 Kp lb d R S M V w) (hKp : ∀ k, Kp k → k < w.heap.size) {A' : Option Addr} {c' : Nat} {l : List (Nat × Nat)}
    (ho : w99.ownsRow 0 99 2 (.slice A' l.length c') l.length (segC l)) (hc : Chg Ψ w w99) (hΨ : ∀ i, Ψ i → ∃ a, V.sA = some a ∧ a.block = i) (hA : ∀ a, A' = some a → ∃ a2, V.sA = some a2 ∧ a2.block = a.block) :
    WPair w0 Kp lb d R S { M with segs := l } { V with sA := A', sC := c' } (w99.setCell ⟨lb, 2, none⟩ (.slice A' l.length c')) ∧ Kept Kp w (w99.setCell ⟨lb, 2, none⟩ (.slice A' l.length c')) := by
  obtain ⟨Φ, Λ, hlog, hd, ha, hK⟩ := h.ex
  have hc' : Chg (fun i => ∃ a, V.sA = some a ∧ a.block = i) w w99 := hc.mono fun i _ hi => hΨ i hi
  have hrB : ∀ a, V.sA = some a → Λ a.block := fun a e => hlog.inn.2.1 a e
  have hlogN := hlog.setSegs (w1 := w99) (l := l) ho hc' (fun a e => by obtain ⟨a2, e2, hb⟩ := hA a e; rw [← hb]; exact hrB a2 e2) fun _ _ h1 => h1
  have hc2 : Chg (fun i => i = lb) w99 (w99.setCell ⟨lb, 2, none⟩ (.slice A' l.length c')) := Chg.set _ _ _ _
  have hcs := hc'.size
  have hcs2 := hc2.size
  have hlbΛ := hlog.inn.1
  have hb0 := h.below.size
  refine ⟨⟨?_, Φ, Λ, hlogN, ?_, ha, fun i hi => ⟨(hK i hi).1, (hK i hi).2.1, by have := (hK i hi).2.2; omega⟩⟩, fun i hi => ?_, by omega⟩
  · exact h.below.trans ((hc'.below hb0 fun i ⟨a, e, hb⟩ => by rw [← hb]; exact (hK _ (.inr (hrB a e))).1).trans (hc2.below (by omega) fun i hi => by rw [hi]; exact (hK _ (.inr hlbΛ)).1))
  · refine (hd.keep hc' fun i h1 ⟨a, e, hb⟩ => ?_).keep hc2 fun i h1 e => ?_
    · rw [← hb] at h1
      exact ha _ h1 (hrB a e)
    · have e' : i = lb := e
      rw [e'] at h1
      exact ha _ h1 hlbΛ
  · rw [Below.heap_setCell _ _ _ _ fun e => (hK _ (.inr hlbΛ)).2.1 (by have e' : i = lb := e; rw [← e']; exact hi)]
    exact hc'.block i (hKp i hi) fun ⟨a, e, hb⟩ => (hK _ (.inr (hrB a e))).2.1 (by rw [hb]; exact hi)
end
end Go.Proofs.YtnomicnmpllajaaGreatDoor
end
