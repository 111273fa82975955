/- What is proved here: what the document's own 'crash' answers. -/
import Derived.Test.YtpolkhippblcmaaWith
import Derived.Maps.AppendAt
namespace Go.Proofs.Ytpolkhippblcmaa
open Go Go.RowKit Go.Maps

section
variable {P : Program} {w : World}
/-- 'append' to a row of the call's own, as one step of a region that draws its order; and where the new row lies. -/
theorem step_append_where {ops : Array Oper} {o : Oper} {a : Act} {K : Act → World → Prop} {Q : Exit → Act → World → Prop} {E : Prop} (hgd : o.guard = none) (s x : Operand) (t : TypeId)
    (ho : o.op = .call { callee := .builtin .append, args := #[s, x], argTypes := #[t, t] })
    (base : Nat) (e : TypeId) (i : TypeInfo) (z : Value) (size bytes : Nat) (ht : P.underlying t = some (.slice e)) (hi : P.info? e = some i) (hz : i.zero = some z)
    (hsize : i.size = size) (hby : i.bytes = bytes) (hzs : z.cells.size = size) (hsz : 0 < size)
    (v : Value) (n : Nat) (xs : List Value) (hs : a.eval s = v) (hown : w.ownsRow base e size v n xs)
    (A : Option Addr) (m c : Nat) (news : List Value) (hx : a.eval x = .slice A m c) (hl : news.length = m * size) (hnil : A = none → m = 0 ∧ c = 0)
    (hnews : ∀ ad, A = some ad → ∀ j u, news[j]? = some u → w.cell? (ad.add j) = some u) (h1 : ∀ u ∈ news, u.oneCell' = true)
    (h63 : n + m ≤ maxLen) (hbytes : (n + m) * bytes ≤ 140737488355328) (hbase : base ≤ w.heap.size)
    (h : ∀ v' w', w'.ownsRow base e size v' (n + m) (xs ++ news) → w.grownBy w' v.ownBlock → (v'.ownBlock = v.ownBlock ∨ v'.ownBlock = some w.heap.size) → K (a.put o.dst v') w') :
    if Region.wanted o (yielded ops a.tmps) = true then Oper.wp P o a w K Q else E := by
  have hw : Region.wanted o (yielded ops a.tmps) = true := by simp [Region.wanted, hgd]
  rw [if_pos hw]
  rcases A with _ | ad
  · obtain ⟨rfl, rfl⟩ := hnil rfl
    have hn : news = [] := List.eq_nil_of_length_eq_zero (by simpa using hl)
    subst hn
    have hrun := run_append_owned_none (P := P) w base t o.type e i size ht hi v n xs hown
    unfold Oper.wp
    simp [execOp, ho, resolve, invoke, builtin, hs, hx, hrun, Result.andThen]
    exact h v w (by simpa using hown) (World.grownBy.refl _ _) (.inl rfl)
  · obtain ⟨v', w', hrun, h2, h3, _, h5⟩ := run_append_own_at (P := P) w base t o.type e i z size bytes ht hi hz hsize hby hzs hsz v n xs hown ad m c news hl (hnews ad rfl) h1 h63 hbytes hbase
    unfold Oper.wp
    simp [execOp, ho, resolve, invoke, builtin, hs, hx, hrun, Result.andThen]
    exact h v' w' h2 h3 h5
end

/-- A local disk that holds the first k files, torn. -/
structure Torn (W : World) (bo : Nat) (room : Int) (ks : List Int) (L : List RV) (k : Nat) (v : Value) (O : List RV) (wr : World) : Prop where
  out : Out W bo room v O wr
  eq : O.map RV.f = (crashF ks (L.map RV.f)).take k
  ok : ∀ x ∈ O, RVOk wr (fun i => bo + 1 ≤ i ∧ v.ownBlock ≠ some i) x

section
variable {W wr w3 w60 w64 : World} {bo k m N : Nat} {room : Int} {ks : List Int} {L O : List RV} {v v' v64 : Value} {y : RV} {o : Obj}
theorem Out.later (h : Out W bo room v O wr) (hb : Below wr.heap.size wr w3) : Out W bo room v O w3 :=
  ⟨h.below.trans (hb.mono (Nat.le_of_lt (lt_of_block h.out))), (hb.block bo (lt_of_block h.out)).trans h.out, (Chg.of_below (Φ := fun _ => False) hb).own h.own fun _ _ => id⟩
theorem Torn.later (h : Torn W bo room ks L k v O wr) (hb : Below wr.heap.size wr w3) : Torn W bo room ks L k v O w3 :=
  ⟨h.out.later hb, h.eq, fun x hx => (h.ok x hx).later hb⟩
theorem Torn.len (h : Torn W bo room ks L k v O wr) (hk : k ≤ L.length) : O.length = k := by
  have := congrArg List.length h.eq
  rw [List.length_map, List.length_take] at this
  unfold crashF at this
  rw [List.length_mapIdx, List.length_map] at this
  omega
/-- Behind the copy of a file's bytes. -/
theorem Torn.mid (h : Torn W bo room ks L k v O w3) {ys : List Int} (ho : w60.ownsRow w3.heap.size 5 1 v' N (ys.map (Value.int .u8))) (hg : (w3.drew.alloc o).grownBy w60 (some w3.heap.size)) :
    Torn W bo room ks L k v O w60 ∧ Below w3.heap.size w3 w60 ∧ ∃ A c, v' = .slice A N c ∧ Rd w60 w60.heap.size .u8 A N c ys ∧ ∀ b o, A = some ⟨b, o, none⟩ → bo + 1 ≤ b ∧ v.ownBlock ≠ some b := by
  have hb : Below w3.heap.size w3 w60 := ((((Below.refl _ w3).drew).alloc (by simp) o).grown hg (by simp) fun k hk => by cases hk; simp)
  obtain ⟨A, c, e, hr⟩ := Rd.of_own ho
  have hbo := lt_of_block h.out.out
  refine ⟨h.later hb, hb, A, c, e, hr, fun b o hA => ?_⟩
  have hb3 : w3.heap.size ≤ b := by
    rcases ho.2 with ⟨e1, _⟩ | ⟨g, cap, cur, e1, hgb, _⟩
    · rw [e] at e1; cases e1; cases hA
    · rw [e] at e1; cases e1; cases hA; exact hgb
  refine ⟨by omega, fun hv => ?_⟩
  have := (h.out.own.lt b hv).2
  omega
theorem crash_next (hy : L[k]? = some y) (hE : O.map RV.f = (crashF ks (L.map RV.f)).take k) {x : RV} (hx : x.f = crashRF ks k y.f) : (O ++ [x]).map RV.f = (crashF ks (L.map RV.f)).take (k + 1) := by
  have hk : (crashF ks (L.map RV.f))[k]? = some (crashRF ks k y.f) := by
    unfold crashF
    rw [List.getElem?_mapIdx, List.getElem?_map, hy]
    rfl
  rw [List.map_append, hE, List.take_add_one, hk]
  simp [hx]
/-- .. and behind the file's. -/
theorem Torn.step (h : Torn W bo room ks L k v O w60) {A : Option Addr} {c n : Nat} (hm : n = O.length + 1) (hy : L[k]? = some y) {Ψ : Nat → Prop} {wy : World} (hok : RVOk wy Ψ y) (hN : N = y.s + survN ks k y.f) (hNl : N ≤ y.b.length)
    (hr : Rd w60 w60.heap.size .u8 A N c (y.b.take N)) (hA : ∀ b o, A = some ⟨b, o, none⟩ → bo + 1 ≤ b ∧ v.ownBlock ≠ some b)
    (ho : w64.ownsRow (bo + 1) 48 3 v64 n (flat O ++ [.string y.sv, .slice A N c, .int .i64 N])) (hg : (w60.alloc o).grownBy w64 v.ownBlock) (hw : v64.ownBlock = v.ownBlock ∨ v64.ownBlock = some (w60.alloc o).heap.size) :
    ∃ A2 c2 O2, v64 = .slice A2 n c2 ∧ w64.cell? ⟨bo, 1, none⟩ = some v ∧ w64.frozen? ⟨bo, 1, none⟩ = false ∧ Torn W bo room ks L (k + 1) v64 O2 (w64.setCell ⟨bo, 1, none⟩ v64) := by
  have hlen : (y.b.take N).length = N := by rw [List.length_take]; omega
  have hbo := lt_of_block h.out.out
  have hvx : (RV.mk y.sv (y.b.take N) N A c).vals = [.string y.sv, .slice A N c, .int .i64 N] := by
    show [Value.string y.sv, .slice A (y.b.take N).length c, .int .i64 N] = _
    rw [hlen]
  obtain ⟨⟨A2, c2, e⟩, c1, f1, hO⟩ := h.out.step1 (RV.mk y.sv (y.b.take N) N A c) hm (by rw [hvx]; exact ho) hg
  refine ⟨A2, c2, _, e, c1, f1, hO, crash_next hy h.eq ?_, fun x hx => ?_⟩
  · show (⟨y.nm, y.b.take N, N⟩ : RF) = crashRF ks k y.f
    unfold crashRF cutRF
    rw [hN]
    rfl
  · have hx60 : RVOk w60 (fun i => bo + 1 ≤ i ∧ v.ownBlock ≠ some i) x := by
      rcases List.mem_append.1 hx with hx | hx
      · exact h.ok x hx
      · obtain rfl : x = _ := by simpa using hx
        exact ⟨by rw [hlen]; exact hr, fun b o e _ => hA b o e, fun z hz => hok.byt z (List.mem_of_mem_take hz), by rw [hlen]; have := hok.len; omega, hok.sn, by rw [hlen]; exact Nat.le_refl _⟩
    have hx61 := hx60.mono (Ψ' := fun i => (bo + 1 ≤ i ∧ v.ownBlock ≠ some i) ∧ i < w60.heap.size) fun i hi hp => ⟨hp, hi⟩
    have hx62 := hx61.later ((Below.refl _ _).alloc (Nat.le_refl _) o)
    have hx63 := hx62.keep (Chg.of_grown hg) fun i hi => hi.1.2
    have hx64 := hx63.keep (Chg.set w64 bo 1 v64) fun i hi e => by have := hi.1.1; omega
    refine hx64.mono fun i _ hi => ⟨hi.1.1, fun e64 => ?_⟩
    rcases hw with hw | hw
    · rw [hw] at e64; exact hi.1.2 e64
    · rw [hw] at e64
      have h2 := Option.some.inj e64
      have h3 := hi.2
      simp at h2
      omega
theorem Torn.begin (W : World) (room : Int) (ks : List Int) (L : List RV) : Torn W W.heap.size room ks L 0 (.slice none 0 0) [] (W.alloc (.cells #[.int .i64 room, .slice none 0 0] 29)) :=
  ⟨Out.begin W room, by simp, fun x hx => by cases hx⟩
theorem Torn.all (h : Torn W bo room ks L k v O wr) (hk : k = L.length) : O.map RV.f = crashF ks (L.map RV.f) := by
  have := h.eq
  rwa [List.take_of_length_le (by unfold crashF; rw [List.length_mapIdx, List.length_map]; omega)] at this
end
end Go.Proofs.Ytpolkhippblcmaa
