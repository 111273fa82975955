/- What is proved here: rows in memory that are filled, beside a reader of the document's. -/
import Derived.Test.YtkdncnhjlgidnaaGreatDoorCAwake
import Derived.Test.YtkdncnhjlgidnaaGreatDoorCChg
import Derived.Test.YtkdncnhjlgidnaaGreatDoorAwakeC
import Derived.Test.YtkdncnhjlgidnaaGreatDoorRef2
import Derived.Deep.QuietTactic
import Derived.BigQuiet
import Derived.Test.YtkdncnhjlgidnaaGreatDoorCRdr10
import Derived.Test.YtkdncnhjlgidnaaGreatDoorCOut
import Derived.Great.BuildSlice
namespace Go.Proofs.YtkdncnhjlgidnaaGreatDoor
open Go Go.RowKit Go.Maps

/-- The sizes of a command's texts are those of texts in memory. -/
structure CM.Fits (c : CM) (L : List ByteArray) : Prop where
  q : c.qn.size ≤ 140737488355328
  d : c.dd.size ≤ 140737488355328
  b : c.bo.size ≤ 140737488355328
  g : c.gr.size ≤ 140737488355328
  k : c.ky.size ≤ 140737488355328
  r : c.rc.size ≤ 140737488355328
  n : c.bn ≤ 140737488355328
  bs : ∀ s ∈ L, s.size ≤ 140737488355328
/-- What Few tells. -/
def FewSaid (n : Nat) (w : World) (e : Ending) (w' : World) : Prop := ∃ b, e = .returned (.bool b) ∧ (b = true → n ≤ 750) ∧ Below w.heap.size w w'
end Go.Proofs.YtkdncnhjlgidnaaGreatDoor

namespace Go.Proofs.YtkdncnhjlgidnaaGreatDoor
open Go Go.RowKit Go.Maps

def CM.att (c : CM) : Array Value := #[.int .i64 c.vi, .int .i64 c.re, .int .i64 c.de, .int .i64 c.wi, .int .i64 c.mx, .string c.dd, .bool c.ff]
end Go.Proofs.YtkdncnhjlgidnaaGreatDoor

namespace Go.Proofs.YtkdncnhjlgidnaaGreatDoor
open Go Go.RowKit Go.Maps

theorem tl_eq (x y : ByteArray) : (x.toList == y.toList) = decide (x = y) := by
  by_cases h : x = y
  · subst h; simp
  · rw [decide_eq_false h, beq_eq_false_iff_ne]
    intro hh
    rw [ByteArray.toList_eq, ByteArray.toList_eq] at hh
    apply h
    cases x; cases y
    simpa using hh
end Go.Proofs.YtkdncnhjlgidnaaGreatDoor

namespace Go.Proofs.YtkdncnhjlgidnaaGreatDoor
open Go Go.RowKit Go.Maps

def CM.ns11 (c : CM) : List Int := [c.cl, c.rq, c.kd, wrap64 (c.n + 1), c.m, c.vi, c.re, c.de, c.wi, c.mx, if c.ff then 1 else 0]
theorem CM.rns_of (c : CM) : c.ns11.map Int.toNat = c.rns := by
  unfold CM.ns11 CM.rns CM.shift CM.ns
  cases c.ff <;> rfl
theorem TRd.lit (w : World) (t : TypeId) (L : List ByteArray) (hl : L.length ≤ maxLen) : TRd (w.alloc (.cells (L.map Value.string).toArray t)) (w.heap.size + 1) (some ⟨w.heap.size, 0, none⟩) L.length L.length L := by
  refine ⟨rfl, Nat.le_refl _, hl, (fun e => by cases e), fun j s hs => ⟨w.heap.size, 0, rfl, by omega, ?_⟩⟩
  rw [(Blk.fresh w t (L.map Value.string).toArray).cell]
  simp [hs]

end Go.Proofs.YtkdncnhjlgidnaaGreatDoor

namespace Go.Proofs.YtkdncnhjlgidnaaGreatDoor
open Go Go.RowKit Go.Maps

/-- Bytes in a row of one's own. -/
def Own10 (w : World) (B : Nat) (v : Value) (E : List Int) : Prop := w.ownsRow B 5 1 v E.length (E.map (Value.int .u8))
theorem own_next {w : World} {B : Nat} {v : Value} {E ys E' : List Int} (h : w.ownsRow B 5 1 v (E.length + ys.length) (E.map (Value.int .u8) ++ ys.map (Value.int .u8))) (e : E' = E ++ ys) : Own10 w B v E' := by
  subst e
  unfold Own10
  rw [List.length_append, List.map_append]
  exact h
/-- A block of another type stays. -/
theorem own_blk {w w' : World} {B s : Nat} {v : Value} {E : List Int} {t : TypeId} {cs : Array Value} (h : Own10 w B v E) (hg : w.grownBy w' v.ownBlock) (hb : Blk w s t cs) (ht : t ≠ 5) : Blk w' s t cs := by
  refine (hg.block s hb.lt ?_).trans hb
  intro he
  rcases h.2 with ⟨hv, _⟩ | ⟨g, cap, cur, hv, _, hgg, _⟩
  · rw [hv] at he
    simp [Value.ownBlock] at he
  · rw [hv] at he
    simp [Value.ownBlock] at he
    subst he
    have h2 := hgg.symm.trans hb
    simp at h2
    exact ht h2.2.symm
theorem CM.ns11_next (c : CM) {j : Nat} (h : j < 11) : encN (c.rns.take (j + 1)) = encN (c.rns.take j) ++ enc (c.ns11.getD j 0).toNat := by
  have hl : j < c.ns11.length := h
  rw [← c.rns_of, ← List.map_take, ← List.map_take, List.take_succ_eq_append_getElem hl, List.map_append, List.map_singleton, encN_snoc, List.getD_eq_getElem?_getD, List.getElem?_eq_getElem hl, Option.getD_some]
theorem CM.Good.ns11 {c : CM} {L : List ByteArray} (h : c.Good L) : ∀ x ∈ c.ns11, 0 ≤ x ∧ x ≤ 4611686018427387904 := fun x hx => by
  have e : c.ns11 = c.shift.ns ++ [if c.ff then 1 else 0] := rfl
  rw [e] at hx
  rcases List.mem_append.1 hx with hx | hx
  · exact h.ns x hx
  · rw [List.mem_singleton.1 hx]
    cases c.ff <;> decide
theorem CM.Good.lenJ {c : CM} {L : List ByteArray} (h : c.Good L) (j : Nat) : (encN (c.rns.take j)).length ≤ 99 := by
  have := encN_len (c.rns.take j) fun v hv => by have := h.rns v (List.mem_of_mem_take hv); omega
  rw [List.length_take, show c.rns.length = 11 from rfl] at this
  omega
theorem encT_nums (s : ByteArray) : encT (nums s) = enc s.size ++ nums s := by rw [encT, nums_length]

end Go.Proofs.YtkdncnhjlgidnaaGreatDoor

namespace Go.Proofs.YtkdncnhjlgidnaaGreatDoor
open Go Go.RowKit Go.Maps

theorem yields_row10 {P : Program} {o : Oper} {a : Act} {w : World} (ty : TypeId) (x : Operand) (ho : o.op = .load ty x)
    (g : Nat) (hx : a.eval x = .pointer (some ⟨g, 0, none⟩)) (t : TypeId) (cs : Array Value) (fr : Nat × Nat) (d : TypeDesc) (hg : w.heap[g]? = some (.cells cs t fr))
    (hu : P.underlying ty = some d) (hd : (match d with | .struct _ | .array _ _ => true | _ => false) = true) (hi : (P.info? ty).map (·.size) = some cs.size) :
    (execOp a.eval o).run P w = .ok (.value (.agg cs)) w := by
  unfold execOp
  simp only [ho, hx, Instr.loadAt, Instr.sureAddr, Sem.run_bind, Sem.run_pure, Result.andThen_ok, run_loadVar_row w g t ty cs fr d hg hu hd hi]
theorem drewn_below (w : World) (n : Nat) : Below w.heap.size w (w.drewN n) := ⟨rfl, rfl, rfl, Nat.le_refl _, fun _ _ => rfl⟩
set_option maxHeartbeats 400000 in
theorem most_any (w : World) : Calls Tryz.prog 48 #[] w fun e w' => e = .returned (.int .i64 4611686018427387904) ∧ w' = w := by
  go_enter Tryz.func48, Tryz.ntmps48
  go_wp2_with fail
  go_ret
  simp
theorem TRd.news {w : World} {B n c : Nat} {A : Option Addr} {L : List ByteArray} (h : TRd w B A n c L) : ∀ ad, A = some ad → ∀ j u, (L.map Value.string)[j]? = some u → w.cell? (ad.add j) = some u := by
  intro ad had j u hu
  rw [List.getElem?_map] at hu
  obtain ⟨s, hs, rfl⟩ := Option.map_eq_some_iff.1 hu
  obtain ⟨b, o, e, _, hc⟩ := h.place j s hs
  rw [had] at e
  obtain rfl := Option.some.inj e
  rw [Addr.add_lit]
  exact hc
theorem TRd.of_own2 {w : World} {base e n : Nat} {v : Value} {L : List ByteArray} (h : w.ownsRow base e 1 v n (L.map Value.string)) : ∃ A c, v = .slice A n c ∧ TRd w w.heap.size A n c L := by
  rcases h.2 with ⟨rfl, rfl⟩ | ⟨g, cap, cur, rfl, _⟩
  · exact ⟨none, 0, rfl, (TRd.of_own h).1⟩
  · exact ⟨_, _, rfl, (TRd.of_own h).1⟩
theorem own_of_blk {w : World} {s : Nat} {t : TypeId} {xs : List Value} (h : Blk w s t xs.toArray) (hl : xs.length ≤ maxLen) : w.ownsRow s t 1 (.slice (some ⟨s, 0, none⟩) xs.length xs.length) xs.length xs :=
  ⟨by simp, .inr ⟨s, xs.length, xs.toArray, rfl, Nat.le_refl _, h, Nat.le_refl _, hl, by simp, by simp⟩⟩
theorem info_str : (Tryz.prog.info? 9).map (fun i => (i.zero, i.size, i.bytes)) = some (some (.string ⟨#[]⟩), 1, 16) := by kernel_rfl
/-- The numbers fit just if the document's do. -/
theorem fits11 (c : CM) : c.shift.ns.all fitB = c.ns11.all fitB := by
  have e : c.ns11 = c.shift.ns ++ [if c.ff then 1 else 0] := rfl
  rw [e, List.all_append]
  have : fitB (if c.ff then 1 else 0) = true := by cases c.ff <;> rfl
  simp [this]
theorem right_low {c : CM} {L : List ByteArray} (hn : I64 c.n) (h : c.n < -1 ∨ 4611686018427387903 < c.n) : c.right L = false := by
  have hno : fitB (wrap64 (c.n + 1)) = false := by
    unfold fitB
    have hw : wrap64 (c.n + 1) = if c.n = 9223372036854775807 then -9223372036854775808 else c.n + 1 := by
      obtain ⟨h1, h2⟩ := hn
      unfold wrap64
      split <;> omega
    rw [hw]
    split
    · decide
    · rcases h with h | h
      · rw [decide_eq_false (by omega), Bool.false_and]
      · rw [decide_eq_false (show ¬ c.n + 1 ≤ 4611686018427387904 by omega), Bool.and_false]
  have hall : c.shift.ns.all fitB = false := by
    rw [List.all_eq_false]
    exact ⟨wrap64 (c.n + 1), by simp [CM.shift, CM.ns], by rw [hno]; simp⟩
  unfold CM.right
  rw [hall]
  simp
end Go.Proofs.YtkdncnhjlgidnaaGreatDoor

namespace Go.Proofs.YtkdncnhjlgidnaaGreatDoor
open Go Go.RowKit Go.Maps

/-- An array that is being filled with numbers, or with texts. -/
def arrN (l : List Nat) (K : Nat) : Array Value := ((l ++ List.replicate (K - l.length) 0).map fun (v : Nat) => Value.int .i64 v).toArray
def arrT (l : List (List Int)) (K : Nat) : Array Value := ((l ++ List.replicate (K - l.length) []).map fun v => Value.string (strOfNums v)).toArray
theorem fill_at {α : Type} (f : α → Value) (l : List α) (z v : α) (K : Nat) (h : l.length < K) :
    ((l ++ List.replicate (K - l.length) z).map f).toArray.setIfInBounds l.length (f v) = (((l ++ [v]) ++ List.replicate (K - (l ++ [v]).length) z).map f).toArray := by
  obtain ⟨m, hm⟩ : ∃ m, K - l.length = m + 1 := ⟨K - l.length - 1, by omega⟩
  have h2 : K - (l ++ [v]).length = m := by simp; omega
  rw [hm, h2, List.replicate_succ, List.setIfInBounds_toArray, List.map_append, List.map_cons]
  congr 1
  rw [List.set_append_right _ _ (by simp)]
  simp
theorem arrN_set (l : List Nat) (v K : Nat) (h : l.length < K) : (arrN l K).setIfInBounds l.length (.int .i64 v) = arrN (l ++ [v]) K := fill_at (fun (v : Nat) => Value.int .i64 v) l 0 v K h
theorem arrT_set (l : List (List Int)) (v : List Int) (K : Nat) (h : l.length < K) : (arrT l K).setIfInBounds l.length (.string (strOfNums v)) = arrT (l ++ [v]) K := fill_at (fun v => Value.string (strOfNums v)) l [] v K h
theorem arrN_size (l : List Nat) (K : Nat) (h : l.length ≤ K) : (arrN l K).size = K := by unfold arrN; simp; omega
theorem arrT_size (l : List (List Int)) (K : Nat) (h : l.length ≤ K) : (arrT l K).size = K := by unfold arrT; simp; omega
theorem arrN_get (l : List Nat) (K : Nat) (h : l.length = K) : ∀ i, i < K → (arrN l K)[i]? = some (.int .i64 (l.getD i 0 : Nat)) := fun i hi => by
  unfold arrN
  rw [h, Nat.sub_self, List.replicate_zero, List.append_nil, List.getElem?_toArray, List.getElem?_map, List.getElem?_eq_getElem (show i < l.length by omega), List.getD_eq_getElem?_getD, List.getElem?_eq_getElem (show i < l.length by omega)]
  rfl
theorem arrT_get (l : List (List Int)) (K : Nat) (h : l.length = K) : ∀ i, i < K → (arrT l K)[i]? = some (.string (strOfNums (l.getD i []))) := fun i hi => by
  unfold arrT
  rw [h, Nat.sub_self, List.replicate_zero, List.append_nil, List.getElem?_toArray, List.getElem?_map, List.getElem?_eq_getElem (show i < l.length by omega), List.getD_eq_getElem?_getD, List.getElem?_eq_getElem (show i < l.length by omega)]
  rfl
theorem arr_get {a : Array Value} {k K : Nat} (hs : a.size = K) (hk : k < K) : ∃ v, a[k]? = some v := ⟨a[k]'(by omega), Array.getElem?_eq_getElem _⟩

theorem raw_is {K L : Nat} {xs : List Int} {N : List Nat} {T : List (List Int)} {p1 y1 p2 y2 mv p3 y3 k : Nat} (h1 : rdN xs 0 0 K = (N, p1, y1)) (h2 : rdT xs p1 y1 L = (T, p2, y2)) (h3 : goNum xs p2 y2 = (mv, p3, y3)) (hk : k = min mv 10) :
    raw K L xs = ⟨N, T, mv, (rdT xs p3 y3 k).1, (rdT xs p3 y3 k).2.1, (rdT xs p3 y3 k).2.2⟩ := by
  unfold raw rawB rawM rawT rawN
  simp only [h1, h2, h3, ← hk]
def no10R (R : Raw) (n : Nat) : Nat :=
  if R.why ≠ 0 then R.why else if R.p < n then 2 else if 1 < R.ns.getD 10 0 ∨ 10 < R.many ∨ (CM.gotR R none 0).right (gotLR R) = false then 2 else 0
theorem no10_cases (R : Raw) (n dn x mv : Nat) (hx : R.ns.getD 10 0 = x) (hm : R.many = mv) (hd : dn = if R.why = 0 ∧ R.p < n then 2 else R.why) :
    (dn ≠ 0 → no10R R n = dn) ∧ (dn = 0 → 1 < x ∨ 10 < mv ∨ (CM.gotR R none 0).right (gotLR R) = false → no10R R n = 2) ∧
      (dn = 0 → ¬ 1 < x → ¬ 10 < mv → (CM.gotR R none 0).right (gotLR R) = true → no10R R n = 0) := by
  subst hx hm
  unfold no10R
  by_cases h0 : R.why = 0
  · by_cases h1 : R.p < n
    · rw [if_pos ⟨h0, h1⟩] at hd
      rw [if_neg (by omega), if_pos h1]
      exact ⟨fun _ => hd.symm, fun h => by omega, fun h => by omega⟩
    · rw [if_neg (by omega)] at hd
      rw [if_neg (by omega), if_neg h1]
      refine ⟨fun h => by omega, fun _ h => by rw [if_pos h], fun _ h2 h3 h4 => ?_⟩
      rw [if_neg]
      rintro (h | h | h)
      · exact h2 h
      · exact h3 h
      · rw [h4] at h; cases h
  · rw [if_neg (by omega)] at hd
    rw [if_pos h0]
    exact ⟨fun _ => hd.symm, fun h => by omega, fun h => by omega⟩
/-- What the document's Read answers. -/
def P10 (R : Raw) (n : Nat) (c : CM) (er : Nat) (w : World) : Prop :=
  (no10R R n ≠ 0 ∧ c = CM.zero ∧ er = no10R R n) ∨ (no10R R n = 0 ∧ er = 0 ∧ ∃ bA bc, c = CM.gotR R bA bc ∧ TRd w w.heap.size bA R.bs.length bc (gotLR R))
theorem load_row_g {P : Program} {ops : Array Oper} {rest : List Oper} {o : Oper} {a : Act} {w : World} {Q : Exit → Act → World → Prop} (hgd : Region.wanted o (yielded ops a.tmps) = true) (ty : TypeId) (x : Operand) (ho : o.op = .load ty x)
    (g : Nat) (hx : a.eval x = .pointer (some ⟨g, 0, none⟩)) (t : TypeId) (cs : Array Value) (fr : Nat × Nat) (d : TypeDesc) (hg : w.heap[g]? = some (.cells cs t fr))
    (hu : P.underlying ty = some d) (hd : (match d with | .struct _ | .array _ _ => true | _ => false) = true) (hi : (P.info? ty).map (·.size) = some cs.size)
    (h : wpList P ops Q rest (a.put o.dst (.agg cs)) w) : wpList P ops Q (o :: rest) a w :=
  wpList_step fun K hK => by
    rw [if_pos hgd]
    exact wp_load_row ty x ho g hx t cs fr d hg hu hd hi (hK _ _ h)

theorem at_dst {P : Program} {ops : Array Oper} {rest : List Oper} {o : Oper} {a : Act} {w : World} {Q : Exit → Act → World → Prop} (d : Option Tmp) (_ : o.dst = d) (h : wpList P ops Q (o :: rest) a w) : wpList P ops Q (o :: rest) a w := h
theorem three_blocks (w : World) (cs ds es : Array Value) (t u v : TypeId) :
    Blk (((w.alloc (.cells cs t)).alloc (.cells ds u)).alloc (.cells es v)) w.heap.size t cs ∧ Blk (((w.alloc (.cells cs t)).alloc (.cells ds u)).alloc (.cells es v)) (w.heap.size + 1) u ds ∧
      Blk (((w.alloc (.cells cs t)).alloc (.cells ds u)).alloc (.cells es v)) (w.heap.size + 1 + 1) v es ∧ Below w.heap.size w (((w.alloc (.cells cs t)).alloc (.cells ds u)).alloc (.cells es v)) := by
  have h0 := ((Blk.fresh w t cs).alloc (.cells ds u)).alloc (.cells es v)
  have h1 := (Blk.fresh (w.alloc (.cells cs t)) u ds).alloc (.cells es v)
  have h2 := Blk.fresh ((w.alloc (.cells cs t)).alloc (.cells ds u)) v es
  have z1 : (w.alloc (.cells cs t)).heap.size = w.heap.size + 1 := by simp
  have z2 : ((w.alloc (.cells cs t)).alloc (.cells ds u)).heap.size = w.heap.size + 1 + 1 := by simp
  rw [z1] at h1
  rw [z2] at h2
  exact ⟨h0, h1, h2, (((Below.refl _ _).alloc (Nat.le_refl _) _).alloc (by omega) _).alloc (by omega) _⟩

def Bs (W : World) (L : List (Nat × TypeId × Array Value)) : Prop := ∀ x ∈ L, Blk W x.1 x.2.1 x.2.2
/-- A reader at block b, a row at block c that is being filled, and what else stands, all new since w. -/
structure RS (w : World) (L : List (Nat × TypeId × Array Value)) (b : Nat) (A : Option Addr) (n d p why c : Nat) (v : TypeId) (es : Array Value) (W : World) : Prop where
  bel : Below w.heap.size w W
  keep : Bs W L
  rdr : Blk W b 63 #[.slice A n d, .int .i64 p, .int .i64 why]
  arr : Blk W c v es
  hb : w.heap.size ≤ b
  hc : w.heap.size ≤ c
  ne : b ≠ c
  out : ∀ x ∈ L, x.1 ≠ b ∧ x.1 ≠ c
section
variable {w W W1 : World} {L : List (Nat × TypeId × Array Value)} {b : Nat} {A : Option Addr} {n d p why c : Nat} {v : TypeId} {es : Array Value}
theorem RS.below (h : RS w L b A n d p why c v es W) (hb : Below W.heap.size W W1) : RS w L b A n d p why c v es W1 :=
  ⟨h.bel.trans (hb.mono h.bel.size), fun x hx => (h.keep x hx).below hb (h.keep x hx).lt, h.rdr.below hb h.rdr.lt, h.arr.below hb h.arr.lt, h.hb, h.hc, h.ne, h.out⟩
theorem RS.alloc (h : RS w L b A n d p why c v es W) (o : Obj) : RS w L b A n d p why c v es (W.alloc o) := h.below ((Below.refl _ _).alloc (Nat.le_refl _) o)
theorem RS.read (h : RS w L b A n d p why c v es W) (p' why' : Nat) : RS w L b A n d p' why' c v es (((W.setCell ⟨b, 0, none⟩ (.slice A n d)).setCell ⟨b, 1, none⟩ (.int .i64 p')).setCell ⟨b, 2, none⟩ (.int .i64 why')) :=
  ⟨((h.bel.setCell h.hb _).setCell h.hb _).setCell h.hb _, fun x hx => (((h.keep x hx).other (p := ⟨b, 0, none⟩) (h.out x hx).1 _).other (p := ⟨b, 1, none⟩) (h.out x hx).1 _).other (p := ⟨b, 2, none⟩) (h.out x hx).1 _,
    ((h.rdr.set 0 _).set 1 _).set 2 _, ((h.arr.other (p := ⟨b, 0, none⟩) h.ne.symm _).other (p := ⟨b, 1, none⟩) h.ne.symm _).other (p := ⟨b, 2, none⟩) h.ne.symm _, h.hb, h.hc, h.ne, h.out⟩
theorem RS.fill (h : RS w L b A n d p why c v es W) (k : Nat) (x : Value) : RS w L b A n d p why c v (es.setIfInBounds k x) (W.setCell ⟨c, k, none⟩ x) :=
  ⟨h.bel.setCell h.hc _, fun y hy => (h.keep y hy).other (p := ⟨c, k, none⟩) (h.out y hy).2 _, h.rdr.other (p := ⟨c, k, none⟩) h.ne _, h.arr.set k _, h.hb, h.hc, h.ne, h.out⟩
theorem RS.chg {B : Nat} {Φ : Nat → Prop} (h : RS w L b A n d p why c v es W) (hc : Chg Φ W W1) (hn : ∀ q, Φ q → B ≤ q) (h0 : w.heap.size ≤ B) (h1 : b < B) (h2 : c < B) (h3 : ∀ x ∈ L, x.1 < B) : RS w L b A n d p why c v es W1 :=
  ⟨h.bel.trans ((hc.below (B := w.heap.size) h.bel.size fun q hq => Nat.le_trans h0 (hn q hq))), fun x hx => (h.keep x hx).chg hc (fun e => by have := hn _ e; have := h3 x hx; omega), h.rdr.chg hc (fun e => by have := hn _ e; omega), h.arr.chg hc (fun e => by have := hn _ e; omega), h.hb, h.hc, h.ne, h.out⟩
theorem RS.lts (h : RS w L b A n d p why c v es W) : b < W.heap.size ∧ c < W.heap.size ∧ ∀ x ∈ L, x.1 < W.heap.size := ⟨h.rdr.lt, h.arr.lt, fun x hx => (h.keep x hx).lt⟩
theorem RS.boxed (h : RS w L b A n d p why c v es W) (u : TypeId) (old fs : Array Value) : RS w ((c, v, es) :: L) b A n d p why W.heap.size u fs ((W.alloc (.cells old u)).setRow W.heap.size fs) := by
  have hb : Below W.heap.size W ((W.alloc (.cells old u)).setRow W.heap.size fs) := below_setRow ((Below.refl _ _).alloc (Nat.le_refl _) _) (Nat.le_refl _) _
  have h2 := h.below hb
  have hlt : b < W.heap.size := h.rdr.lt
  refine ⟨h2.bel, fun x hx => ?_, h2.rdr, setRow_heap _ _ _ fs _ _ (heap_alloc_new W (.cells old u)), h.hb, h.bel.size, by omega, fun x hx => ?_⟩
  · rcases List.mem_cons.1 hx with rfl | hx
    · exact h2.arr
    · exact h2.keep x hx
  · rcases List.mem_cons.1 hx with rfl | hx
    · exact ⟨h.ne.symm, by have := h.arr.lt; show c ≠ _; omega⟩
    · exact ⟨(h.out x hx).1, by have := (h.keep x hx).lt; omega⟩
/-- Another row takes the place of the one that is filled. -/
theorem RS.next (h : RS w L b A n d p why c v es W) (u : TypeId) (fs : Array Value) : RS w ((c, v, es) :: L) b A n d p why W.heap.size u fs (W.alloc (.cells fs u)) := by
  have hlt : b < W.heap.size := h.rdr.lt
  refine ⟨h.bel.alloc h.bel.size _, fun x hx => ?_, h.rdr.alloc _, Blk.fresh _ _ _, h.hb, h.bel.size, by omega, fun x hx => ?_⟩
  · rcases List.mem_cons.1 hx with rfl | hx
    · exact h.arr.alloc _
    · exact (h.keep x hx).alloc _
  · rcases List.mem_cons.1 hx with rfl | hx
    · exact ⟨h.ne.symm, by have := h.arr.lt; show c ≠ _; omega⟩
    · exact ⟨(h.out x hx).1, by have := (h.keep x hx).lt; omega⟩
end

end Go.Proofs.YtkdncnhjlgidnaaGreatDoor
