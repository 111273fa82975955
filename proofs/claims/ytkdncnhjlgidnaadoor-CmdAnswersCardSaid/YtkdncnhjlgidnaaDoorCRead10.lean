/- What is proved here: the document's own Read. -/
import Derived.Test.YtkdncnhjlgidnaaDoorCRdr10
import Derived.Test.YtkdncnhjlgidnaaDoorCRight10
import Derived.Test.YtkdncnhjlgidnaaDoorCOut
import Derived.Great.BuildSlice
namespace Go.Proofs.YtkdncnhjlgidnaaDoor
open Go Go.RowKit Go.Maps

/-- An array that is being filled with numbers, or with texts. -/
def arrN (l : List Nat) (K : Nat) : Array Value := ((l ++ List.replicate (K - l.length) 0).map fun (v : Nat) => Value.int .i64 v).toArray
def arrT (l : List (List Int)) (K : Nat) : Array Value := ((l ++ List.replicate (K - l.length) []).map fun v => Value.string (strOfNums v)).toArray
theorem fill_at {α : Type} (f : α → Value) (l : List α) (z v : α) (K : Nat) (h : l.length < K) :
    ((l ++ List.replicate (K - l.length) z).map f).toArray.setIfInBounds l.length (f v) = (((l ++ [v]) ++ List.replicate (K - (l ++ [v]).length) z).map f).toArray := by
  obtain ⟨m, hm⟩ : ∃ m, K - l.length = m + 1 := ⟨K - l.length - 1, by omega⟩
  have h2 : K - (l ++ [v]).length = m := by simp; omega
  rw [hm, h2, List.replicate_succ, List.setIfInBounds_toArray, List.map_append, List.map_cons]
  congr 1
  rw [List.set_append_right _ _ (by simp)]
  simp
theorem arrN_set (l : List Nat) (v K : Nat) (h : l.length < K) : (arrN l K).setIfInBounds l.length (.int .i64 v) = arrN (l ++ [v]) K := fill_at (fun (v : Nat) => Value.int .i64 v) l 0 v K h
theorem arrT_set (l : List (List Int)) (v : List Int) (K : Nat) (h : l.length < K) : (arrT l K).setIfInBounds l.length (.string (strOfNums v)) = arrT (l ++ [v]) K := fill_at (fun v => Value.string (strOfNums v)) l [] v K h
theorem arrN_size (l : List Nat) (K : Nat) (h : l.length ≤ K) : (arrN l K).size = K := by unfold arrN; simp; omega
theorem arrT_size (l : List (List Int)) (K : Nat) (h : l.length ≤ K) : (arrT l K).size = K := by unfold arrT; simp; omega
theorem arrN_get (l : List Nat) (K : Nat) (h : l.length = K) : ∀ i, i < K → (arrN l K)[i]? = some (.int .i64 (l.getD i 0 : Nat)) := fun i hi => by
  unfold arrN
  rw [h, Nat.sub_self, List.replicate_zero, List.append_nil, List.getElem?_toArray, List.getElem?_map, List.getElem?_eq_getElem (show i < l.length by omega), List.getD_eq_getElem?_getD, List.getElem?_eq_getElem (show i < l.length by omega)]
  rfl
theorem arrT_get (l : List (List Int)) (K : Nat) (h : l.length = K) : ∀ i, i < K → (arrT l K)[i]? = some (.string (strOfNums (l.getD i []))) := fun i hi => by
  unfold arrT
  rw [h, Nat.sub_self, List.replicate_zero, List.append_nil, List.getElem?_toArray, List.getElem?_map, List.getElem?_eq_getElem (show i < l.length by omega), List.getD_eq_getElem?_getD, List.getElem?_eq_getElem (show i < l.length by omega)]
  rfl
theorem arr_get {a : Array Value} {k K : Nat} (hs : a.size = K) (hk : k < K) : ∃ v, a[k]? = some v := ⟨a[k]'(by omega), Array.getElem?_eq_getElem _⟩

theorem raw_is {K L : Nat} {xs : List Int} {N : List Nat} {T : List (List Int)} {p1 y1 p2 y2 mv p3 y3 k : Nat} (h1 : rdN xs 0 0 K = (N, p1, y1)) (h2 : rdT xs p1 y1 L = (T, p2, y2)) (h3 : goNum xs p2 y2 = (mv, p3, y3)) (hk : k = min mv 10) :
    raw K L xs = ⟨N, T, mv, (rdT xs p3 y3 k).1, (rdT xs p3 y3 k).2.1, (rdT xs p3 y3 k).2.2⟩ := by
  unfold raw rawB rawM rawT rawN
  simp only [h1, h2, h3, ← hk]
def no10R (R : Raw) (n : Nat) : Nat :=
  if R.why ≠ 0 then R.why else if R.p < n then 2 else if 1 < R.ns.getD 10 0 ∨ 10 < R.many ∨ (CM.gotR R none 0).right (gotLR R) = false then 2 else 0
theorem no10_cases (R : Raw) (n dn x mv : Nat) (hx : R.ns.getD 10 0 = x) (hm : R.many = mv) (hd : dn = if R.why = 0 ∧ R.p < n then 2 else R.why) :
    (dn ≠ 0 → no10R R n = dn) ∧ (dn = 0 → 1 < x ∨ 10 < mv ∨ (CM.gotR R none 0).right (gotLR R) = false → no10R R n = 2) ∧
      (dn = 0 → ¬ 1 < x → ¬ 10 < mv → (CM.gotR R none 0).right (gotLR R) = true → no10R R n = 0) := by
  subst hx hm
  unfold no10R
  by_cases h0 : R.why = 0
  · by_cases h1 : R.p < n
    · rw [if_pos ⟨h0, h1⟩] at hd
      rw [if_neg (by omega), if_pos h1]
      exact ⟨fun _ => hd.symm, fun h => by omega, fun h => by omega⟩
    · rw [if_neg (by omega)] at hd
      rw [if_neg (by omega), if_neg h1]
      refine ⟨fun h => by omega, fun _ h => by rw [if_pos h], fun _ h2 h3 h4 => ?_⟩
      rw [if_neg]
      rintro (h | h | h)
      · exact h2 h
      · exact h3 h
      · rw [h4] at h; cases h
  · rw [if_neg (by omega)] at hd
    rw [if_pos h0]
    exact ⟨fun _ => hd.symm, fun h => by omega, fun h => by omega⟩
/-- What the document's Read answers. -/
def P10 (R : Raw) (n : Nat) (c : CM) (er : Nat) (w : World) : Prop :=
  (no10R R n ≠ 0 ∧ c = CM.zero ∧ er = no10R R n) ∨ (no10R R n = 0 ∧ er = 0 ∧ ∃ bA bc, c = CM.gotR R bA bc ∧ TRd w w.heap.size bA R.bs.length bc (gotLR R))
theorem load_row_g {P : Program} {ops : Array Oper} {rest : List Oper} {o : Oper} {a : Act} {w : World} {Q : Exit → Act → World → Prop} (hgd : Region.wanted o (yielded ops a.tmps) = true) (ty : TypeId) (x : Operand) (ho : o.op = .load ty x)
    (g : Nat) (hx : a.eval x = .pointer (some ⟨g, 0, none⟩)) (t : TypeId) (cs : Array Value) (fr : Nat × Nat) (d : TypeDesc) (hg : w.heap[g]? = some (.cells cs t fr))
    (hu : P.underlying ty = some d) (hd : (match d with | .struct _ | .array _ _ => true | _ => false) = true) (hi : (P.info? ty).map (·.size) = some cs.size)
    (h : wpList P ops Q rest (a.put o.dst (.agg cs)) w) : wpList P ops Q (o :: rest) a w :=
  wpList_step fun K hK => by
    rw [if_pos hgd]
    exact wp_load_row ty x ho g hx t cs fr d hg hu hd hi (hK _ _ h)

theorem at_dst {P : Program} {ops : Array Oper} {rest : List Oper} {o : Oper} {a : Act} {w : World} {Q : Exit → Act → World → Prop} (d : Option Tmp) (_ : o.dst = d) (h : wpList P ops Q (o :: rest) a w) : wpList P ops Q (o :: rest) a w := h
theorem three_blocks (w : World) (cs ds es : Array Value) (t u v : TypeId) :
    Blk (((w.alloc (.cells cs t)).alloc (.cells ds u)).alloc (.cells es v)) w.heap.size t cs ∧ Blk (((w.alloc (.cells cs t)).alloc (.cells ds u)).alloc (.cells es v)) (w.heap.size + 1) u ds ∧
      Blk (((w.alloc (.cells cs t)).alloc (.cells ds u)).alloc (.cells es v)) (w.heap.size + 1 + 1) v es ∧ Below w.heap.size w (((w.alloc (.cells cs t)).alloc (.cells ds u)).alloc (.cells es v)) := by
  have h0 := ((Blk.fresh w t cs).alloc (.cells ds u)).alloc (.cells es v)
  have h1 := (Blk.fresh (w.alloc (.cells cs t)) u ds).alloc (.cells es v)
  have h2 := Blk.fresh ((w.alloc (.cells cs t)).alloc (.cells ds u)) v es
  have z1 : (w.alloc (.cells cs t)).heap.size = w.heap.size + 1 := by simp
  have z2 : ((w.alloc (.cells cs t)).alloc (.cells ds u)).heap.size = w.heap.size + 1 + 1 := by simp
  rw [z1] at h1
  rw [z2] at h2
  exact ⟨h0, h1, h2, (((Below.refl _ _).alloc (Nat.le_refl _) _).alloc (by omega) _).alloc (by omega) _⟩

def Bs (W : World) (L : List (Nat × TypeId × Array Value)) : Prop := ∀ x ∈ L, Blk W x.1 x.2.1 x.2.2
/-- A reader at block b, a row at block c that is being filled, and what else stands, all new since w. -/
structure RS (w : World) (L : List (Nat × TypeId × Array Value)) (b : Nat) (A : Option Addr) (n d p why c : Nat) (v : TypeId) (es : Array Value) (W : World) : Prop where
  bel : Below w.heap.size w W
  keep : Bs W L
  rdr : Blk W b 102 #[.slice A n d, .int .i64 p, .int .i64 why]
  arr : Blk W c v es
  hb : w.heap.size ≤ b
  hc : w.heap.size ≤ c
  ne : b ≠ c
  out : ∀ x ∈ L, x.1 ≠ b ∧ x.1 ≠ c
section
variable {w W W1 : World} {L : List (Nat × TypeId × Array Value)} {b : Nat} {A : Option Addr} {n d p why c : Nat} {v : TypeId} {es : Array Value}
theorem RS.below (h : RS w L b A n d p why c v es W) (hb : Below W.heap.size W W1) : RS w L b A n d p why c v es W1 :=
  ⟨h.bel.trans (hb.mono h.bel.size), fun x hx => (h.keep x hx).below hb (h.keep x hx).lt, h.rdr.below hb h.rdr.lt, h.arr.below hb h.arr.lt, h.hb, h.hc, h.ne, h.out⟩
theorem RS.alloc (h : RS w L b A n d p why c v es W) (o : Obj) : RS w L b A n d p why c v es (W.alloc o) := h.below ((Below.refl _ _).alloc (Nat.le_refl _) o)
theorem RS.read (h : RS w L b A n d p why c v es W) (p' why' : Nat) : RS w L b A n d p' why' c v es (((W.setCell ⟨b, 0, none⟩ (.slice A n d)).setCell ⟨b, 1, none⟩ (.int .i64 p')).setCell ⟨b, 2, none⟩ (.int .i64 why')) :=
  ⟨((h.bel.setCell h.hb _).setCell h.hb _).setCell h.hb _, fun x hx => (((h.keep x hx).other (p := ⟨b, 0, none⟩) (h.out x hx).1 _).other (p := ⟨b, 1, none⟩) (h.out x hx).1 _).other (p := ⟨b, 2, none⟩) (h.out x hx).1 _,
    ((h.rdr.set 0 _).set 1 _).set 2 _, ((h.arr.other (p := ⟨b, 0, none⟩) h.ne.symm _).other (p := ⟨b, 1, none⟩) h.ne.symm _).other (p := ⟨b, 2, none⟩) h.ne.symm _, h.hb, h.hc, h.ne, h.out⟩
theorem RS.fill (h : RS w L b A n d p why c v es W) (k : Nat) (x : Value) : RS w L b A n d p why c v (es.setIfInBounds k x) (W.setCell ⟨c, k, none⟩ x) :=
  ⟨h.bel.setCell h.hc _, fun y hy => (h.keep y hy).other (p := ⟨c, k, none⟩) (h.out y hy).2 _, h.rdr.other (p := ⟨c, k, none⟩) h.ne _, h.arr.set k _, h.hb, h.hc, h.ne, h.out⟩
theorem RS.chg {B : Nat} {Φ : Nat → Prop} (h : RS w L b A n d p why c v es W) (hc : Chg Φ W W1) (hn : ∀ q, Φ q → B ≤ q) (h0 : w.heap.size ≤ B) (h1 : b < B) (h2 : c < B) (h3 : ∀ x ∈ L, x.1 < B) : RS w L b A n d p why c v es W1 :=
  ⟨h.bel.trans ((hc.below (B := w.heap.size) h.bel.size fun q hq => Nat.le_trans h0 (hn q hq))), fun x hx => (h.keep x hx).chg hc (fun e => by have := hn _ e; have := h3 x hx; omega), h.rdr.chg hc (fun e => by have := hn _ e; omega), h.arr.chg hc (fun e => by have := hn _ e; omega), h.hb, h.hc, h.ne, h.out⟩
theorem RS.lts (h : RS w L b A n d p why c v es W) : b < W.heap.size ∧ c < W.heap.size ∧ ∀ x ∈ L, x.1 < W.heap.size := ⟨h.rdr.lt, h.arr.lt, fun x hx => (h.keep x hx).lt⟩
theorem RS.boxed (h : RS w L b A n d p why c v es W) (u : TypeId) (old fs : Array Value) : RS w ((c, v, es) :: L) b A n d p why W.heap.size u fs ((W.alloc (.cells old u)).setRow W.heap.size fs) := by
  have hb : Below W.heap.size W ((W.alloc (.cells old u)).setRow W.heap.size fs) := below_setRow ((Below.refl _ _).alloc (Nat.le_refl _) _) (Nat.le_refl _) _
  have h2 := h.below hb
  have hlt : b < W.heap.size := h.rdr.lt
  refine ⟨h2.bel, fun x hx => ?_, h2.rdr, setRow_heap _ _ _ fs _ _ (heap_alloc_new W (.cells old u)), h.hb, h.bel.size, by omega, fun x hx => ?_⟩
  · rcases List.mem_cons.1 hx with rfl | hx
    · exact h2.arr
    · exact h2.keep x hx
  · rcases List.mem_cons.1 hx with rfl | hx
    · exact ⟨h.ne.symm, by have := h.arr.lt; show c ≠ _; omega⟩
    · exact ⟨(h.out x hx).1, by have := (h.keep x hx).lt; omega⟩
/-- Another row takes the place of the one that is filled. -/
theorem RS.next (h : RS w L b A n d p why c v es W) (u : TypeId) (fs : Array Value) : RS w ((c, v, es) :: L) b A n d p why W.heap.size u fs (W.alloc (.cells fs u)) := by
  have hlt : b < W.heap.size := h.rdr.lt
  refine ⟨h.bel.alloc h.bel.size _, fun x hx => ?_, h.rdr.alloc _, Blk.fresh _ _ _, h.hb, h.bel.size, by omega, fun x hx => ?_⟩
  · rcases List.mem_cons.1 hx with rfl | hx
    · exact h.arr.alloc _
    · exact (h.keep x hx).alloc _
  · rcases List.mem_cons.1 hx with rfl | hx
    · exact ⟨h.ne.symm, by have := h.arr.lt; show c ≠ _; omega⟩
    · exact ⟨(h.out x hx).1, by have := (h.keep x hx).lt; omega⟩
end

set_option maxHeartbeats 6400000 in
set_option maxRecDepth 100000 in
theorem Read10_any (A : Option Addr) (n d : Nat) (xs : List Int) (w : World) (h : Rd w w.heap.size .u8 A n d xs) (hx : ∀ x ∈ xs, 0 ≤ x ∧ x < 256) (hn : n ≤ 1000000) (R : Raw) (hR : raw 11 6 xs = R) :
    Calls Tryd.prog 18 #[.slice A n d] w fun e w' => ∃ (c : CM) (er : Nat), e = .returned (.tuple #[.agg c.cells, .int .i64 er]) ∧ Below w.heap.size w w' ∧ P10 R n c er w' := by
  have HNUM : Hid (∀ (W : World) (p why : Nat), Below w.heap.size w W → p ≤ n → Calls Tryd.prog 49 #[.agg #[.slice A n d, .int .i64 p, .int .i64 why]] W fun e w' => e = .returned (.tuple #[.agg #[.slice A n d, .int .i64 (goNum xs p why).2.1, .int .i64 (goNum xs p why).2.2], .int .i64 (goNum xs p why).1]) ∧ Below W.heap.size W w') :=
    Lib.hid fun W p why hW hp => num10_any A n d xs p why W ((h.below hW).more hW.size) hx hn hp
  have HTXT : Hid (∀ (W : World) (p why : Nat), Below w.heap.size w W → p ≤ n → Calls Tryd.prog 50 #[.agg #[.slice A n d, .int .i64 p, .int .i64 why]] W fun e w' => e = .returned (.tuple #[.agg #[.slice A n d, .int .i64 (goText xs p why 256).2.1, .int .i64 (goText xs p why 256).2.2], .string (strOfNums (goText xs p why 256).1)]) ∧ Below W.heap.size W w') :=
    Lib.hid fun W p why hW hp => text10_any A n d xs p why W ((h.below hW).more hW.size) hx hn hp
  have hok : ∀ k, (rdN xs 0 0 k).2.1 ≤ n := fun k => by rw [← h.len]; exact (rdN_ok (xs := xs) (Nat.zero_le _) (.inl rfl) k).1
  have HOK := Lib.hid hok
  have HOK2 : Hid (∀ k, (rdT xs (rdN xs 0 0 11).2.1 (rdN xs 0 0 11).2.2 k).2.1 ≤ n) := Lib.hid fun k => by
    rw [← h.len]
    have h1 := rdN_ok (xs := xs) (Nat.zero_le _) (.inl rfl) 11
    exact (rdT_ok h1.1 h1.2 k).1
  have HRT : Hid (∀ p y k, p ≤ n → Ok3 y → (rdT xs p y k).2.1 ≤ n) := Lib.hid fun p y k hp hy => by
    rw [← h.len] at hp ⊢
    exact (rdT_ok hp hy k).1
  have HM3 : Hid ((goNum xs (rdT xs (rdN xs 0 0 11).2.1 (rdN xs 0 0 11).2.2 6).2.1 (rdT xs (rdN xs 0 0 11).2.1 (rdN xs 0 0 11).2.2 6).2.2).2.1 ≤ n ∧ Ok3 (goNum xs (rdT xs (rdN xs 0 0 11).2.1 (rdN xs 0 0 11).2.2 6).2.1 (rdT xs (rdN xs 0 0 11).2.1 (rdN xs 0 0 11).2.2 6).2.2).2.2) := Lib.hid (by
    rw [← h.len]
    have h1 := rdN_ok (xs := xs) (Nat.zero_le _) (.inl rfl) 11
    have h2 := rdT_ok h1.1 h1.2 6
    exact ⟨goNum_le h2.1, goNum_ok3 h2.2⟩)
  have HR0 := Lib.hid hR
  clear hok h hx hR
  go_enter Tryd.func18, Tryd.ntmps18
  go_wp2_with fail
  obtain ⟨hz0, hz1, hz2, hbel⟩ := three_blocks w CM.zero.cells #[.slice A n d, .int .i64 0, .int .i64 0] (arrN [] 11) 37 102 103
  change Code.wp _ _ _ _ (((w.alloc (.cells CM.zero.cells 37)).alloc (.cells #[.slice A n d, .int .i64 0, .int .i64 0] 102)).alloc (.cells (arrN [] 11) 103))
  generalize ((w.alloc (.cells CM.zero.cells 37)).alloc (.cells #[.slice A n d, .int .i64 0, .int .i64 0] 102)).alloc (.cells (arrN [] 11) 103) = W0 at *
  have H0 : Hid (RS w [(w.heap.size, 37, CM.zero.cells)] (w.heap.size + 1) A n d 0 0 (w.heap.size + 1 + 1) 103 (arrN [] 11) W0) := Lib.hid ⟨hbel, fun x hx => by obtain rfl := List.mem_singleton.1 hx; exact hz0, hz1, hz2, by omega, by omega, by omega, fun x hx => by obtain rfl := List.mem_singleton.1 hx; exact ⟨by show w.heap.size ≠ _; omega, by show w.heap.size ≠ _; omega⟩⟩
  clear hbel hz0 hz1 hz2
  generalize hgb : w.heap.size + 1 = gb at *
  generalize gb + 1 = gc at *
  go_loopw [6] (fun v6 wr => ∃ (k : Nat), k ≤ 11 ∧ v6 = .int .i64 k ∧ Hid (RS w [(w.heap.size, 37, CM.zero.cells)] gb A n d (rdN xs 0 0 k).2.1 (rdN xs 0 0 k).2.2 gc 103 (arrN (rdN xs 0 0 k).1 11) wr)) (fun i _ => 11 - (intOf i).toNat)
  case atStart => exact ⟨0, by omega, rfl, H0⟩
  case round =>
    obtain ⟨k, hk, rfl, hall⟩ := hrel
    clear H0 hgb
    by_cases h1 : k < 11
    · have hkz : (k : Int) < 11 := by omega
      have hlen := rdN_len xs 0 0 k
      have w3 : IntKind.i64.wrap ((k : Int) + 1) = k + 1 := IntWalk.i64_in _ (by omega)
      have w4 : IntKind.i64.wrap (k : Int) = k := IntWalk.i64_in _ (by omega)
      have HP : Hid (∀ W, Below wr.heap.size wr W → Calls Tryd.prog 49 #[.agg #[.slice A n d, .int .i64 (rdN xs 0 0 k).2.1, .int .i64 (rdN xs 0 0 k).2.2]] W fun e w' => e = .returned (.tuple #[.agg #[.slice A n d, .int .i64 (rdN xs 0 0 (k + 1)).2.1, .int .i64 (rdN xs 0 0 (k + 1)).2.2], .int .i64 (goNum xs (rdN xs 0 0 k).2.1 (rdN xs 0 0 k).2.2).1]) ∧ Below W.heap.size W w') := Lib.hid fun W hW => HNUM.out W _ _ (hall.out.bel.trans (hW.mono hall.out.bel.size)) (HOK.out k)
      have HV : Hid ((arrN (rdN xs 0 0 k).1 11).setIfInBounds k (.int .i64 (goNum xs (rdN xs 0 0 k).2.1 (rdN xs 0 0 k).2.2).1) = arrN (rdN xs 0 0 (k + 1)).1 11) := Lib.hid (by
        have := arrN_set (rdN xs 0 0 k).1 (goNum xs (rdN xs 0 0 k).2.1 (rdN xs 0 0 k).2.2).1 11 (by omega)
        rw [hlen] at this
        exact this)
      have HAS : Hid ((arrN (rdN xs 0 0 k).1 11).size = 11) := Lib.hid (arrN_size _ _ (by omega))
      generalize (goNum xs (rdN xs 0 0 k).2.1 (rdN xs 0 0 k).2.2).1 = nv at *
      generalize (rdN xs 0 0 k).2.1 = p at *
      generalize (rdN xs 0 0 k).2.2 = why at *
      generalize arrN (rdN xs 0 0 k).1 11 = av at *
      generalize hq1 : (rdN xs 0 0 (k + 1)).2.1 = p' at HP
      generalize hq2 : (rdN xs 0 0 (k + 1)).2.2 = why' at HP
      have HQ := Lib.hid (And.intro hq1 hq2)
      clear hq1 hq2 hlen
      have c0 := hall.out.rdr.cell 0
      have c1 := hall.out.rdr.cell 1
      have c2 := hall.out.rdr.cell 2
      simp at c0 c1 c2
      go_upto_region 7 with (go_at_call 49; refine (HP.out _ (Below.refl _ _)).mono ?_; rintro e w1 ⟨rfl, hb⟩)
      have HR2 := Lib.hid ((hall.out.below hb).alloc (.cells #[.slice A n d, .int .i64 p', .int .i64 why'] 102))
      have HNX := Lib.hid (Blk.fresh w1 102 #[.slice A n d, .int .i64 p', .int .i64 why'])
      clear c0 c1 c2 hb hall
      generalize w1.alloc (.cells #[.slice A n d, .int .i64 p', .int .i64 why'] 102) = w2 at *
      generalize w1.heap.size = gx at *
      have c0 := HR2.out.rdr.cell 0
      have c1 := HR2.out.rdr.cell 1
      have c2 := HR2.out.rdr.cell 2
      have f0 := HR2.out.rdr.free 0
      have f1 := HR2.out.rdr.free 1
      have f2 := HR2.out.rdr.free 2
      have d0 := HNX.out.cell 0
      have d1 := HNX.out.cell 1
      have d2 := HNX.out.cell 2
      obtain ⟨v0, hv0⟩ := arr_get (a := av) (K := 11) (k := k) HAS.out h1
      have c3 := (HR2.out.arr.cell k).trans hv0
      have f3 := HR2.out.arr.free k
      have hne := HR2.out.ne
      simp at c0 c1 c2 d0 d1 d2
      go_wp2_with fail
      go_roundw
      case rel =>
        refine ⟨k + 1, by omega, by go_num, Lib.hid ?_⟩
        have := (HR2.out.read p' why').fill k (.int .i64 nv)
        rw [HV.out] at this
        rw [HQ.out.1, HQ.out.2]
        exact this
      case measure => simp [intOf]; omega
    · obtain rfl : k = 11 := by omega
      rw [show ((11 : Nat) : Int) = 11 from rfl]
      go_wp2_with fail
      change Code.wp _ _ _ _ (wr.alloc (.cells (arrT [] 6) 106))
      have HAN := Lib.hid (arrN_get (rdN xs 0 0 11).1 11 (rdN_len xs 0 0 11))
      have HLT := Lib.hid (rdN_lt xs 0 0 11)
      have HNL := Lib.hid (rdN_len xs 0 0 11)
      obtain ⟨N0, hN0⟩ : ∃ N0, rdN xs 0 0 11 = N0 := ⟨_, rfl⟩
      rw [hN0] at hall HAN HLT HNL HOK2 HM3
      have HN0 := Lib.hid hN0
      clear hN0
      obtain ⟨N, p1, y1⟩ := N0
      dsimp only at hall HAN HLT HNL HOK2 HM3
      generalize arrN N 11 = an at *
      have hr3 := hall.out.next 106 (arrT [] 6)
      generalize hgd : wr.heap.size = gd at *
      generalize wr.alloc (.cells (arrT [] 6) 106) = W3 at *
      have H3 := Lib.hid hr3
      clear hr3 hall hgd
      go_loopw [10] (fun v10 wr => ∃ (k : Nat), k ≤ 6 ∧ v10 = .int .i64 k ∧ Hid (RS w [(gc, 103, an), (w.heap.size, 37, CM.zero.cells)] gb A n d (rdT xs p1 y1 k).2.1 (rdT xs p1 y1 k).2.2 gd 106 (arrT (rdT xs p1 y1 k).1 6) wr)) (fun i _ => 6 - (intOf i).toNat)
      case atStart => exact ⟨0, by omega, rfl, H3⟩
      case round =>
        obtain ⟨k, hk, rfl, hall⟩ := hrel
        clear H3
        by_cases h1 : k < 6
        · have hkz : (k : Int) < 6 := by omega
          have hlen := rdT_len xs p1 y1 k
          have w3 : IntKind.i64.wrap ((k : Int) + 1) = k + 1 := IntWalk.i64_in _ (by omega)
          have w4 : IntKind.i64.wrap (k : Int) = k := IntWalk.i64_in _ (by omega)
          have HP : Hid (∀ W, Below wr.heap.size wr W → Calls Tryd.prog 50 #[.agg #[.slice A n d, .int .i64 (rdT xs p1 y1 k).2.1, .int .i64 (rdT xs p1 y1 k).2.2]] W fun e w' => e = .returned (.tuple #[.agg #[.slice A n d, .int .i64 (rdT xs p1 y1 (k + 1)).2.1, .int .i64 (rdT xs p1 y1 (k + 1)).2.2], .string (strOfNums (goText xs (rdT xs p1 y1 k).2.1 (rdT xs p1 y1 k).2.2 256).1)]) ∧ Below W.heap.size W w') := Lib.hid fun W hW => HTXT.out W _ _ (hall.out.bel.trans (hW.mono hall.out.bel.size)) (HOK2.out k)
          have HV : Hid ((arrT (rdT xs p1 y1 k).1 6).setIfInBounds k (.string (strOfNums (goText xs (rdT xs p1 y1 k).2.1 (rdT xs p1 y1 k).2.2 256).1)) = arrT (rdT xs p1 y1 (k + 1)).1 6) := Lib.hid (by
            have := arrT_set (rdT xs p1 y1 k).1 (goText xs (rdT xs p1 y1 k).2.1 (rdT xs p1 y1 k).2.2 256).1 6 (by omega)
            rw [hlen] at this
            exact this)
          have HAS : Hid ((arrT (rdT xs p1 y1 k).1 6).size = 6) := Lib.hid (arrT_size _ _ (by omega))
          generalize strOfNums (goText xs (rdT xs p1 y1 k).2.1 (rdT xs p1 y1 k).2.2 256).1 = nv at *
          generalize (rdT xs p1 y1 k).2.1 = p at *
          generalize (rdT xs p1 y1 k).2.2 = why at *
          generalize arrT (rdT xs p1 y1 k).1 6 = av at *
          generalize hq1 : (rdT xs p1 y1 (k + 1)).2.1 = p' at HP
          generalize hq2 : (rdT xs p1 y1 (k + 1)).2.2 = why' at HP
          have HQ := Lib.hid (And.intro hq1 hq2)
          clear hq1 hq2 hlen
          have c0 := hall.out.rdr.cell 0
          have c1 := hall.out.rdr.cell 1
          have c2 := hall.out.rdr.cell 2
          simp at c0 c1 c2
          go_upto_region 14 with (go_at_call 50; refine (HP.out _ (Below.refl _ _)).mono ?_; rintro e w1 ⟨rfl, hb⟩)
          have HR2 := Lib.hid ((hall.out.below hb).alloc (.cells #[.slice A n d, .int .i64 p', .int .i64 why'] 102))
          have HNX := Lib.hid (Blk.fresh w1 102 #[.slice A n d, .int .i64 p', .int .i64 why'])
          clear c0 c1 c2 hb hall
          generalize w1.alloc (.cells #[.slice A n d, .int .i64 p', .int .i64 why'] 102) = w2 at *
          generalize w1.heap.size = gx at *
          have c0 := HR2.out.rdr.cell 0
          have c1 := HR2.out.rdr.cell 1
          have c2 := HR2.out.rdr.cell 2
          have f0 := HR2.out.rdr.free 0
          have f1 := HR2.out.rdr.free 1
          have f2 := HR2.out.rdr.free 2
          have d0 := HNX.out.cell 0
          have d1 := HNX.out.cell 1
          have d2 := HNX.out.cell 2
          obtain ⟨v0, hv0⟩ := arr_get (a := av) (K := 6) (k := k) HAS.out h1
          have c3 := (HR2.out.arr.cell k).trans hv0
          have f3 := HR2.out.arr.free k
          have hne := HR2.out.ne
          simp at c0 c1 c2 d0 d1 d2
          go_wp2_with fail
          go_roundw
          case rel =>
            refine ⟨k + 1, by omega, by go_num, Lib.hid ?_⟩
            have := (HR2.out.read p' why').fill k (.string nv)
            rw [HV.out] at this
            rw [HQ.out.1, HQ.out.2]
            exact this
          case measure => simp [intOf]; omega
        · obtain rfl : k = 6 := by omega
          rw [show ((6 : Nat) : Int) = 6 from rfl]
          have HTN := Lib.hid (arrT_get (rdT xs p1 y1 6).1 6 (rdT_len xs p1 y1 6))
          obtain ⟨T0, hT0⟩ : ∃ T0, rdT xs p1 y1 6 = T0 := ⟨_, rfl⟩
          rw [hT0] at hall HTN
          have HP2 := Lib.hid (HOK2.out 6)
          rw [hT0] at HP2 HM3
          have HT0 := Lib.hid hT0
          clear hT0
          obtain ⟨T, p2, y2⟩ := T0
          dsimp only at hall HTN HP2 HM3
          generalize arrT T 6 = at_ at *
          obtain ⟨m, hm⟩ : ∃ m : Nat → Nat, ∀ i, m i = N.getD i 0 := ⟨_, fun _ => rfl⟩
          obtain ⟨s, hs⟩ : ∃ s : Nat → ByteArray, ∀ i, s i = strOfNums (T.getD i []) := ⟨_, fun _ => rfl⟩
          have e0 : Blk wr gc 103 an := hall.out.keep _ (List.mem_cons_self ..)
          have hn : ∀ i, i < 11 → wr.cell? ⟨gc, i, none⟩ = some (.int .i64 (m i)) := fun i hi => by rw [e0.cell, hm]; exact HAN.out i hi
          have ht : ∀ i, i < 6 → wr.cell? ⟨gd, i, none⟩ = some (.string (s i)) := fun i hi => by rw [hall.out.arr.cell, hs]; exact HTN.out i hi
          have n0 := hn 0 (by omega)
          have n1 := hn 1 (by omega)
          have n2 := hn 2 (by omega)
          have n3 := hn 3 (by omega)
          have n4 := hn 4 (by omega)
          have t0 := ht 0 (by omega)
          have t2 := ht 2 (by omega)
          have t3 := ht 3 (by omega)
          have t4 := ht 4 (by omega)
          have t5 := ht 5 (by omega)
          have hm3 : m 3 < 9223372036854775808 := by
            rw [hm, List.getD_eq_getElem?_getD, List.getElem?_eq_getElem (show 3 < N.length by rw [HNL.out]; omega)]
            exact HLT.out _ (List.getElem_mem _)
          have w3 : IntKind.i64.wrap ((m 3 : Int) - 1) = (m 3 : Int) - 1 := IntWalk.i64_in _ (by omega)
          have HNA := Lib.hid hn; have HTA := Lib.hid ht; have HM3V := Lib.hid hm3
          clear hm3 hn ht e0
          have HM := Lib.hid hm; have HSS := Lib.hid hs
          clear hm hs
          obtain ⟨cs, hcs⟩ : ∃ cs : Array Value, cs = #[.int .i64 (m 0), .int .i64 (m 1), .int .i64 (m 2), .string (s 0), .int .i64 0, .int .i64 0, .int .i64 0, .int .i64 0, .int .i64 0, .string ⟨#[]⟩, .bool false, .string (s 2), .string (s 3), .string (s 4), .string (s 5), .slice none 0 0, .int .i64 ((m 3 : Int) - 1), .int .i64 (m 4)] := ⟨_, rfl⟩
          have s1 : cs.size = 18 := by rw [hcs]; rfl
          have o1 : (cs.all fun x => x.oneCell') = true := by rw [hcs]; simp [Value.oneCell']
          have i2 : (Tryd.prog.info? 37).map (·.size) = some cs.size := by rw [s1]; exact info_ref
          have S1 := Lib.hid s1; have O1 := Lib.hid o1; have I2 := Lib.hid i2; have HCS := Lib.hid hcs
          clear s1 o1 i2 hcs
          go_upto_region 17 with (first
            | (with_reducible refine wpList_buildTo (o := ⟨some 67, _, _, _, _, _⟩) rfl 37 _ rfl (some 67) rfl cs ?hf ?_
               case hf => rw [HCS.out]; kernel_rfl)
            | (with_reducible refine at_dst (o := ⟨none, _, _, _, _, _⟩) none rfl ?_
               refine wpList_store_row rfl 37 (.tmp 13) (.tmp 67) rfl wr.heap.size cs rfl rfl 37 CM.zero.cells (heap_alloc_new wr _) I2.out (by rw [S1.out]; rfl) O1.out ?_))
          change Code.wp _ _ _ _ ((wr.alloc (.cells CM.zero.cells 37)).setRow wr.heap.size cs)
          have hr5 := hall.out.boxed 37 CM.zero.cells cs
          have hw5 : ∀ i v, wr.cell? ⟨gc, i, none⟩ = some v → ((wr.alloc (.cells CM.zero.cells 37)).setRow wr.heap.size cs).cell? ⟨gc, i, none⟩ = some v := fun i v h => by
            rw [(hr5.keep _ (List.mem_cons_of_mem _ (List.mem_cons_self ..))).cell]
            rw [(hall.out.keep _ (List.mem_cons_self ..)).cell] at h
            exact h
          have n5 := hw5 5 _ (HNA.out 5 (by omega))
          have n6 := hw5 6 _ (HNA.out 6 (by omega))
          have n7 := hw5 7 _ (HNA.out 7 (by omega))
          have n8 := hw5 8 _ (HNA.out 8 (by omega))
          have n9 := hw5 9 _ (HNA.out 9 (by omega))
          have n10 := hw5 10 _ (HNA.out 10 (by omega))
          have t1 : ((wr.alloc (.cells CM.zero.cells 37)).setRow wr.heap.size cs).cell? ⟨gd, 1, none⟩ = some (.string (s 1)) := by
            rw [(hr5.keep _ (List.mem_cons_self ..)).cell, ← hall.out.arr.cell]
            exact HTA.out 1 (by omega)
          generalize (wr.alloc (.cells CM.zero.cells 37)).setRow wr.heap.size cs = w5 at *
          generalize wr.heap.size = ge at *
          have H5 := Lib.hid hr5
          have y4 : w5.cell? ⟨ge, 4, none⟩ = some (.int .i64 0) := by rw [hr5.arr.cell, HCS.out]; rfl
          have y5 : w5.cell? ⟨ge, 5, none⟩ = some (.int .i64 0) := by rw [hr5.arr.cell, HCS.out]; rfl
          have y6 : w5.cell? ⟨ge, 6, none⟩ = some (.int .i64 0) := by rw [hr5.arr.cell, HCS.out]; rfl
          have y7 : w5.cell? ⟨ge, 7, none⟩ = some (.int .i64 0) := by rw [hr5.arr.cell, HCS.out]; rfl
          have y8 : w5.cell? ⟨ge, 8, none⟩ = some (.int .i64 0) := by rw [hr5.arr.cell, HCS.out]; rfl
          have y9 : w5.cell? ⟨ge, 9, none⟩ = some (.string ⟨#[]⟩) := by rw [hr5.arr.cell, HCS.out]; rfl
          have y10 : w5.cell? ⟨ge, 10, none⟩ = some (.bool false) := by rw [hr5.arr.cell, HCS.out]; rfl
          have z4 := hr5.arr.free 4
          have z5 := hr5.arr.free 5
          have z6 := hr5.arr.free 6
          have z7 := hr5.arr.free 7
          have z8 := hr5.arr.free 8
          have z9 := hr5.arr.free 9
          have z10 := hr5.arr.free 10
          clear n0 n1 n2 n3 n4 t0 t2 t3 t4 t5 hw5 hr5 hall HNA HTA
          generalize hff : ((m 10 : Int) == 1) = ff at *
          go_upto_region 18 with fail
          have hr6 := ((((((H5.out.fill 4 (.int .i64 (m 5))).fill 5 (.int .i64 (m 6))).fill 6 (.int .i64 (m 7))).fill 7 (.int .i64 (m 8))).fill 8 (.int .i64 (m 9))).fill 9 (.string (s 1))).fill 10 (.bool ff)
          have hcs6 : ((((((cs.setIfInBounds 4 (.int .i64 (m 5))).setIfInBounds 5 (.int .i64 (m 6))).setIfInBounds 6 (.int .i64 (m 7))).setIfInBounds 7 (.int .i64 (m 8))).setIfInBounds 8 (.int .i64 (m 9))).setIfInBounds 9 (.string (s 1))).setIfInBounds 10 (.bool ff) = (CM.of N T ((m 3 : Int) - 1) ff none 0 0).cells := by
            rw [HCS.out]
            simp only [HM.out, HSS.out]
            rfl
          rw [hcs6] at hr6
          generalize ((((((w5.setCell ⟨ge, 4, none⟩ (.int .i64 (m 5))).setCell ⟨ge, 5, none⟩ (.int .i64 (m 6))).setCell ⟨ge, 6, none⟩ (.int .i64 (m 7))).setCell ⟨ge, 7, none⟩ (.int .i64 (m 8))).setCell ⟨ge, 8, none⟩ (.int .i64 (m 9))).setCell ⟨ge, 9, none⟩ (.string (s 1))).setCell ⟨ge, 10, none⟩ (.bool ff) = w6 at *
          have H6 := Lib.hid hr6
          have c0 := hr6.rdr.cell 0
          have c1 := hr6.rdr.cell 1
          have c2 := hr6.rdr.cell 2
          have f0 := hr6.rdr.free 0
          have f1 := hr6.rdr.free 1
          have f2 := hr6.rdr.free 2
          simp at c0 c1 c2
          clear hr6 hcs6 n5 n6 n7 n8 n9 n10 t1 y4 y5 y6 y7 y8 y9 y10 z4 z5 z6 z7 z8 z9 z10 H5 w3
          have HCALL := Lib.hid (HNUM.out w6 p2 y2 H6.out.bel HP2.out)
          have HLT2 := Lib.hid (goNum_lt xs p2 y2)
          obtain ⟨M0, hM0⟩ : ∃ M0, goNum xs p2 y2 = M0 := ⟨_, rfl⟩
          rw [hM0] at HCALL HLT2
          have HM0 := Lib.hid hM0
          clear hM0
          obtain ⟨mv, p3, y3⟩ := M0
          dsimp only at HCALL HLT2
          go_upto_region 19 with (go_at_call 49; refine HCALL.out.mono ?_; rintro e w7 ⟨rfl, hb⟩
                                  have hr7 := H6.out.below hb
                                  clear c0 c1 c2 f0 f1 f2
                                  have c0 := hr7.rdr.cell 0
                                  have c1 := hr7.rdr.cell 1
                                  have c2 := hr7.rdr.cell 2
                                  have f0 := hr7.rdr.free 0
                                  have f1 := hr7.rdr.free 1
                                  have f2 := hr7.rdr.free 2
                                  simp at c0 c1 c2)
          have hr8 := hr7.read p3 y3
          generalize ((w7.setCell ⟨gb, 0, none⟩ (.slice A n d)).setCell ⟨gb, 1, none⟩ (.int .i64 p3)).setCell ⟨gb, 2, none⟩ (.int .i64 y3) = w8 at *
          have H8 := Lib.hid hr8
          clear hr7 hr8 c0 c1 c2 f0 f1 f2 hb H6
          go_wp2_with fail
          obtain ⟨K, hK⟩ : ∃ K, K = min mv 10 := ⟨_, rfl⟩
          have hK10 : K ≤ 10 := by omega
          have HKK := Lib.hid hK
          clear hK
          have HOK3 : Hid (∀ k, (rdT xs p3 y3 k).2.1 ≤ n) := Lib.hid fun k => HRT.out p3 y3 k (by have := HM3.out; rw [HM0.out] at this; exact this.1) (by have := HM3.out; rw [HM0.out] at this; exact this.2)
          obtain ⟨i0, hi, hz0, hz1, hz2⟩ := info_parts info_string
          have HM3B : m 3 < 9223372036854775808 := HM3V.out
          generalize hnn : ((m 3 : Int) - 1) = nn at *
          have HB8 := Lib.hid (Nat.le_refl w8.heap.size)
          go_loopw [15] (fun v15 wr => ∃ (k : Nat) (bA : Option Addr) (c : Nat), k ≤ K ∧ v15 = .int .i64 k ∧ Hid (RS w [(gd, 106, at_), (gc, 103, an), (w.heap.size, 37, CM.zero.cells)] gb A n d (rdT xs p3 y3 k).2.1 (rdT xs p3 y3 k).2.2 ge 37 (CM.of N T nn ff bA k c).cells wr) ∧ Hid (wr.ownsRow w8.heap.size 9 1 (.slice bA k c) k (((rdT xs p3 y3 k).1.map strOfNums).map Value.string)) ∧ Hid (w8.heap.size ≤ wr.heap.size)) (fun i _ => K - (intOf i).toNat)
          case atStart => exact ⟨0, none, 0, Nat.zero_le _, rfl, H8, Lib.hid (World.ownsRow_nil _ _ _ _), HB8⟩
          case round =>
            obtain ⟨k, bA, c, hk, rfl, hall, hrow, hz⟩ := hrel
            by_cases hlt : k < K
            · have hkz : (k : Int) < mv := by have := HKK.out; omega
              have hkm : k < mv := by have := HKK.out; omega
              have hk10 : (k : Int) < 10 := by omega
              have w3 : IntKind.i64.wrap ((k : Int) + 1) = k + 1 := IntWalk.i64_in _ (by omega)
              have HP : Hid (∀ W, Below wr.heap.size wr W → Calls Tryd.prog 50 #[.agg #[.slice A n d, .int .i64 (rdT xs p3 y3 k).2.1, .int .i64 (rdT xs p3 y3 k).2.2]] W fun e w' => e = .returned (.tuple #[.agg #[.slice A n d, .int .i64 (rdT xs p3 y3 (k + 1)).2.1, .int .i64 (rdT xs p3 y3 (k + 1)).2.2], .string (strOfNums (goText xs (rdT xs p3 y3 k).2.1 (rdT xs p3 y3 k).2.2 256).1)]) ∧ Below W.heap.size W w') := Lib.hid fun W hW => HTXT.out W _ _ (hall.out.bel.trans (hW.mono hall.out.bel.size)) (HOK3.out k)
              have HNXT : Hid ((rdT xs p3 y3 (k + 1)).1 = (rdT xs p3 y3 k).1 ++ [(goText xs (rdT xs p3 y3 k).2.1 (rdT xs p3 y3 k).2.2 256).1]) := Lib.hid rfl
              generalize (goText xs (rdT xs p3 y3 k).2.1 (rdT xs p3 y3 k).2.2 256).1 = tv at *
              generalize (rdT xs p3 y3 k).2.1 = p at *
              generalize (rdT xs p3 y3 k).2.2 = why at *
              generalize (rdT xs p3 y3 k).1 = tl at *
              generalize hq1 : (rdT xs p3 y3 (k + 1)).2.1 = p' at HP
              generalize hq2 : (rdT xs p3 y3 (k + 1)).2.2 = why' at HP
              have HQ := Lib.hid (And.intro hq1 hq2)
              clear hq1 hq2
              have c0 := hall.out.rdr.cell 0
              have c1 := hall.out.rdr.cell 1
              have c2 := hall.out.rdr.cell 2
              simp at c0 c1 c2
              go_upto_region 23 with (go_at_call 50; refine (HP.out _ (Below.refl _ _)).mono ?_; rintro e w1 ⟨rfl, hb⟩)
              have HR2 := Lib.hid ((hall.out.below hb).alloc (.cells #[.slice A n d, .int .i64 p', .int .i64 why'] 102))
              have HO2 := Lib.hid ((own_chg hrow.out (Chg.of_below (Φ := fun _ => False) hb) fun _ _ h => h).alloc (.cells #[.slice A n d, .int .i64 p', .int .i64 why'] 102))
              have HZ2 : Hid (w8.heap.size ≤ (w1.alloc (.cells #[.slice A n d, .int .i64 p', .int .i64 why'] 102)).heap.size) := Lib.hid (Nat.le_trans (Nat.le_trans hz.out hb.size) (by simp))
              have HNX := Lib.hid (Blk.fresh w1 102 #[.slice A n d, .int .i64 p', .int .i64 why'])
              clear c0 c1 c2 hb hall hrow hz
              generalize w1.alloc (.cells #[.slice A n d, .int .i64 p', .int .i64 why'] 102) = w2 at *
              generalize w1.heap.size = gx at *
              have c0 := HR2.out.rdr.cell 0
              have c1 := HR2.out.rdr.cell 1
              have c2 := HR2.out.rdr.cell 2
              have f0 := HR2.out.rdr.free 0
              have f1 := HR2.out.rdr.free 1
              have f2 := HR2.out.rdr.free 2
              have d0 := HNX.out.cell 0
              have d1 := HNX.out.cell 1
              have d2 := HNX.out.cell 2
              simp at c0 c1 c2 d0 d1 d2
              go_upto_region 24 with fail
              have hr3 := HR2.out.read p' why'
              have ho3 := own_chg (own_chg (own_chg HO2.out (Chg.set w2 gb 0 (.slice A n d)) (fun q hq e => by have := H8.out.rdr.lt; omega)) (Chg.set _ gb 1 (.int .i64 p')) (fun q hq e => by have := H8.out.rdr.lt; omega)) (Chg.set _ gb 2 (.int .i64 why')) (fun q hq e => by have := H8.out.rdr.lt; omega)
              have hz3 : w8.heap.size ≤ (((w2.setCell ⟨gb, 0, none⟩ (.slice A n d)).setCell ⟨gb, 1, none⟩ (.int .i64 p')).setCell ⟨gb, 2, none⟩ (.int .i64 why')).heap.size := by simpa using HZ2.out
              generalize ((w2.setCell ⟨gb, 0, none⟩ (.slice A n d)).setCell ⟨gb, 1, none⟩ (.int .i64 p')).setCell ⟨gb, 2, none⟩ (.int .i64 why') = w3 at *
              have HR3 := Lib.hid hr3; have HO3 := Lib.hid ho3; have HZ3 := Lib.hid hz3
              have c15 : w3.cell? ⟨ge, 15, none⟩ = some (.slice bA k c) := hr3.arr.cell 15
              clear hr3 ho3 hz3 c0 c1 c2 f0 f1 f2 d0 d1 d2 HR2 HO2 HZ2 HNX
              have HNW := Lib.hid (news_new w3 (.string (strOfNums tv)) 9)
              go_wp2_with (with_reducible refine at_dst (o := ⟨some 109, _, _, _, _, _⟩) (some 109) rfl ?_
                           refine wpList_append_src rfl (.tmp 106) (.tmp 108) 24 rfl w8.heap.size 9 i0 _ 1 16 Tryd.underlying24 hi hz0 hz1 hz2 rfl (by omega) (.slice bA k c) k _ rfl (HO3.out.alloc _) (some ⟨w3.heap.size, 0, none⟩) 1 1 [.string (strOfNums tv)] rfl rfl (fun h => by cases h) HNW.out (by intro u hu; rw [List.mem_singleton.1 hu]; rfl) (by unfold maxLen; omega) (by omega) (by have := HZ3.out; simp; omega) ?_
                           intro v7 w7 ho7 hg7
                           have hlt8 := H8.out.lts
                           have hr7 := (HR3.out.alloc (.cells #[.string (strOfNums tv)] 9)).chg (B := w8.heap.size) (Chg.of_grown hg7) (fun q e => (HO3.out.lt q e).1) H8.out.bel.size hlt8.1 hlt8.2.1 hlt8.2.2
                           obtain ⟨g7, c7, rfl, hgb, _⟩ := ho7.form (by omega)
                           clear c15
                           have c15 : w7.cell? ⟨ge, 15, none⟩ = some (.slice bA k c) := hr7.arr.cell 15
                           have f15 := hr7.arr.free 15
                           have HR7 := Lib.hid hr7; have HO7 := Lib.hid ho7
                           have HZ7 : Hid (w8.heap.size ≤ w7.heap.size) := Lib.hid (by have := HZ3.out; have := hg7.size; simp at this; omega)
                           clear hr7 ho7 hg7 hlt8 hgb)
              go_roundw
              case rel =>
                refine ⟨k + 1, some ⟨g7, 0, none⟩, c7, by omega, by go_num, Lib.hid ?_, Lib.hid ?_, Lib.hid (by simpa using HZ7.out)⟩
                · have := HR7.out.fill 15 (.slice (some ⟨g7, 0, none⟩) (k + 1) c7)
                  rw [fill_bs] at this
                  rw [HQ.out.1, HQ.out.2]
                  exact this
                · rw [HNXT.out, List.map_append, List.map_append]
                  exact own_chg HO7.out (Chg.set w7 ge 15 (.slice (some ⟨g7, 0, none⟩) (k + 1) c7)) (fun q hq e => by have := H8.out.arr.lt; omega)
              case measure => simp [intOf]; omega
            · obtain rfl : k = K := by omega
              have c0 := hall.out.rdr.cell 0
              have c1 := hall.out.rdr.cell 1
              have c2 := hall.out.rdr.cell 2
              simp at c0 c1 c2
              have HRAW : Hid (R = ⟨N, T, mv, (rdT xs p3 y3 k).1, (rdT xs p3 y3 k).2.1, (rdT xs p3 y3 k).2.2⟩) := Lib.hid (HR0.out.symm.trans (raw_is HN0.out HT0.out HM0.out HKK.out))
              obtain ⟨dn, hdn⟩ : ∃ dn : Nat, dn = if (rdT xs p3 y3 k).2.2 = 0 ∧ (rdT xs p3 y3 k).2.1 < n then 2 else (rdT xs p3 y3 k).2.2 := ⟨_, rfl⟩
              have HD : Hid (∀ W, Calls Tryd.prog 51 #[.agg #[.slice A n d, .int .i64 (rdT xs p3 y3 k).2.1, .int .i64 (rdT xs p3 y3 k).2.2]] W fun e w' => e = .returned (.int .i64 dn) ∧ Below W.heap.size W w') := Lib.hid (by rw [hdn]; exact done10_any A n d (rdT xs p3 y3 k).2.1 (rdT xs p3 y3 k).2.2)
              have HBL : Hid ((rdT xs p3 y3 k).1.length = k) := Lib.hid (rdT_len xs p3 y3 k)
              generalize (rdT xs p3 y3 k).2.1 = p at *
              generalize (rdT xs p3 y3 k).2.2 = why at *
              generalize (rdT xs p3 y3 k).1 = bl at *
              obtain ⟨htr, hfar⟩ := TRd.of_own (L := bl.map strOfNums) hrow.out
              have HFAR : Hid (∀ ad, bA = some ad → ad.block ≠ w.heap.size) := Lib.hid fun ad e => by
                have h1 := hfar ad e
                have h2 := H8.out.lts.2.2 _ (List.mem_cons_of_mem _ (List.mem_cons_of_mem _ (List.mem_cons_self ..)))
                dsimp only at h2
                omega
              have HGOT : Hid (CM.gotR R bA c = CM.of N T nn ff bA k c ∧ TRd wr wr.heap.size bA R.bs.length c (gotLR R)) := Lib.hid (by
                rw [HRAW.out]
                refine ⟨?_, ?_⟩
                · unfold CM.gotR
                  simp only [HBL.out, ← HM.out, hff, hnn]
                · unfold gotLR
                  simp only [HBL.out]
                  exact htr)
              obtain ⟨q, hq⟩ : ∃ q, q = (CM.of N T nn ff bA k c).right (bl.map strOfNums) := ⟨_, rfl⟩
              have HQQ : Hid ((CM.gotR R none 0).right (gotLR R) = q) := Lib.hid (by
                rw [hq, HRAW.out]
                unfold CM.gotR gotLR
                simp only [HBL.out, ← HM.out, hff, hnn]
                rfl)
              have HWHY : Hid ((dn ≠ 0 → no10R R n = dn) ∧ (dn = 0 → 1 < N.getD 10 0 ∨ 10 < mv ∨ (CM.gotR R none 0).right (gotLR R) = false → no10R R n = 2) ∧ (dn = 0 → ¬ 1 < N.getD 10 0 → ¬ 10 < mv → (CM.gotR R none 0).right (gotLR R) = true → no10R R n = 0)) := Lib.hid (no10_cases R n dn (N.getD 10 0) mv (by rw [HRAW.out]) (by rw [HRAW.out]) (by rw [HRAW.out]; exact hdn))
              have hnn2 : I64 nn := by unfold I64; omega
              have HRT : Hid (∀ W, Below wr.heap.size wr W → Calls Tryd.prog 10 #[.agg (CM.of N T nn ff bA k c).cells] W fun e w' => e = .returned (.bool q) ∧ Below W.heap.size W w') := Lib.hid fun W hW => by
                rw [hq]
                exact Right10_any (CM.of N T nn ff bA k c) (bl.map strOfNums) W ((htr.below hW).more hW.size) hnn2 (by show k ≤ 1000000; omega)
              have IC := Lib.hid (show (Tryd.prog.info? 37).map (·.size) = some (CM.of N T nn ff bA k c).cells.size from info_ref)
              have OC := Lib.hid (CM.of N T nn ff bA k c).ones; have SC := Lib.hid (CM.of N T nn ff bA k c).size
              have HE0 := Lib.hid hall.out.arr; have HRD := Lib.hid hall.out.rdr; have HBW := Lib.hid hall.out.bel
              have HNB : Hid (Blk wr gc 103 an) := Lib.hid (hall.out.keep _ (List.mem_cons_of_mem _ (List.mem_cons_self ..)))
              have HAN10 : Hid (an[10]? = some (.int .i64 (m 10))) := Lib.hid (by rw [HM.out]; exact HAN.out 10 (by omega))
              have hz0 := hall.out.keep _ (List.mem_cons_of_mem _ (List.mem_cons_of_mem _ (List.mem_cons_self ..)))
              dsimp only at hz0
              have IZ : Hid ((Tryd.prog.info? 37).map (·.size) = some CM.zero.cells.size) := Lib.hid info_ref
              have OZ := Lib.hid CM.zero.ones
              have c0 := hall.out.rdr.cell 0
              have c1 := hall.out.rdr.cell 1
              have c2 := hall.out.rdr.cell 2
              simp at c0 c1 c2
              clear hdn htr hfar hq hnn2 hall hrow hz hnn hff HTXT HNUM HOK HOK2
              generalize hcc : (CM.of N T nn ff bA k c).cells = cc at *
              have HCC := Lib.hid hcc
              clear hcc
              obtain ⟨cz, hcz⟩ : ∃ cz, cz = CM.zero.cells := ⟨_, rfl⟩
              rw [← hcz] at IZ OZ hz0
              have HCZ := Lib.hid hcz; have HZ0 := Lib.hid hz0
              clear hcz hz0
              by_cases hmv : k < mv
              · obtain rfl : k = 10 := by have := HKK.out; omega
                rw [show ((10 : Nat) : Int) = 10 from rfl]
                by_cases hd0 : dn = 0
                · subst hd0
                  by_cases hm10 : 1 < m 10
                  · have HNO : Hid (no10R R n = 2) := Lib.hid (HWHY.out.2.1 rfl (.inl (by rw [← HM.out]; exact hm10)))
                    have dm : decide ((1 : Int) < m 10) = true := decide_eq_true (by omega)
                    go_wp2_with (first
                      | (go_at_call 51; refine (HD.out _).mono ?_; rintro e w1 ⟨rfl, hb⟩
                         have HB1 := Lib.hid (HBW.out.trans (hb.mono HBW.out.size)); have HZ1 := Lib.hid (HZ0.out.below hb HZ0.out.lt)
                         have cn := (HNB.out.below hb HNB.out.lt).cell 10
                         rw [HAN10.out] at cn
                         clear hb)
                      | (with_reducible refine at_dst (o := ⟨some 129, _, _, _, _, _⟩) (some 129) rfl ?_
                         refine wpList_buildTo rfl 37 #[] rfl (some 129) rfl cz (by rw [HCZ.out]; kernel_rfl) ?_)
                      | (with_reducible refine at_dst (o := ⟨none, .store 37 (.tmp 2) (.tmp 129), _, _, _, _⟩) none rfl ?_
                         refine wpList_store_row rfl 37 (.tmp 2) (.tmp 129) rfl w.heap.size cz rfl rfl 37 cz HZ1.out IZ.out rfl OZ.out ?_))
                    refine bodyPost_ret (v := .tuple #[.agg cz, .int .i64 2]) ?_ rfl ?_
                    · refine Eq.trans (results_cell_row_tmp (p := 2) (u := 3) Tryd.results18 _ _ _ 37 cz (0, 0) _ ?_ (HZ1.out.row (cs' := cz)) Tryd.underlying37 rfl IZ.out) ?_
                      · rfl
                      · rfl
                    · exact ⟨CM.zero, 2, by rw [← HCZ.out]; rfl, below_setRow HB1.out (Nat.le_refl _) _, .inl ⟨by rw [HNO.out]; omega, rfl, HNO.out.symm⟩⟩
                  · have dm : decide ((1 : Int) < m 10) = false := decide_eq_false (by omega)
                    have HNO : Hid (no10R R n = 2 ∨ mv = 10) := Lib.hid (by
                      rcases Nat.lt_or_ge 10 mv with h | h
                      · exact .inl (HWHY.out.2.1 rfl (.inr (.inl h)))
                      · exact .inr (by omega))
                    have dv : decide ((10 : Int) < mv) = true := decide_eq_true (by omega)
                    have HNO2 : Hid (no10R R n = 2) := Lib.hid (HWHY.out.2.1 rfl (.inr (.inl hmv)))
                    go_wp2_with (first
                      | (go_at_call 51; refine (HD.out _).mono ?_; rintro e w1 ⟨rfl, hb⟩
                         have HB1 := Lib.hid (HBW.out.trans (hb.mono HBW.out.size)); have HZ1 := Lib.hid (HZ0.out.below hb HZ0.out.lt)
                         have cn := (HNB.out.below hb HNB.out.lt).cell 10
                         rw [HAN10.out] at cn
                         clear hb)
                      | (with_reducible refine at_dst (o := ⟨some 129, _, _, _, _, _⟩) (some 129) rfl ?_
                         refine wpList_buildTo rfl 37 #[] rfl (some 129) rfl cz (by rw [HCZ.out]; kernel_rfl) ?_)
                      | (with_reducible refine at_dst (o := ⟨none, .store 37 (.tmp 2) (.tmp 129), _, _, _, _⟩) none rfl ?_
                         refine wpList_store_row rfl 37 (.tmp 2) (.tmp 129) rfl w.heap.size cz rfl rfl 37 cz HZ1.out IZ.out rfl OZ.out ?_))
                    refine bodyPost_ret (v := .tuple #[.agg cz, .int .i64 2]) ?_ rfl ?_
                    · refine Eq.trans (results_cell_row_tmp (p := 2) (u := 3) Tryd.results18 _ _ _ 37 cz (0, 0) _ ?_ (HZ1.out.row (cs' := cz)) Tryd.underlying37 rfl IZ.out) ?_
                      · rfl
                      · rfl
                    · exact ⟨CM.zero, 2, by rw [← HCZ.out]; rfl, below_setRow HB1.out (Nat.le_refl _) _, .inl ⟨by rw [HNO2.out]; omega, rfl, HNO2.out.symm⟩⟩
                · have HNO : Hid (no10R R n = dn) := Lib.hid (HWHY.out.1 hd0)
                  have dd : ((dn : Int) == 0) = false := by simpa using hd0
                  go_wp2_with (first
                    | (go_at_call 51
                       first
                       | (refine (HD.out w1).mono ?_; rintro e w2 ⟨rfl, hb⟩
                          have HB2 := Lib.hid (HB1.out.trans (hb.mono HB1.out.size)); have HZ2 := Lib.hid (HZ1.out.below hb HZ1.out.lt); clear hb)
                       | (refine (HD.out _).mono ?_; rintro e w1 ⟨rfl, hb⟩
                          have HB1 := Lib.hid (HBW.out.trans (hb.mono HBW.out.size)); have HZ1 := Lib.hid (HZ0.out.below hb HZ0.out.lt)
                          have k1 := HRD.out.below hb HRD.out.lt
                          clear c0 c1 c2 hb
                          have c0 := k1.cell 0
                          have c1 := k1.cell 1
                          have c2 := k1.cell 2
                          simp at c0 c1 c2))
                    | (with_reducible refine at_dst (o := ⟨some 114, _, _, _, _, _⟩) (some 114) rfl ?_
                       refine wpList_buildTo rfl 37 #[] rfl (some 114) rfl cz (by rw [HCZ.out]; kernel_rfl) ?_)
                    | (with_reducible refine at_dst (o := ⟨none, .store 37 (.tmp 2) (.tmp 114), _, _, _, _⟩) none rfl ?_
                       refine wpList_store_row rfl 37 (.tmp 2) (.tmp 114) rfl w.heap.size cz rfl rfl 37 cz HZ2.out IZ.out rfl OZ.out ?_))
                  refine bodyPost_ret (v := .tuple #[.agg cz, .int .i64 dn]) ?_ rfl ?_
                  · refine Eq.trans (results_cell_row_tmp (p := 2) (u := 3) Tryd.results18 _ _ _ 37 cz (0, 0) _ ?_ (HZ2.out.row (cs' := cz)) Tryd.underlying37 rfl IZ.out) ?_
                    · rfl
                    · rfl
                  · exact ⟨CM.zero, dn, by rw [← HCZ.out], below_setRow HB2.out (Nat.le_refl _) _, .inl ⟨by rw [HNO.out]; exact hd0, rfl, HNO.out.symm⟩⟩
              · obtain rfl : k = mv := by have := HKK.out; omega
                by_cases hd0 : dn = 0
                · subst hd0
                  by_cases hm10 : 1 < m 10
                  · have HNO : Hid (no10R R n = 2) := Lib.hid (HWHY.out.2.1 rfl (.inl (by rw [← HM.out]; exact hm10)))
                    have dm : decide ((1 : Int) < m 10) = true := decide_eq_true (by omega)
                    go_wp2_with (first
                      | (go_at_call 51; refine (HD.out _).mono ?_; rintro e w1 ⟨rfl, hb⟩
                         have HB1 := Lib.hid (HBW.out.trans (hb.mono HBW.out.size)); have HZ1 := Lib.hid (HZ0.out.below hb HZ0.out.lt)
                         have cn := (HNB.out.below hb HNB.out.lt).cell 10
                         rw [HAN10.out] at cn
                         clear hb)
                      | (with_reducible refine at_dst (o := ⟨some 129, _, _, _, _, _⟩) (some 129) rfl ?_
                         refine wpList_buildTo rfl 37 #[] rfl (some 129) rfl cz (by rw [HCZ.out]; kernel_rfl) ?_)
                      | (with_reducible refine at_dst (o := ⟨none, .store 37 (.tmp 2) (.tmp 129), _, _, _, _⟩) none rfl ?_
                         refine wpList_store_row rfl 37 (.tmp 2) (.tmp 129) rfl w.heap.size cz rfl rfl 37 cz HZ1.out IZ.out rfl OZ.out ?_))
                    refine bodyPost_ret (v := .tuple #[.agg cz, .int .i64 2]) ?_ rfl ?_
                    · refine Eq.trans (results_cell_row_tmp (p := 2) (u := 3) Tryd.results18 _ _ _ 37 cz (0, 0) _ ?_ (HZ1.out.row (cs' := cz)) Tryd.underlying37 rfl IZ.out) ?_
                      · rfl
                      · rfl
                    · exact ⟨CM.zero, 2, by rw [← HCZ.out]; rfl, below_setRow HB1.out (Nat.le_refl _) _, .inl ⟨by rw [HNO.out]; omega, rfl, HNO.out.symm⟩⟩
                  · have dm : decide ((1 : Int) < m 10) = false := decide_eq_false (by omega)
                    have dv : decide ((10 : Int) < k) = false := decide_eq_false (by omega)
                    have hdv : ¬ 10 < k := by omega
                    rcases q with _ | _
                    · have HNO : Hid (no10R R n = 2) := Lib.hid (HWHY.out.2.1 rfl (.inr (.inr HQQ.out)))
                      go_wp2_with (first
                        | (go_at_call 51; refine (HD.out _).mono ?_; rintro e w1 ⟨rfl, hb⟩
                           have HB1 := Lib.hid (HBW.out.trans (hb.mono HBW.out.size)); have HZ1 := Lib.hid (HZ0.out.below hb HZ0.out.lt)
                           have HE1 := Lib.hid (HE0.out.below hb HE0.out.lt); have HBR := Lib.hid hb
                           have cn := (HNB.out.below hb HNB.out.lt).cell 10
                           rw [HAN10.out] at cn
                           clear hb)
                        | (with_reducible refine at_dst (o := ⟨some 125, _, _, _, _, _⟩) (some 125) rfl ?_
                           refine load_row_g (by kernel_rfl) 37 (.tmp 13) rfl ge rfl 37 cc (0, 0) _ HE1.out Tryd.underlying37 rfl IC.out ?_)
                        | (go_at_call 10; refine (HRT.out _ HBR.out).mono ?_; rintro e w2 ⟨rfl, hb⟩
                           have HB2 := Lib.hid (HB1.out.trans (hb.mono HB1.out.size)); have HZ2 := Lib.hid (HZ1.out.below hb HZ1.out.lt)
                           clear hb)
                        | (with_reducible refine at_dst (o := ⟨some 129, _, _, _, _, _⟩) (some 129) rfl ?_
                           refine wpList_buildTo rfl 37 #[] rfl (some 129) rfl cz (by rw [HCZ.out]; kernel_rfl) ?_)
                        | (with_reducible refine at_dst (o := ⟨none, .store 37 (.tmp 2) (.tmp 129), _, _, _, _⟩) none rfl ?_
                           refine wpList_store_row rfl 37 (.tmp 2) (.tmp 129) rfl w.heap.size cz rfl rfl 37 cz HZ2.out IZ.out rfl OZ.out ?_))
                      refine bodyPost_ret (v := .tuple #[.agg cz, .int .i64 2]) ?_ rfl ?_
                      · refine Eq.trans (results_cell_row_tmp (p := 2) (u := 3) Tryd.results18 _ _ _ 37 cz (0, 0) _ ?_ (HZ2.out.row (cs' := cz)) Tryd.underlying37 rfl IZ.out) ?_
                        · rfl
                        · rfl
                      · exact ⟨CM.zero, 2, by rw [← HCZ.out]; rfl, below_setRow HB2.out (Nat.le_refl _) _, .inl ⟨by rw [HNO.out]; omega, rfl, HNO.out.symm⟩⟩
                    · have HNO : Hid (no10R R n = 0) := Lib.hid (HWHY.out.2.2 rfl (by rw [← HM.out]; exact hm10) hdv HQQ.out)
                      go_wp2_with (first
                        | (go_at_call 51; refine (HD.out _).mono ?_; rintro e w1 ⟨rfl, hb⟩
                           have HB1 := Lib.hid (HBW.out.trans (hb.mono HBW.out.size)); have HZ1 := Lib.hid (HZ0.out.below hb HZ0.out.lt)
                           have HE1 := Lib.hid (HE0.out.below hb HE0.out.lt); have HBR := Lib.hid hb
                           have cn := (HNB.out.below hb HNB.out.lt).cell 10
                           rw [HAN10.out] at cn
                           clear hb)
                        | (with_reducible refine at_dst (o := ⟨some 125, _, _, _, _, _⟩) (some 125) rfl ?_
                           refine load_row_g (by kernel_rfl) 37 (.tmp 13) rfl ge rfl 37 cc (0, 0) _ HE1.out Tryd.underlying37 rfl IC.out ?_)
                        | (go_at_call 10; refine (HRT.out _ HBR.out).mono ?_; rintro e w2 ⟨rfl, hb⟩
                           have HB2 := Lib.hid (HB1.out.trans (hb.mono HB1.out.size)); have HZ2 := Lib.hid (HZ1.out.below hb HZ1.out.lt); have HE2 := Lib.hid (HE1.out.below hb HE1.out.lt); have HBR2 := Lib.hid (HBR.out.trans (hb.mono HBR.out.size))
                           clear hb)
                        | (with_reducible refine at_dst (o := ⟨some 130, _, _, _, _, _⟩) (some 130) rfl ?_
                           refine load_row_g (by kernel_rfl) 37 (.tmp 13) rfl ge rfl 37 cc (0, 0) _ HE2.out Tryd.underlying37 rfl IC.out ?_)
                        | (with_reducible refine at_dst (o := ⟨none, .store 37 (.tmp 2) (.tmp 130), _, _, _, _⟩) none rfl ?_
                           refine wpList_store_row rfl 37 (.tmp 2) (.tmp 130) rfl w.heap.size cc rfl rfl 37 cz HZ2.out IC.out (by rw [SC.out, HCZ.out]; rfl) OC.out ?_))
                      refine bodyPost_ret (v := .tuple #[.agg cc, .int .i64 0]) ?_ rfl ?_
                      · refine Eq.trans (results_cell_row_tmp (p := 2) (u := 3) Tryd.results18 _ _ _ 37 cc (0, 0) _ ?_ (HZ2.out.row (cs' := cc)) Tryd.underlying37 rfl IC.out) ?_
                        · rfl
                        · rfl
                      · refine ⟨CM.gotR R bA c, 0, by rw [HGOT.out.1, HCC.out]; rfl, below_setRow HB2.out (Nat.le_refl _) _, .inr ⟨HNO.out, rfl, bA, c, rfl, ?_⟩⟩
                        exact (HGOT.out.2.below HBR2.out).keepA (by simp; exact HBR2.out.size) fun ad e hb2 => setRow_other _ _ _ _ (by have := HFAR.out ad e; omega)
                · have HNO : Hid (no10R R n = dn) := Lib.hid (HWHY.out.1 hd0)
                  have dd : ((dn : Int) == 0) = false := by simpa using hd0
                  go_wp2_with (first
                    | (go_at_call 51
                       first
                       | (refine (HD.out w1).mono ?_; rintro e w2 ⟨rfl, hb⟩
                          have HB2 := Lib.hid (HB1.out.trans (hb.mono HB1.out.size)); have HZ2 := Lib.hid (HZ1.out.below hb HZ1.out.lt); clear hb)
                       | (refine (HD.out _).mono ?_; rintro e w1 ⟨rfl, hb⟩
                          have HB1 := Lib.hid (HBW.out.trans (hb.mono HBW.out.size)); have HZ1 := Lib.hid (HZ0.out.below hb HZ0.out.lt)
                          have k1 := HRD.out.below hb HRD.out.lt
                          clear c0 c1 c2 hb
                          have c0 := k1.cell 0
                          have c1 := k1.cell 1
                          have c2 := k1.cell 2
                          simp at c0 c1 c2))
                    | (with_reducible refine at_dst (o := ⟨some 114, _, _, _, _, _⟩) (some 114) rfl ?_
                       refine wpList_buildTo rfl 37 #[] rfl (some 114) rfl cz (by rw [HCZ.out]; kernel_rfl) ?_)
                    | (with_reducible refine at_dst (o := ⟨none, .store 37 (.tmp 2) (.tmp 114), _, _, _, _⟩) none rfl ?_
                       refine wpList_store_row rfl 37 (.tmp 2) (.tmp 114) rfl w.heap.size cz rfl rfl 37 cz HZ2.out IZ.out rfl OZ.out ?_))
                  refine bodyPost_ret (v := .tuple #[.agg cz, .int .i64 dn]) ?_ rfl ?_
                  · refine Eq.trans (results_cell_row_tmp (p := 2) (u := 3) Tryd.results18 _ _ _ 37 cz (0, 0) _ ?_ (HZ2.out.row (cs' := cz)) Tryd.underlying37 rfl IZ.out) ?_
                    · rfl
                    · rfl
                  · exact ⟨CM.zero, dn, by rw [← HCZ.out], below_setRow HB2.out (Nat.le_refl _) _, .inl ⟨by rw [HNO.out]; exact hd0, rfl, HNO.out.symm⟩⟩
end Go.Proofs.YtkdncnhjlgidnaaDoor
