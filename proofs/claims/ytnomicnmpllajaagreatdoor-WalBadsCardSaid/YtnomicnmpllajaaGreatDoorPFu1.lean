/- What is proved here: plain lemmas on numbers in base 128, on slices that read as lists, and one law on append. No program is named. -/
/- What is proved here: plain lemmas on slices that read as lists, on rows that a call owns, and what bytes.Equal and bytes.Clone answer. -/
/- What is proved here: plain facts on lists that rise by a name: one more, one less, one in another one's place, and when two of them are the same. -/
/- What is proved here: what it is that memory holds a disk: definitions, and plain facts on them. -/
import Derived.WalkKit
import Derived.WalkSpells
import Derived.Laws.AppendOwnNone
import Derived.Lib.AppendStr
import Derived.Lib.Hide
import Derived.Test.YtnomicnmpllajaaGreatDoorRows
import Derived.OpenShut
import Derived.WideAt
import Derived.WideShapes
import Derived.Sort.KeysCollected
import Derived.Maps.OwnSet
import Derived.Deep.Draws
import Derived.StringKeys
section
namespace Go.Proofs.YtnomicnmpllajaaGreatDoor
open Go Go.RowKit

/-- The digits of a number in base 128, the least one first. -/
def enc (n : Nat) : List Int :=
  if n < 128 then [(n : Int)] else ((128 + n % 128 : Nat) : Int) :: enc (n / 128)
termination_by n
decreasing_by omega

theorem enc_small {n : Nat} (h : n < 128) : enc n = [(n : Int)] := by rw [enc, if_pos h]
theorem enc_big {n : Nat} (h : ¬ n < 128) : enc n = ((128 + n % 128 : Nat) : Int) :: enc (n / 128) := by rw [enc, if_neg h]
theorem enc_pos (n : Nat) : 0 < (enc n).length := by
  by_cases h : n < 128
  · rw [enc_small h]; simp
  · rw [enc_big h]; simp
theorem enc_len : ∀ (k n : Nat), n < 128 ^ (k + 1) → (enc n).length ≤ k + 1
  | 0, n, h => by
    have h' : n < 128 := by simpa using h
    rw [enc_small h']; simp
  | k + 1, n, h => by
    by_cases hn : n < 128
    · rw [enc_small hn]; simp
    · rw [enc_big hn]
      have := enc_len k (n / 128) (by
        rw [Nat.div_lt_iff_lt_mul (by omega)]
        calc n < 128 ^ (k + 1 + 1) := h
          _ = 128 ^ (k + 1) * 128 := by rw [Nat.pow_succ])
      simp only [List.length_cons]
      omega
theorem enc_len9 {n : Nat} (h : n ≤ 9223372036854775807) : (enc n).length ≤ 9 := enc_len 8 n (by
  have : (128 : Nat) ^ (8 + 1) = 9223372036854775808 := by decide
  rw [this]; omega)
theorem enc_bytes (n : Nat) : ∀ x ∈ enc n, 0 ≤ x ∧ x < 256 := by
  induction n using Nat.strongRecOn with
  | ind n ih =>
    by_cases h : n < 128
    · rw [enc_small h]
      intro x hx
      simp at hx
      omega
    · rw [enc_big h]
      intro x hx
      rcases List.mem_cons.1 hx with rfl | hx
      · omega
      · exact ih (n / 128) (by omega) x hx
theorem enc_inj : ∀ (n m : Nat) (r s : List Int), enc n ++ r = enc m ++ s → n = m ∧ r = s := by
  intro n
  induction n using Nat.strongRecOn with
  | ind n ih =>
    intro m r s h
    by_cases hn : n < 128 <;> by_cases hm : m < 128
    · rw [enc_small hn, enc_small hm] at h
      simp only [List.cons_append, List.nil_append, List.cons.injEq] at h
      exact ⟨by have h1 := h.1; omega, h.2⟩
    · rw [enc_small hn, enc_big hm] at h
      simp only [List.cons_append, List.nil_append, List.cons.injEq] at h
      have h1 := h.1
      omega
    · rw [enc_big hn, enc_small hm] at h
      simp only [List.cons_append, List.nil_append, List.cons.injEq] at h
      have h1 := h.1
      omega
    · rw [enc_big hn, enc_big hm] at h
      simp only [List.cons_append, List.cons.injEq] at h
      obtain ⟨h1, h2⟩ := ih (n / 128) (by omega) (m / 128) r s h.2
      exact ⟨by omega, h2⟩

/-- The digits of a list of numbers, one behind the other; a negative one counts as 0. -/
def encAll (l : List Int) : List Int := l.flatMap fun x => enc x.toNat
theorem encAll_nil : encAll [] = [] := rfl
theorem encAll_cons (x : Int) (l : List Int) : encAll (x :: l) = enc x.toNat ++ encAll l := rfl
theorem encAll_append (l m : List Int) : encAll (l ++ m) = encAll l ++ encAll m := List.flatMap_append
theorem encAll_snoc (l : List Int) (x : Int) : encAll (l ++ [x]) = encAll l ++ enc x.toNat := by rw [encAll_append, encAll_cons, encAll_nil, List.append_nil]
theorem encAll_len : ∀ l : List Int, (∀ x ∈ l, x ≤ 9223372036854775807) → (encAll l).length ≤ 9 * l.length
  | [], _ => by simp [encAll_nil]
  | x :: l, h => by
    rw [encAll_cons, List.length_append, List.length_cons]
    have h1 := enc_len9 (n := x.toNat) (by have := h x (List.mem_cons_self ..); omega)
    have h2 := encAll_len l fun y hy => h y (List.mem_cons_of_mem _ hy)
    omega
theorem encAll_bytes (l : List Int) : ∀ x ∈ encAll l, 0 ≤ x ∧ x < 256 := by
  intro x hx
  obtain ⟨y, _, hy⟩ := List.mem_flatMap.1 hx
  exact enc_bytes _ x hy
theorem take_snoc (l : List Int) (k : Nat) (h : k < l.length) : l.take (k + 1) = l.take k ++ [l.getD k 0] := by
  rw [List.take_succ_eq_append_getElem h]
  simp [List.getD, List.getElem?_eq_getElem h]

/-- One more digit, laid beside the ones before it. -/
theorem or_digit (i acc : Nat) (d : Int) (hi : i < 9) (hacc : acc < 128 ^ i) (hd : 0 ≤ d ∧ d < 256) :
    bits .or .i64 (acc : Int) (wrap64 (d % 128 * 2 ^ (7 * i))) = ((acc + d.toNat % 128 * 128 ^ i : Nat) : Int) ∧ acc + d.toNat % 128 * 128 ^ i < 128 ^ (i + 1) := by
  obtain ⟨k, hk, hkd⟩ : ∃ k : Nat, k < 128 ∧ d % 128 = (k : Int) := ⟨d.toNat % 128, Nat.mod_lt _ (by omega), by omega⟩
  have hk' : d.toNat % 128 = k := by omega
  rw [hk', hkd]
  have hp : (2 : Int) ^ (7 * i) = ((128 ^ i : Nat) : Int) := by
    rw [Int.pow_mul]
    push_cast
    rfl
  have h8 : 128 ^ i ≤ 128 ^ 8 := Nat.pow_le_pow_right (by omega) (by omega)
  have h88 : (128 : Nat) ^ 8 = 72057594037927936 := by decide
  have hm : k * 128 ^ i ≤ 127 * 128 ^ i := Nat.mul_le_mul_right _ (by omega)
  have hs : 128 ^ (i + 1) = 128 ^ i * 128 := Nat.pow_succ ..
  rw [hp, ← Int.natCast_mul, IntWalk.wrap64_in _ (by omega)]
  refine ⟨?_, by omega⟩
  generalize hq : k * 128 ^ i = q at *
  have hor : acc + q = acc ||| q := by
    have h128 : 128 ^ i = 2 ^ (7 * i) := by rw [Nat.pow_mul]
    rw [← hq, Nat.mul_comm k, h128, Nat.add_comm, Nat.or_comm]
    exact Nat.two_pow_add_eq_or_of_lt (by rw [← h128]; exact hacc) k
  have ha : acc < 9223372036854775808 := by omega
  have hb : q < 9223372036854775808 := by omega
  have ofi : ∀ a : Nat, a < 9223372036854775808 → (BitVec.ofInt 64 (a : Int)).toNat = a := fun a h => by
    rw [BitVec.ofInt_natCast, BitVec.toNat_ofNat]; exact Nat.mod_eq_of_lt (by omega)
  have hlt : acc ||| q < 2 ^ 63 := Nat.or_lt_two_pow (by omega) (by omega)
  show IntKind.i64.wrap ((BitVec.ofInt 64 (acc : Int) ||| BitVec.ofInt 64 (q : Int)).toNat : Int) = _
  rw [BitVec.toNat_or, ofi _ ha, ofi _ hb, IntKind.wrap_i64, hor]
  omega

theorem or_zero (i acc : Nat) (hi : i < 9) (hacc : acc < 128 ^ i) : bits .or .i64 (acc : Int) 0 = (acc : Int) := by
  have h := (or_digit i acc 0 hi hacc (by omega)).1
  have e : wrap64 ((0 : Int) % 128 * 2 ^ (7 * i)) = 0 := by
    rw [show (0 : Int) % 128 = 0 from rfl, Int.zero_mul]
    exact IntWalk.wrap64_in 0 (by omega)
  rw [e] at h
  rw [h]
  simp

/-- The numbers of a text's bytes. -/
def nums (s : ByteArray) : List Int := s.data.toList.map fun b => (b.toNat : Int)
theorem nums_length (s : ByteArray) : (nums s).length = s.size := by unfold nums; rw [List.length_map]; rfl
theorem nums_bytes (s : ByteArray) : ∀ x ∈ nums s, 0 ≤ x ∧ x < 256 := by
  intro x hx
  obtain ⟨b, _, rfl⟩ := List.mem_map.1 hx
  have := b.toNat_lt
  omega
theorem nums_inj {s t : ByteArray} (h : nums s = nums t) : s = t := by
  have h1 : s.data.toList = t.data.toList := by
    refine (List.map_inj_right ?_).1 h
    intro a b hab
    have : a.toNat = b.toNat := by have hab' : (a.toNat : Int) = (b.toNat : Int) := hab; omega
    exact UInt8.toNat_inj.1 this
  have h2 : s.data = t.data := by
    have := congrArg List.toArray h1
    simpa using this
  cases s; cases t; simp at h2; simp [h2]

/-- A slice value that reads as a list of numbers of one kind, at a place below block B. -/
structure Rd (w : World) (B : Nat) (k : IntKind) (A : Option Addr) (n c : Nat) (xs : List Int) : Prop where
  len : xs.length = n
  cap : n ≤ c
  max : c ≤ maxLen
  nil : A = none → n = 0 ∧ c = 0
  place : ∀ j u, xs[j]? = some u → ∃ b o, A = some ⟨b, o, none⟩ ∧ b < B ∧ w.cell? ⟨b, o + j, none⟩ = some (.int k u)

section
variable {w w' : World} {B B' : Nat} {k : IntKind} {A : Option Addr} {n c : Nat} {xs : List Int}

theorem Rd.none_ (w : World) (B : Nat) (k : IntKind) : Rd w B k none 0 0 [] := ⟨rfl, Nat.le_refl _, Nat.zero_le _, fun _ => ⟨rfl, rfl⟩, fun j u h => by simp at h⟩
theorem Rd.keep (h : Rd w B k A n c xs) (hk : ∀ p : Addr, p.block < B → w'.cell? p = w.cell? p) : Rd w' B k A n c xs :=
  ⟨h.len, h.cap, h.max, h.nil, fun j u hu => by
    obtain ⟨b, o, e, hb, hc⟩ := h.place j u hu
    exact ⟨b, o, e, hb, (hk ⟨b, o + j, none⟩ hb).trans hc⟩⟩
theorem Rd.more (h : Rd w B k A n c xs) (hB : B ≤ B') : Rd w B' k A n c xs :=
  ⟨h.len, h.cap, h.max, h.nil, fun j u hu => by
    obtain ⟨b, o, e, hb, hc⟩ := h.place j u hu
    exact ⟨b, o, e, by omega, hc⟩⟩
theorem Rd.below (h : Rd w B k A n c xs) (hb : Below B w w') : Rd w' B k A n c xs := h.keep fun _ hp => hb.cell hp
theorem Rd.alloc (h : Rd w B k A n c xs) (hB : B ≤ w.heap.size) (o : Obj) : Rd (w.alloc o) B k A n c xs := h.below ((Below.refl _ _).alloc hB o)
theorem Rd.news (h : Rd w B k A n c xs) : ∀ ad, A = some ad → ∀ j u, (xs.map (Value.int k))[j]? = some u → w.cell? (ad.add j) = some u := by
  intro ad hA j u hu
  rw [List.getElem?_map] at hu
  obtain ⟨x, hx, rfl⟩ := Option.map_eq_some_iff.1 hu
  obtain ⟨b, o, e, _, hc⟩ := h.place j x hx
  rw [hA] at e
  obtain rfl := Option.some.inj e
  rw [Addr.add_lit]
  exact hc
theorem Rd.cell (h : Rd w B k A n c xs) {j : Nat} (hj : j < n) : ∃ b o, A = some ⟨b, o, none⟩ ∧ b < B ∧ w.cell? ⟨b, o + j, none⟩ = some (.int k (xs.getD j 0)) := by
  have hl : j < xs.length := by rw [h.len]; exact hj
  obtain ⟨b, o, e, hb, hc⟩ := h.place j xs[j] (List.getElem?_eq_getElem hl)
  exact ⟨b, o, e, hb, by rw [hc]; simp [List.getD, List.getElem?_eq_getElem hl]⟩
theorem Rd.of_own {base e : Nat} {v : Value} (h : w.ownsRow base e 1 v n (xs.map (Value.int k))) : ∃ A c, v = .slice A n c ∧ Rd w w.heap.size k A n c xs := by
  have hl : xs.length = n := by have := h.1; simpa using this
  rcases h.2 with ⟨rfl, rfl⟩ | ⟨g, cap, cur, rfl, hb, hg, hnc, hcm, hcs, htake⟩
  · refine ⟨none, 0, rfl, ⟨hl, Nat.le_refl _, Nat.zero_le _, fun _ => ⟨rfl, rfl⟩, fun j u hu => ?_⟩⟩
    obtain rfl : xs = [] := List.eq_nil_of_length_eq_zero hl
    simp at hu
  · refine ⟨some ⟨g, 0, none⟩, cap, rfl, ⟨hl, hnc, hcm, (fun h => by cases h), fun j u hu => ⟨g, 0, rfl, (Array.getElem?_eq_some_iff.1 hg).1, ?_⟩⟩⟩
    have := h.cells (g := g) rfl j (.int k u) (by rw [List.getElem?_map, hu]; rfl)
    rw [Addr.add_lit] at this
    exact this

/-- 'string(b)'. -/
theorem Rd.convert {P : Program} (h : Rd w B .u8 A n c xs) (src e dst : TypeId) (hs : P.underlying src = some (.slice e)) (he : P.underlying e = some (.int .u8)) (hd : P.underlying dst = some .string) :
    (convert src dst (.slice A n c)).run P w = .ok (.string (strOfNums xs)) w := by
  by_cases hn : n = 0
  · obtain rfl : xs = [] := List.eq_nil_of_length_eq_zero (by rw [h.len]; exact hn)
    subst hn
    rcases A with _ | ad
    · exact run_convert_bytes_nil w src e hs he _ c dst hd
    · rw [run_convert_bytes_string w src dst e _ 0 c hs he hd]
      rw [run_bytesToString w ad 0 c [] (by simp [loadCells, loadCellsFrom])]
      rfl
  · obtain ⟨b, o, rfl, _⟩ := h.cell (j := 0) (by omega)
    refine run_convert_bytes_arg w src e hs he b o n c xs h.len (fun i hi => ?_) dst hd
    obtain ⟨b', o', e', _, hc⟩ := h.cell (j := i) hi
    obtain ⟨rfl, rfl⟩ : b = b' ∧ o = o' := by simpa using e'
    exact hc
end

theorem strOfNums_eq {xs ys : List Int} (hx : ∀ x ∈ xs, 0 ≤ x ∧ x < 256) (hy : ∀ x ∈ ys, 0 ≤ x ∧ x < 256) (h : strOfNums xs = strOfNums ys) : xs = ys := by
  have h1 : (strOfNums xs).data.toList = (strOfNums ys).data.toList := by rw [h]
  rw [strOfNums_data, strOfNums_data] at h1
  clear h
  induction xs generalizing ys with
  | nil =>
    cases ys with
    | nil => rfl
    | cons y ys => simp at h1
  | cons x xs ih =>
    cases ys with
    | nil => simp at h1
    | cons y ys =>
      simp only [List.map_cons, List.cons.injEq] at h1
      have hx0 := hx x (List.mem_cons_self ..)
      have hy0 := hy y (List.mem_cons_self ..)
      have e : x.toNat % 256 = y.toNat % 256 := by
        have := congrArg UInt8.toNat h1.1
        simpa [UInt8.toNat_ofNat'] using this
      rw [show x = y by omega, ih (fun z hz => hx z (List.mem_cons_of_mem _ hz)) (fun z hz => hy z (List.mem_cons_of_mem _ hz)) h1.2]

theorem news_new (w : World) (u : Value) (t : TypeId) : ∀ ad, some (⟨w.heap.size, 0, none⟩ : Addr) = some ad → ∀ j x, [u][j]? = some x → (w.alloc (.cells #[u] t)).cell? (ad.add j) = some x := by
  intro ad had j x hx
  obtain rfl := Option.some.inj had
  rcases j with _ | j
  · rw [Addr.add_lit, cell_of_row _ _ _ _ _ _ (heap_alloc_new w _)]
    simpa using hx
  · simp at hx
theorem one_cell (k : IntKind) (n : Int) : ∀ u ∈ [Value.int k n], u.oneCell' = true := by
  intro u hu
  simp at hu
  subst hu
  rfl

section
variable {P : Program} {w : World}
/-- 'append' to a row of the call's own, whatever slice stands behind it: nil, empty, or not. -/
theorem wpList_append_src {ops : Array Oper} {rest : List Oper} {o : Oper} {a : Act} {Q : Exit → Act → World → Prop} (hgd : o.guard = none) (s x : Operand) (t : TypeId)
    (ho : o.op = .call { callee := .builtin .append, args := #[s, x], argTypes := #[t, t] })
    (base : Nat) (e : TypeId) (i : TypeInfo) (z : Value) (size bytes : Nat) (ht : P.underlying t = some (.slice e)) (hi : P.info? e = some i) (hz : i.zero = some z)
    (hsize : i.size = size) (hby : i.bytes = bytes) (hzs : z.cells.size = size) (hsz : 0 < size)
    (v : Value) (n : Nat) (xs : List Value) (hs : a.eval s = v) (hown : w.ownsRow base e size v n xs)
    (A : Option Addr) (m c : Nat) (news : List Value) (hx : a.eval x = .slice A m c) (hl : news.length = m * size) (hnil : A = none → m = 0 ∧ c = 0)
    (hnews : ∀ ad, A = some ad → ∀ j u, news[j]? = some u → w.cell? (ad.add j) = some u) (h1 : ∀ u ∈ news, u.oneCell' = true)
    (h63 : n + m ≤ maxLen) (hbytes : (n + m) * bytes ≤ 140737488355328) (hbase : base ≤ w.heap.size)
    (h : ∀ v' w', w'.ownsRow base e size v' (n + m) (xs ++ news) → w.grownBy w' v.ownBlock → wpList P ops Q rest (a.put o.dst v') w') : wpList P ops Q (o :: rest) a w := by
  rcases A with _ | ad
  · obtain ⟨rfl, rfl⟩ := hnil rfl
    have hn : news = [] := List.eq_nil_of_length_eq_zero (by simpa using hl)
    subst hn
    refine wpList_plain hgd fun K hK' => ?_
    have hrun := run_append_owned_none (P := P) w base t o.type e i size ht hi v n xs hown
    unfold Oper.wp
    simp [execOp, ho, resolve, invoke, builtin, hs, hx, hrun, Result.andThen]
    exact hK' _ _ (h v w (by simpa using hown) (World.grownBy.refl _ _))
  · exact wpList_append_own w hgd s x t ho base e i z size bytes ht hi hz hsize hby hzs hsz v n xs hs hown ad m c news hx hl (hnews ad rfl) h1 h63 hbytes hbase
      fun v' w' h2 h3 _ => h v' w' h2 h3
end
end Go.Proofs.YtnomicnmpllajaaGreatDoor
end

section
namespace Go.Proofs.YtnomicnmpllajaaGreatDoor
open Go Go.RowKit

theorem info_u8 : (Tryz.prog.info? 5).map (fun i => (i.zero, i.size, i.bytes)) = some (some (.int .u8 0), 1, 1) := by kernel_rfl

set_option maxHeartbeats 400000 in
theorem Equal_any (A B : Option Addr) (n c m d B1 B2 : Nat) (xs ys : List Int) (w : World) (hx : Rd w B1 .u8 A n c xs) (hy : Rd w B2 .u8 B m d ys) (bx : ∀ x ∈ xs, 0 ≤ x ∧ x < 256) (yb : ∀ y ∈ ys, 0 ≤ y ∧ y < 256) :
    Calls Tryz.prog 27 #[.slice A n c, .slice B m d] w fun e w' => e = .returned (.bool (decide (xs = ys))) ∧ w = w' := by
  have g1 := hx.convert (P := Tryz.prog) 33 5 9 Tryz.underlying33 Tryz.underlying5 Tryz.underlying9
  have g2 := hy.convert (P := Tryz.prog) 33 5 9 Tryz.underlying33 Tryz.underlying5 Tryz.underlying9
  have e : ((strOfNums xs).toList == (strOfNums ys).toList) = decide (xs = ys) := by
    by_cases h : xs = ys
    · subst h; simp
    · rw [decide_eq_false h, beq_eq_false_iff_ne]
      intro hh
      rw [ByteArray.toList_eq, ByteArray.toList_eq] at hh
      exact h (strOfNums_eq bx yb (by
        generalize strOfNums xs = a at hh ⊢
        generalize strOfNums ys = b at hh ⊢
        cases a; cases b
        simpa using hh))
  have E := Lib.hid e
  clear hx hy e
  go_enter Tryz.func27, Tryz.ntmps27
  go_wp2
  go_ret
  refine ⟨?_, rfl⟩
  rw [← E.out]
  rfl

theorem Rd.lit (w : World) (k : IntKind) (t : TypeId) (xs : List Int) (hl : xs.length ≤ maxLen) : Rd (w.alloc (.cells (xs.map (Value.int k)).toArray t)) (w.heap.size + 1) k (some ⟨w.heap.size, 0, none⟩) xs.length xs.length xs :=
  ⟨rfl, Nat.le_refl _, hl, (fun h => by cases h), fun j u hu => ⟨w.heap.size, 0, rfl, Nat.lt_succ_self _, by
    rw [Nat.zero_add, cell_of_row _ _ _ _ _ _ (heap_alloc_new w _)]
    simp [hu]⟩⟩
theorem below_grow {w w' : World} {g B : Nat} (h : w.grownBy w' (some g)) (hg : B ≤ g) (hB : B ≤ w.heap.size) : Below B w w' :=
  (Below.refl _ _).grown h hB (fun k hk => by injection hk with hk; omega)
theorem app_bytes {xs ys : List Int} (hx : ∀ x ∈ xs, 0 ≤ x ∧ x < 256) (hy : ∀ x ∈ ys, 0 ≤ x ∧ x < 256) : ∀ x ∈ xs ++ ys, 0 ≤ x ∧ x < 256 := by
  intro x h
  rcases List.mem_append.1 h with h | h
  · exact hx x h
  · exact hy x h

theorem Rd.of_own' {w : World} {base e n : Nat} {k : IntKind} {v : Value} {xs : List Int} (h : w.ownsRow base e 1 v n (xs.map (Value.int k))) : ∃ A n c, v = .slice A n c ∧ Rd w w.heap.size k A n c xs := by
  obtain ⟨A, c, hv, hr⟩ := Rd.of_own h
  exact ⟨A, n, c, hv, hr⟩
/-- What came in as a row reads as a list. -/
theorem Rd.of_row {w : World} {k : IntKind} {a : Option Addr} {len cap : Nat} {zs : List Int}
    (h : (a = none ∧ len = 0 ∧ cap = 0 ∧ zs = []) ∨ ∃ x, a = some x ∧ len ≤ cap ∧ cap ≤ maxLen ∧ zs.length = cap ∧ (∀ i, i < zs.length → w.cell? (x.add i) = some (.int k (zs.getD i 0))) ∧ ∀ n ∈ zs, (Lit.int k n).wf = true) :
    Rd w w.heap.size k a len cap (zs.take len) ∧ ∀ n ∈ zs.take len, (Lit.int k n).wf = true := by
  rcases h with ⟨rfl, rfl, rfl, rfl⟩ | ⟨x, rfl, hl, hm, hz, hc, hw⟩
  · exact ⟨Rd.none_ _ _ _, fun n hn => by simp at hn⟩
  · refine ⟨⟨by rw [List.length_take, hz]; omega, hl, hm, (fun h => by cases h), fun j u hu => ?_⟩, fun n hn => hw n (List.mem_of_mem_take hn)⟩
    have hj : j < zs.length := by
      have := (List.getElem?_eq_some_iff.1 hu).1
      rw [List.length_take] at this
      omega
    obtain ⟨b, o, rfl, hcell⟩ := ints_at hc (by omega)
    have h1 := hcell j hj
    refine ⟨b, o, rfl, World.block_lt_of_cell? w _ h1, ?_⟩
    rw [h1]
    rw [List.getElem?_take] at hu
    split at hu
    · rw [List.getD_eq_getElem?_getD, hu]
      rfl
    · cases hu
theorem wf_list {zs : List Int} (h : ∀ n ∈ zs, (Lit.int .i64 n).wf = true) : ∀ x ∈ zs, -9223372036854775808 ≤ x ∧ x ≤ 9223372036854775807 := fun x hx => bounds_i64 (h x hx)
theorem wf_bytes {zs : List Int} (h : ∀ n ∈ zs, (Lit.int .u8 n).wf = true) : ∀ x ∈ zs, 0 ≤ x ∧ x < 256 := fun x hx => by
  have := bounds_u8 (h x hx)
  omega

theorem own_below {w w1 : World} {base e size n : Nat} {v : Value} {ys : List Value} (h : w.ownsRow base e size v n ys) (hb : Below w.heap.size w w1) : w1.ownsRow base e size v n ys :=
  h.kept (row := Option.none) ⟨hb.os, hb.tape, hb.output, hb.size, fun k hk _ => hb.block k hk⟩ (by cases hv : v.ownBlock <;> simp)

theorem own_base {w : World} {base base' e size n : Nat} {v : Value} {ys : List Value} (h : w.ownsRow base e size v n ys) (hb : base' ≤ base) : w.ownsRow base' e size v n ys := by
  obtain ⟨h1, h2⟩ := h
  refine ⟨h1, ?_⟩
  rcases h2 with h2 | ⟨g, cap, cur, hv, hg, r⟩
  · exact .inl h2
  · exact .inr ⟨g, cap, cur, hv, by omega, r⟩

theorem own_less {w : World} {base e g n m cap : Nat} {xs ys : List Value} (h : w.ownsRow base e 1 (.slice (some ⟨g, 0, none⟩) (n + m) cap) (n + m) (xs ++ ys)) (hx : xs.length = n) :
    w.ownsRow base e 1 (.slice (some ⟨g, 0, none⟩) n cap) n xs := by
  obtain ⟨h1, h2⟩ := h
  refine ⟨by omega, .inr ?_⟩
  rcases h2 with ⟨h3, _⟩ | ⟨g', cap', cur, hv, hb, hg, hnc, hcm, hcs, ht⟩
  · cases h3
  · simp only [Value.slice.injEq, Option.some.injEq, Addr.mk.injEq, and_true, true_and] at hv
    obtain ⟨rfl, rfl⟩ := hv
    refine ⟨g, cap, cur, rfl, hb, hg, by omega, hcm, hcs, ?_⟩
    have h4 : (cur.toList.take ((n + m) * 1)).take (n * 1) = xs := by rw [ht, ← hx, Nat.mul_one]; exact List.take_left
    rw [List.take_take] at h4
    rwa [Nat.min_eq_left (by omega)] at h4
theorem grow_any {w w' : World} (h : w.grownBy w' none) (row : Option Nat) : w.grownBy w' row := ⟨h.os, h.tape, h.output, h.size, fun k hk _ => h.block k hk (by simp)⟩

theorem run_append_keep {P : Program} (w : World) (base : Nat) (t ty e : TypeId) (i : TypeInfo) (z : Value) (bytes : Nat) (ht : P.underlying t = some (.slice e)) (hi : P.info? e = some i) (hz : i.zero = some z)
    (hsize : i.size = 1) (hby : i.bytes = bytes) (hzs : z.cells.size = 1)
    (v : Value) (n : Nat) (xs : List Value) (hown : w.ownsRow base e 1 v n xs)
    (ad : Addr) (m c : Nat) (news : List Value) (hl : news.length = m * 1) (hnews : ∀ j u, news[j]? = some u → w.cell? (ad.add j) = some u) (h1 : ∀ u ∈ news, u.oneCell' = true)
    (h63 : n + m ≤ maxLen) (hbytes : (n + m) * bytes ≤ 140737488355328) (hbase : base ≤ w.heap.size) :
    ∃ v' w', (Builtin.append_ #[t, t] ty #[v, .slice (some ad) m c]).run P w = .ok v' w' ∧ w'.ownsRow base e 1 v' (n + m) (xs ++ news) ∧ w'.ownsRow base e 1 v n xs ∧ w.grownBy w' v.ownBlock := by
  have hown0 := hown
  rcases hown.2 with ⟨rfl, rfl⟩ | ⟨g, cap, cur, rfl, hbg, hg, hnc, hcm, hcs, htake⟩
  · obtain ⟨v', w', hr, h2, h3, _⟩ := run_append_own (P := P) w base t ty e i z 1 bytes ht hi hz hsize hby hzs (by omega) _ _ _ hown ad m c news hl hnews h1 h63 hbytes hbase
    have hx : xs = [] := List.eq_nil_of_length_eq_zero (by have := hown.1; simpa using this)
    subst hx
    exact ⟨v', w', hr, h2, World.ownsRow_nil _ _ _ _, h3⟩
  · by_cases hroom : n + m ≤ cap
    · obtain ⟨w', hr, h2, h3⟩ := run_append_fits (P := P) w base t ty e i 1 ht hi hsize g n cap xs hown ad m c news hl hnews h1 hroom
      exact ⟨_, w', hr, h2, own_less h2 (by have := hown.1; omega), h3⟩
    · obtain ⟨v', w', hr, h2, h3⟩ := run_append_arg_grows (P := P) w t ty e i z 1 bytes ht hi hz hsize hby hzs (by omega) ⟨g, 0, none⟩ n cap xs hown.1 (hown.cells (g := g) rfl) ad m c news hl hnews (by omega) h63 hbytes
      exact ⟨v', w', hr, own_base h2 hbase, hown0.kept h3 (by simp [Value.ownBlock]), grow_any h3 _⟩

/-- 'append' for the walk, where its guard says yes. -/
theorem wpList_append_keep {P : Program} {w : World} {ops : Array Oper} {rest : List Oper} {o : Oper} {a : Act} {Q : Exit → Act → World → Prop} (hgd : Region.wanted o (yielded ops a.tmps) = true) (s x : Operand) (t : TypeId)
    (ho : o.op = .call { callee := .builtin .append, args := #[s, x], argTypes := #[t, t] })
    (base : Nat) (e : TypeId) (i : TypeInfo) (z : Value) (bytes : Nat) (ht : P.underlying t = some (.slice e)) (hi : P.info? e = some i) (hz : i.zero = some z)
    (hsize : i.size = 1) (hby : i.bytes = bytes) (hzs : z.cells.size = 1)
    (v : Value) (n : Nat) (xs : List Value) (hs : a.eval s = v) (hown : w.ownsRow base e 1 v n xs)
    (ad : Addr) (m c : Nat) (news : List Value) (hx : a.eval x = .slice (some ad) m c) (hl : news.length = m * 1)
    (hnews : ∀ j u, news[j]? = some u → w.cell? (ad.add j) = some u) (h1 : ∀ u ∈ news, u.oneCell' = true)
    (h63 : n + m ≤ maxLen) (hbytes : (n + m) * bytes ≤ 140737488355328) (hbase : base ≤ w.heap.size)
    (h : ∀ v' w', w'.ownsRow base e 1 v' (n + m) (xs ++ news) → w'.ownsRow base e 1 v n xs → w.grownBy w' v.ownBlock → wpList P ops Q rest (a.put o.dst v') w') : wpList P ops Q (o :: rest) a w := by
  refine wpList_step fun K hK => ?_
  rw [if_pos hgd]
  obtain ⟨v', w', hr, h2, h3, h4⟩ := run_append_keep (P := P) w base t o.type e i z bytes ht hi hz hsize hby hzs v n xs hown ad m c news hl hnews h1 h63 hbytes hbase
  unfold Oper.wp execOp
  simp only [ho, resolve, invoke, builtin, Sem.run_bind, Sem.run_pure, Result.andThen_ok, List.map_toArray, List.map_cons, List.map_nil, hs, hx, hr]
  exact hK _ _ (h v' w' h2 h3 h4)

/-- A row that is not empty has an address, and its cells lie there. -/
theorem own_place {w : World} {base e n : Nat} {v : Value} {xs : List Value} (h : w.ownsRow base e 1 v n xs) (hp : 0 < n) :
    ∃ g cap, v = .slice (some ⟨g, 0, none⟩) n cap ∧ base ≤ g ∧ g < w.heap.size ∧ ∀ j u, xs[j]? = some u → w.cell? ((⟨g, 0, none⟩ : Addr).add j) = some u := by
  have h0 := h
  rcases h.2 with ⟨_, h1⟩ | ⟨g, cap, cur, rfl, hb, hg, _⟩
  · omega
  · exact ⟨g, cap, rfl, hb, (Array.getElem?_eq_some_iff.1 hg).1, h0.cells (g := g) rfl⟩

end Go.Proofs.YtnomicnmpllajaaGreatDoor
end

section
namespace Go.Proofs.YtnomicnmpllajaaGreatDoor
open Go

section
variable {α β : Type} (nm : α → List UInt8)

/-- One more, in its place by its name. -/
def insN (x : α) : List α → List α
  | [] => [x]
  | y :: r => if bytesBefore (nm x) (nm y) then x :: y :: r else y :: insN x r
/-- All but those of a name. -/
def delN (k : List UInt8) (l : List α) : List α := l.filter fun y => !(nm y == k)
/-- One in the place of those of its name. -/
def putN (x : α) (l : List α) : List α := insN nm x (delN nm (nm x) l)
def Rising (l : List α) : Prop := l.Pairwise fun x y => bytesBefore (nm x) (nm y) = true

variable {nm}
theorem mem_insN {x y : α} : ∀ {l : List α}, y ∈ insN nm x l ↔ y = x ∨ y ∈ l
  | [] => by simp [insN]
  | z :: r => by
    unfold insN
    split
    · simp
    · simp only [List.mem_cons, mem_insN (l := r)]
      constructor
      · rintro (h | h | h)
        · exact .inr (.inl h)
        · exact .inl h
        · exact .inr (.inr h)
      · rintro (h | h | h)
        · exact .inr (.inl h)
        · exact .inl h
        · exact .inr (.inr h)
theorem mem_delN {k : List UInt8} {y : α} {l : List α} : y ∈ delN nm k l ↔ y ∈ l ∧ nm y ≠ k := by
  unfold delN
  simp [List.mem_filter]
theorem mem_putN {x y : α} {l : List α} : y ∈ putN nm x l ↔ y = x ∨ (y ∈ l ∧ nm y ≠ nm x) := by
  unfold putN
  rw [mem_insN, mem_delN]
theorem length_insN (x : α) : ∀ l : List α, (insN nm x l).length = l.length + 1
  | [] => rfl
  | z :: r => by
    unfold insN
    split
    · rfl
    · simp [length_insN x r]
theorem length_delN (k : List UInt8) (l : List α) : (delN nm k l).length ≤ l.length := List.length_filter_le _ _
theorem length_putN (x : α) (l : List α) : (putN nm x l).length ≤ l.length + 1 := by
  unfold putN
  rw [length_insN]
  have := length_delN (nm := nm) (nm x) l
  omega
theorem perm_insN (x : α) : ∀ l : List α, (insN nm x l).Perm (x :: l)
  | [] => List.Perm.refl _
  | z :: r => by
    unfold insN
    split
    · exact List.Perm.refl _
    · exact ((perm_insN x r).cons z).trans (List.Perm.swap x z r)
theorem map_insN {g : α → β} {nm' : β → List UInt8} (hg : ∀ x, nm' (g x) = nm x) (x : α) : ∀ l : List α, (insN nm x l).map g = insN nm' (g x) (l.map g)
  | [] => rfl
  | z :: r => by
    unfold insN
    simp only [List.map_cons, hg]
    split
    · simp
    · simp [map_insN hg x r]
theorem map_delN {g : α → β} {nm' : β → List UInt8} (hg : ∀ x, nm' (g x) = nm x) (k : List UInt8) (l : List α) : (delN nm k l).map g = delN nm' k (l.map g) := by
  unfold delN
  rw [List.filter_map]
  congr 1
  apply List.filter_congr
  intro x _
  simp [hg]
theorem map_putN {g : α → β} {nm' : β → List UInt8} (hg : ∀ x, nm' (g x) = nm x) (x : α) (l : List α) : (putN nm x l).map g = putN nm' (g x) (l.map g) := by
  unfold putN
  rw [map_insN hg, map_delN hg, hg]

theorem Rising.irrefl {l : List α} (h : Rising nm l) {i j : Nat} {x y : α} (hi : l[i]? = some x) (hj : l[j]? = some y) (hn : nm x = nm y) : i = j := by
  have hlt : ∀ a b, a < b → ∀ u v, l[a]? = some u → l[b]? = some v → bytesBefore (nm u) (nm v) = true := fun a b hab u v hu hv => by
    have ha := (List.getElem?_eq_some_iff.1 hu)
    have hb := (List.getElem?_eq_some_iff.1 hv)
    obtain ⟨ha1, rfl⟩ := ha
    obtain ⟨hb1, rfl⟩ := hb
    exact List.pairwise_iff_getElem.1 h a b ha1 hb1 hab
  rcases Nat.lt_trichotomy i j with h1 | h1 | h1
  · have := hlt i j h1 x y hi hj
    rw [hn, WideAt.bytes_irrefl] at this
    cases this
  · exact h1
  · have := hlt j i h1 y x hj hi
    rw [hn, WideAt.bytes_irrefl] at this
    cases this
theorem Rising.one {l : List α} (h : Rising nm l) {x y : α} (hx : x ∈ l) (hy : y ∈ l) (hn : nm x = nm y) : x = y := by
  obtain ⟨i, hi⟩ := List.getElem?_of_mem hx
  obtain ⟨j, hj⟩ := List.getElem?_of_mem hy
  have := h.irrefl hi hj hn
  subst this
  rw [hi] at hj
  exact Option.some.inj hj
theorem Rising.insN {x : α} : ∀ {l : List α}, Rising nm l → (∀ y ∈ l, nm y ≠ nm x) → Rising nm (insN nm x l)
  | [], _, _ => by unfold Rising; simp [Go.Proofs.YtnomicnmpllajaaGreatDoor.insN]
  | z :: r, h, hx => by
    obtain ⟨h1, h2⟩ := List.pairwise_cons.1 h
    unfold Go.Proofs.YtnomicnmpllajaaGreatDoor.insN
    split
    · rename_i hb
      refine List.pairwise_cons.2 ⟨fun y hy => ?_, h⟩
      rcases List.mem_cons.1 hy with rfl | hy
      · exact hb
      · exact WideShapes.bytes_trans _ _ _ hb (h1 y hy)
    · rename_i hb
      refine List.pairwise_cons.2 ⟨fun y hy => ?_, Rising.insN h2 fun y hy => hx y (by simp [hy])⟩
      rcases mem_insN.1 hy with rfl | hy
      · rcases WideAt.bytes_total (nm y) (nm z) (fun e => hx z (by simp) e.symm) with h3 | h3
        · exact absurd h3 hb
        · exact h3
      · exact h1 y hy
theorem Rising.delN {l : List α} (h : Rising nm l) (k : List UInt8) : Rising nm (delN nm k l) := List.Pairwise.filter _ h
theorem Rising.filter {l : List α} (h : Rising nm l) (p : α → Bool) : Rising nm (l.filter p) := List.Pairwise.filter _ h
theorem Rising.putN {l : List α} (h : Rising nm l) (x : α) : Rising nm (putN nm x l) :=
  (h.delN (nm x)).insN fun _ hy => (mem_delN.1 hy).2
theorem Rising.map {g : α → β} {nm' : β → List UInt8} (hg : ∀ x, nm' (g x) = nm x) {l : List α} (h : Rising nm l) : Rising nm' (l.map g) :=
  List.pairwise_map.2 (h.imp fun {a b} hab => by rw [hg, hg]; exact hab)
theorem Rising.of_map {g : α → β} {nm' : β → List UInt8} (hg : ∀ x, nm' (g x) = nm x) {l : List α} (h : Rising nm' (l.map g)) : Rising nm l :=
  (List.pairwise_map.1 h).imp fun {a b} hab => by rw [hg, hg] at hab; exact hab

/-- Two rising lists with the same members are one. -/
theorem Rising.ext : ∀ {l m : List α}, Rising nm l → Rising nm m → (∀ x, x ∈ l ↔ x ∈ m) → l = m
  | [], [], _, _, _ => rfl
  | [], b :: s, _, _, h => by have := (h b).2 (by simp); simp at this
  | a :: r, [], _, _, h => by have := (h a).1 (by simp); simp at this
  | a :: r, b :: s, h1, h2, h => by
    obtain ⟨a1, a2⟩ := List.pairwise_cons.1 h1
    obtain ⟨b1, b2⟩ := List.pairwise_cons.1 h2
    have irr : ∀ {x y : α}, bytesBefore (nm x) (nm y) = true → x ≠ y := fun {x y} hb e => by
      rw [e, WideAt.bytes_irrefl] at hb
      cases hb
    have hab : a = b := by
      rcases List.mem_cons.1 ((h a).1 (by simp)) with e | ha
      · exact e
      · rcases List.mem_cons.1 ((h b).2 (by simp)) with e | hb
        · exact e.symm
        · exact absurd rfl (irr (WideShapes.bytes_trans _ _ _ (b1 a ha) (a1 b hb)))
    subst hab
    rw [Rising.ext a2 b2 fun p => ⟨fun hp => by
      rcases List.mem_cons.1 ((h p).1 (by simp [hp])) with e | hp'
      · exact absurd e.symm (irr (a1 p hp))
      · exact hp', fun hp => by
      rcases List.mem_cons.1 ((h p).2 (by simp [hp])) with e | hp'
      · exact absurd e.symm (irr (b1 p hp))
      · exact hp'⟩]
/-- One in the place of the one of its name: all others stay where they are. -/
theorem putN_replace {l : List α} (h : Rising nm l) {x y : α} (hy : y ∈ l) (hn : nm y = nm x) : putN nm x l = l.map fun z => if nm z == nm x then x else z := by
  refine Rising.ext (h.putN x) ?_ fun z => ?_
  · refine List.pairwise_map.2 (h.imp fun {a b} hab => ?_)
    have e : ∀ c : α, nm (if nm c == nm x then x else c) = nm c := fun c => by
      split
      · rename_i hc; exact (beq_iff_eq.1 hc).symm
      · rfl
    rw [e, e]
    exact hab
  · rw [mem_putN, List.mem_map]
    constructor
    · rintro (rfl | ⟨hz, hne⟩)
      · exact ⟨y, hy, by rw [if_pos (by simp [hn])]⟩
      · exact ⟨z, hz, by rw [if_neg (by simp [hne])]⟩
    · rintro ⟨c, hc, rfl⟩
      by_cases hcx : nm c = nm x
      · rw [if_pos (by simp [hcx])]
        exact .inl rfl
      · rw [if_neg (by simp [hcx])]
        exact .inr ⟨hc, hcx⟩
theorem delN_none {l : List α} {k : List UInt8} (h : ∀ y ∈ l, nm y ≠ k) : delN nm k l = l := by
  unfold delN
  rw [List.filter_eq_self]
  intro y hy
  simp [h y hy]
end

/-- The order in which the library sorts texts. -/
theorem before_le : ∀ {a b : List UInt8}, bytesBefore a b = true → a ≤ b
  | [], [], h => by simp [bytesBefore] at h
  | [], _ :: _, _ => List.nil_le _
  | _ :: _, [], h => by simp [bytesBefore] at h
  | x :: r, y :: s, h => by
    simp only [bytesBefore, Bool.or_eq_true, Bool.and_eq_true, decide_eq_true_eq, beq_iff_eq] at h
    rcases h with h | ⟨rfl, h⟩
    · exact List.le_of_lt (List.Lex.rel h)
    · have := before_le h
      rw [← List.not_lt] at this ⊢
      intro hc
      cases hc with
      | rel h1 => simp at h1
      | cons h1 => exact this h1
theorem sorted_names {ss l : List (List UInt8)} (hp : ss.Perm l) (h : Rising id l) : ss.mergeSort (fun x y => decide (x ≤ y)) = l := by
  have e := mergeSort_of_perm hp
  have e2 : l.mergeSort leB = l := List.mergeSort_of_pairwise (h.imp fun {a b} hab => by simpa [leB] using before_le hab)
  exact (show ss.mergeSort leB = l by rw [e, e2])

end Go.Proofs.YtnomicnmpllajaaGreatDoor
end

section
namespace Go.Proofs.YtnomicnmpllajaaGreatDoor
open Go Go.RowKit Go.Maps Go.ChangeMaps Go.MapKept Go.WideMaps Go.WideShapes

/-- A file: its name, its bytes, how many are synced. -/
structure RF where
  nm : List UInt8
  b : List Int
  s : Nat
/-- A file in memory: where its struct lies, and its bytes' slice. -/
structure Fil where
  f : RF
  p : Nat
  v : Value
abbrev Fil.nm (x : Fil) : List UInt8 := x.f.nm
def usedN (S : List RF) : Nat := (S.map fun f => f.b.length).sum
theorem usedN_nil : usedN [] = 0 := rfl
theorem usedN_cons (x : RF) (S : List RF) : usedN (x :: S) = x.b.length + usedN S := by simp [usedN]
theorem usedN_perm {S T : List RF} (h : S.Perm T) : usedN S = usedN T := (h.map _).sum_nat
theorem usedN_ins (x : RF) (S : List RF) : usedN (insN RF.nm x S) = x.b.length + usedN S := by
  rw [usedN_perm (perm_insN x S), usedN_cons]
theorem usedN_mem {S : List RF} {x : RF} (h : x ∈ S) : x.b.length ≤ usedN S := by
  induction S with
  | nil => cases h
  | cons y r ih =>
    rw [usedN_cons]
    rcases List.mem_cons.1 h with rfl | h
    · omega
    · have := ih h; omega
theorem usedN_del {S : List RF} (h : Rising RF.nm S) {x : RF} (hx : x ∈ S) : usedN (delN RF.nm x.nm S) + x.b.length = usedN S := by
  induction S with
  | nil => cases hx
  | cons y r ih =>
    obtain ⟨h1, h2⟩ := List.pairwise_cons.1 h
    have hne : ∀ z ∈ r, z.nm ≠ y.nm := fun z hz e => by
      have := h1 z hz
      rw [e, WideAt.bytes_irrefl] at this
      cases this
    by_cases hxy : x = y
    · subst hxy
      have e : delN RF.nm x.nm (x :: r) = r := by
        show List.filter _ (x :: r) = r
        rw [List.filter_cons_of_neg (by simp)]
        exact delN_none hne
      rw [e, usedN_cons]
      omega
    · have hx' : x ∈ r := by
        rcases List.mem_cons.1 hx with e | e
        · exact absurd e hxy
        · exact e
      have e : delN RF.nm x.nm (y :: r) = y :: delN RF.nm x.nm r := by
        show List.filter _ (y :: r) = _
        rw [List.filter_cons_of_pos (by simpa using (fun e => hne x hx' e.symm))]
        rfl
      rw [e, usedN_cons, usedN_cons]
      have := ih h2 hx'
      omega
theorem usedN_put {S : List RF} (h : Rising RF.nm S) {x y : RF} (hx : x ∈ S) (hn : x.nm = y.nm) : usedN (putN RF.nm y S) + x.b.length = usedN S + y.b.length := by
  unfold putN
  rw [usedN_ins, ← hn]
  have := usedN_del h hx
  omega

/-- Of what was there nothing has turned but blocks of which Φ speaks. -/
structure Chg (Φ : Nat → Prop) (w w' : World) : Prop where
  os : w'.os = w.os
  tape : w'.tape = w.tape
  output : w'.output = w.output
  size : w.heap.size ≤ w'.heap.size
  block : ∀ k, k < w.heap.size → ¬ Φ k → w'.heap[k]? = w.heap[k]?

section
variable {Φ Ψ : Nat → Prop} {a b c w w' : World}
theorem Chg.refl (Φ : Nat → Prop) (w : World) : Chg Φ w w := ⟨rfl, rfl, rfl, Nat.le_refl _, fun _ _ _ => rfl⟩
theorem Chg.trans (h : Chg Φ a b) (k : Chg Ψ b c) (hs : ∀ i, i < a.heap.size → Ψ i → Φ i) : Chg Φ a c :=
  ⟨k.os.trans h.os, k.tape.trans h.tape, k.output.trans h.output, Nat.le_trans h.size k.size, fun i hi hn =>
    (k.block i (Nat.lt_of_lt_of_le hi h.size) fun hp => hn (hs i hi hp)).trans (h.block i hi hn)⟩
theorem Chg.mono (h : Chg Φ a b) (hs : ∀ i, i < a.heap.size → Φ i → Ψ i) : Chg Ψ a b :=
  ⟨h.os, h.tape, h.output, h.size, fun i hi hn => h.block i hi fun hp => hn (hs i hi hp)⟩
theorem Chg.of_below (h : Below a.heap.size a b) : Chg Φ a b := ⟨h.os, h.tape, h.output, h.size, fun i hi _ => h.block i hi⟩
theorem Chg.below {B : Nat} (h : Chg Φ a b) (hB : B ≤ a.heap.size) (hs : ∀ i, Φ i → B ≤ i) : Below B a b :=
  ⟨h.os, h.tape, h.output, h.size, fun i hi => h.block i (by omega) fun hp => by have := hs i hp; omega⟩
theorem Chg.setCell (w : World) (p : Addr) (u : Value) : Chg (fun k => k = p.block) w (w.setCell p u) :=
  ⟨rfl, rfl, rfl, by simp [World.setCell], fun i _ hn => Below.heap_setCell _ _ _ _ hn⟩
theorem Chg.set (w : World) (p i : Nat) (u : Value) : Chg (fun k => k = p) w (w.setCell ⟨p, i, none⟩ u) := Chg.setCell w ⟨p, i, none⟩ u
theorem Chg.alloc (w : World) (o : Obj) : Chg Φ w (w.alloc o) := Chg.of_below ((Below.refl _ _).alloc (Nat.le_refl _) o)
theorem Chg.drewN (w : World) (n : Nat) : Chg Φ w (w.drewN n) := ⟨rfl, rfl, rfl, Nat.le_refl _, fun _ _ _ => rfl⟩
theorem Chg.drew (w : World) : Chg Φ w w.drew := ⟨rfl, rfl, rfl, Nat.le_refl _, fun _ _ _ => rfl⟩
theorem Chg.of_grown {row : Option Nat} (h : a.grownBy b row) : Chg (fun k => row = some k) a b :=
  ⟨h.os, h.tape, h.output, h.size, fun i hi hn => h.block i hi fun e => hn e.symm⟩
theorem Chg.of_turned {m : Nat} (h : a.mapTurned b m) : Chg (fun k => k = m) a b :=
  (Chg.of_grown h.grown).mono fun _ _ e => (Option.some.inj e).symm
theorem Chg.heap (h : Chg Φ w w') {k : Nat} {o : Obj} (hk : w.heap[k]? = some o) (hn : ¬ Φ k) : w'.heap[k]? = some o :=
  (h.block k (Array.getElem?_eq_some_iff.1 hk).1 hn).trans hk
theorem Chg.cell (h : Chg Φ w w') {p : Addr} (hp : p.block < w.heap.size) (hn : ¬ Φ p.block) : w'.cell? p = w.cell? p := World.cell?_of_block (h.block _ hp hn)
theorem Chg.own {base e size n : Nat} {v : Value} {xs : List Value} (h : Chg Φ w w') (ho : w.ownsRow base e size v n xs) (hn : ∀ g, v.ownBlock = some g → ¬ Φ g) : w'.ownsRow base e size v n xs := by
  refine ⟨ho.1, ?_⟩
  rcases ho.2 with h1 | ⟨g, cap, cur, rfl, hb, hg, r⟩
  · exact .inl h1
  · exact .inr ⟨g, cap, cur, rfl, hb, h.heap hg (hn g rfl), r⟩
theorem Chg.rd {B n q : Nat} {k : IntKind} {A : Option Addr} {xs : List Int} (h : Chg Φ w w') (hr : Rd w B k A n q xs) (hB : B ≤ w.heap.size) (hn : ∀ i, i < B → ¬ Φ i) : Rd w' B k A n q xs :=
  hr.keep fun p hp => h.cell (by omega) (hn _ hp)
end

/-! ### blocks of two and three cells -/
section
variable {w : World} {b : Nat} {x y z : Value} {t : TypeId}
theorem two_cells (h : w.heap[b]? = some (.cells #[x, y] t (0, 0))) :
    w.cell? ⟨b, 0, none⟩ = some x ∧ w.cell? ⟨b, 1, none⟩ = some y ∧ w.frozen? ⟨b, 0, none⟩ = false ∧ w.frozen? ⟨b, 1, none⟩ = false := by
  simp [World.cell?, World.frozen?, h]
theorem three_cells (h : w.heap[b]? = some (.cells #[x, y, z] t (0, 0))) :
    w.cell? ⟨b, 0, none⟩ = some x ∧ w.cell? ⟨b, 1, none⟩ = some y ∧ w.cell? ⟨b, 2, none⟩ = some z ∧ w.frozen? ⟨b, 0, none⟩ = false ∧ w.frozen? ⟨b, 1, none⟩ = false ∧ w.frozen? ⟨b, 2, none⟩ = false := by
  simp [World.cell?, World.frozen?, h]
theorem heap_setCell_same {cs : Array Value} {fr : Nat × Nat} (h : w.heap[b]? = some (.cells cs t fr)) (i : Nat) (u : Value) : (w.setCell ⟨b, i, none⟩ u).heap[b]? = some (.cells (cs.setIfInBounds i u) t fr) := by
  obtain ⟨hlt, h'⟩ := Array.getElem?_eq_some_iff.1 h
  show (w.heap.modify b _)[b]? = _
  rw [Array.getElem?_eq_getElem (by simpa using hlt), Array.getElem_modify_self, h']
  rfl
theorem two_set0 (h : w.heap[b]? = some (.cells #[x, y] t (0, 0))) (u : Value) : (w.setCell ⟨b, 0, none⟩ u).heap[b]? = some (.cells #[u, y] t (0, 0)) := heap_setCell_same h 0 u
theorem two_set1 (h : w.heap[b]? = some (.cells #[x, y] t (0, 0))) (u : Value) : (w.setCell ⟨b, 1, none⟩ u).heap[b]? = some (.cells #[x, u] t (0, 0)) := heap_setCell_same h 1 u
theorem three_set1 (h : w.heap[b]? = some (.cells #[x, y, z] t (0, 0))) (u : Value) : (w.setCell ⟨b, 1, none⟩ u).heap[b]? = some (.cells #[x, u, z] t (0, 0)) := heap_setCell_same h 1 u
theorem heap_setCell_but {cs : Array Value} {fr : Nat × Nat} {p : Nat} (h : w.heap[b]? = some (.cells cs t fr)) (hp : b ≠ p) (i : Nat) (u : Value) : (w.setCell ⟨p, i, none⟩ u).heap[b]? = some (.cells cs t fr) := by
  rw [Below.heap_setCell _ _ _ _ hp]; exact h
end

/-! ### the map -/
/-- How a pointer in a map reads: as its block's number. -/
def ptrElem : Value → Option (DataW Unit × List MemPlace)
  | .pointer none => some (.nil, [])
  | .pointer (some a) => if a.off = 0 ∧ a.spot = none then some (.lit (.int .i64 a.block), []) else none
  | _ => none
theorem ptrElem_at (p : Nat) : ptrElem (.pointer (some ⟨p, 0, none⟩)) = some (.lit (.int .i64 p), []) := by simp [ptrElem]
theorem ptrElem_nil_inv {v : Value} {ps : List MemPlace} (h : ptrElem v = some (.nil, ps)) : v = .pointer none := by
  unfold ptrElem at h
  split at h
  · rfl
  · split at h
    · simp at h
    · cases h
  · cases h
theorem ptrElem_at_inv {v : Value} {p : Nat} {ps : List MemPlace} (h : ptrElem v = some (.lit (.int .i64 p), ps)) : v = .pointer (some ⟨p, 0, none⟩) := by
  unfold ptrElem at h
  split at h
  · simp at h
  · rename_i a
    split at h
    · rename_i hc
      simp at h
      obtain ⟨h1, _⟩ := h
      obtain ⟨b, o, sp⟩ := a
      simp at hc h1
      obtain ⟨rfl, rfl⟩ := hc
      obtain rfl : b = p := by omega
      rfl
    · cases h
  · cases h

/-- What the map of files reads as. -/
def entryOf (x : Fil) : Lit × DataW Unit := (.string x.nm, .lit (.int .i64 x.p))
def datOf (L : List Fil) : DataW Unit := .map (L.map entryOf)
theorem dat_atKey (k : List UInt8) : ∀ L : List Fil, (datOf L).atKey (.string k) .nil = match L.find? (fun x => x.nm == k) with | some x => .lit (.int .i64 x.p) | none => .nil
  | [] => rfl
  | y :: r => by
    have ih := dat_atKey k r
    unfold datOf DataW.atKey at ih ⊢
    simp only [List.map_cons, List.find?_cons]
    have e : (entryOf y).1.sameKey (.string k) = (y.nm == k) := rfl
    rw [e]
    cases hy : y.nm == k
    · exact ih
    · rfl
theorem dat_ins (x : Fil) : ∀ L : List Fil, DataW.insert (entryOf x) (L.map entryOf) = (insN Fil.nm x L).map entryOf
  | [] => rfl
  | y :: r => by
    unfold insN
    simp only [List.map_cons]
    show (if (entryOf x).1.before (entryOf y).1 then _ else _) = _
    have e : (entryOf x).1.before (entryOf y).1 = bytesBefore x.nm y.nm := rfl
    rw [e]
    split
    · rfl
    · rw [dat_ins x r]
      rfl
theorem dat_filter (k : List UInt8) (L : List Fil) : (L.map entryOf).filter (fun p => !p.1.sameKey (.string k)) = (delN Fil.nm k L).map entryOf := by
  unfold delN
  rw [List.filter_map]
  rfl
theorem dat_put (x : Fil) (L : List Fil) : (datOf L).put (.string x.nm) (.lit (.int .i64 x.p)) = datOf (putN Fil.nm x L) := by
  show DataW.map (DataW.insert (entryOf x) ((L.map entryOf).filter fun p => !p.1.sameKey (.string x.nm))) = _
  rw [dat_filter, dat_ins]
  rfl
theorem dat_del (k : List UInt8) (L : List Fil) : (datOf L).del (.string k) = datOf (delN Fil.nm k L) := by
  show DataW.map ((L.map entryOf).filter fun p => !p.1.sameKey (.string k)) = _
  rw [dat_filter]
  rfl
theorem dat_keys (L : List Fil) : strKeys (datOf L) = L.map Fil.nm := by
  show (L.map entryOf).map (fun p => strOf p.1) = _
  rw [List.map_map]
  rfl
theorem dat_size (L : List Fil) : Maps.size (datOf L) = L.length := by
  show (L.map entryOf).length = _
  rw [List.length_map]
theorem dat_has (k : List UInt8) (L : List Fil) : Maps.has (datOf L) (.string k) = L.any fun x => x.nm == k := by
  show (L.map entryOf).any (fun p => p.1.sameKey (.string k)) = _
  rw [List.any_map]
  rfl

theorem ownsMap_tight {H : Type} {w : World} {P : Program} {k : TypeId} {R : Value → Option (DataW H × List MemPlace)} {b n : Nat} {D : DataW H} (h : w.ownsMap P k R b n D) : w.ownsMap P k R b (Maps.size D) D := by
  obtain ⟨es, clock, hb, F, _, rfl⟩ := h
  exact ⟨es, clock, hb, F, by simp [Maps.size, length_sorted], rfl⟩

theorem keyed_str : Keyed Tryz.prog 9 := string_keyed Tryz.underlying9
theorem zero_file (w : World) : (zeroValue 92).run Tryz.prog w = .ok (.pointer none) w := by kernel_rfl

abbrev DMap (w : World) (m : Nat) (L : List Fil) : Prop := w.ownsMap Tryz.prog 9 ptrElem m L.length (datOf L)
theorem DMap.keep {Φ : Nat → Prop} {w w' : World} {m : Nat} {L : List Fil} (h : DMap w m L) (hc : Chg Φ w w') (hn : ¬ Φ m) : DMap w' m L := by
  obtain ⟨es, clock, hb, r⟩ := h
  exact ⟨es, clock, hc.heap hb hn, r⟩
/-- What a name leads to. -/
def ptrTo (L : List Fil) (k : List UInt8) : Value := match L.find? (fun x => x.nm == k) with | some x => .pointer (some ⟨x.p, 0, none⟩) | none => .pointer none
theorem DMap.look {w : World} {m : Nat} {L : List Fil} (h : DMap w m L) (s : ByteArray) (hs : s.size ≤ maxLen) :
    (Instr.lookup 77 (.map (some m)) (.string s) false).run Tryz.prog w = .ok (ptrTo L s.data.toList) w := by
  obtain ⟨v, ps, hrun, hv⟩ := World.ownsMap.lookup h keyed_str Tryz.underlying77 (zero_file w) (zd := .nil) (zp := []) rfl (keyOf_string_mk Tryz.underlying9 hs)
  rw [hrun]
  rw [dat_atKey] at hv
  unfold ptrTo
  cases hf : L.find? (fun x => x.nm == s.data.toList) with
  | none =>
    rw [hf] at hv
    rw [ptrElem_nil_inv hv]
  | some x =>
    rw [hf] at hv
    rw [ptrElem_at_inv hv]
theorem ptrTo_none {L : List Fil} {k : List UInt8} (h : ∀ x ∈ L, x.nm ≠ k) : ptrTo L k = .pointer none := by
  unfold ptrTo
  rw [List.find?_eq_none.2 fun x hx => by simpa using h x hx]
theorem ptrTo_some {L : List Fil} {x : Fil} (h : Rising Fil.nm L) (hx : x ∈ L) : ptrTo L x.nm = .pointer (some ⟨x.p, 0, none⟩) := by
  unfold ptrTo
  cases hf : L.find? (fun y => y.nm == x.nm) with
  | none =>
    have := List.find?_eq_none.1 hf x hx
    simp at this
  | some y =>
    have h1 := List.find?_some hf
    have h2 := List.mem_of_find?_eq_some hf
    rw [h.one h2 hx (by simpa using h1)]

/-! ### a disk in memory -/
structure FileAt (w : World) (x : Fil) : Prop where
  blk : w.heap[x.p]? = some (.cells #[x.v, .int .i64 x.f.s] 95 (0, 0))
  own : w.ownsRow 0 5 1 x.v x.f.b.length (x.f.b.map (Value.int .u8))
  syn : x.f.s ≤ x.f.b.length
  byt : ∀ y ∈ x.f.b, 0 ≤ y ∧ y < 256
  len : x.f.nm.length ≤ 32
theorem FileAt.keep {Φ : Nat → Prop} {w w' : World} {x : Fil} (h : FileAt w x) (hc : Chg Φ w w') (hp : ¬ Φ x.p) (hv : ∀ g, x.v.ownBlock = some g → ¬ Φ g) : FileAt w' x :=
  ⟨hc.heap h.blk hp, hc.own h.own hv, h.syn, h.byt, h.len⟩
theorem FileAt.row {w : World} {x : Fil} (h : FileAt w x) {g : Nat} (hg : x.v.ownBlock = some g) : ∃ cur, w.heap[g]? = some (.cells cur 5 (0, 0)) := by
  rcases h.own.2 with ⟨e, _⟩ | ⟨g', cap, cur, e, _, hh, _⟩
  · rw [e] at hg; cases hg
  · rw [e] at hg
    obtain rfl : g' = g := by simpa [Value.ownBlock] using hg
    exact ⟨cur, hh⟩
def Apart (x y : Fil) : Prop := x.p ≠ y.p ∧ ∀ g, x.v.ownBlock = some g → y.v.ownBlock ≠ some g
structure DiskL (w : World) (d m : Nat) (room : Int) (L : List Fil) (Φ : Nat → Prop) : Prop where
  blk : w.heap[d]? = some (.cells #[.int .i64 room, .int .i64 (usedN (L.map Fil.f)), .map (some m)] 79 (0, 0))
  map : DMap w m L
  file : ∀ x ∈ L, FileAt w x
  srt : Rising Fil.nm L
  apart : L.Pairwise Apart
  rm : 0 ≤ room ∧ room ≤ 1048576
  used : (usedN (L.map Fil.f) : Int) ≤ room
  inn : Φ d ∧ Φ m ∧ ∀ x ∈ L, Φ x.p ∧ ∀ g, x.v.ownBlock = some g → Φ g
/-- Memory holds a disk at block d: its room, its files; Φ speaks of all its blocks. -/
def DiskAt (w : World) (d : Nat) (room : Int) (S : List RF) (Φ : Nat → Prop) : Prop := ∃ m L, L.map Fil.f = S ∧ DiskL w d m room L Φ

section
variable {w w' : World} {d m : Nat} {room : Int} {L : List Fil} {Φ Ψ : Nat → Prop}
theorem DiskL.mono (h : DiskL w d m room L Φ) (hs : ∀ k, k < w.heap.size → Φ k → Ψ k) : DiskL w d m room L Ψ :=
  ⟨h.blk, h.map, h.file, h.srt, h.apart, h.rm, h.used, hs _ (Array.getElem?_eq_some_iff.1 h.blk).1 h.inn.1, hs _ h.map.lt h.inn.2.1, fun x hx =>
    ⟨hs _ (Array.getElem?_eq_some_iff.1 (h.file x hx).blk).1 (h.inn.2.2 x hx).1, fun g hg => hs _ ((h.file x hx).own.lt g hg).2 ((h.inn.2.2 x hx).2 g hg)⟩⟩
theorem DiskL.keep (h : DiskL w d m room L Φ) (hc : Chg Ψ w w') (hs : ∀ k, Φ k → ¬ Ψ k) : DiskL w' d m room L Φ :=
  ⟨hc.heap h.blk (hs _ h.inn.1), h.map.keep hc (hs _ h.inn.2.1), fun x hx => (h.file x hx).keep hc (hs _ (h.inn.2.2 x hx).1) fun g hg => hs _ ((h.inn.2.2 x hx).2 g hg), h.srt, h.apart, h.rm, h.used, h.inn⟩
theorem DiskL.d_p (h : DiskL w d m room L Φ) {x : Fil} (hx : x ∈ L) : x.p ≠ d := fun e => by
  have h1 := (h.file x hx).blk
  rw [e, h.blk] at h1
  simp at h1
theorem DiskL.m_d (h : DiskL w d m room L Φ) : m ≠ d := fun e => by
  obtain ⟨es, clock, hb, _⟩ := h.map
  rw [e, h.blk] at hb
  cases hb
theorem DiskL.m_p (h : DiskL w d m room L Φ) {x : Fil} (hx : x ∈ L) : x.p ≠ m := fun e => by
  obtain ⟨es, clock, hb, _⟩ := h.map
  rw [← e, (h.file x hx).blk] at hb
  cases hb
theorem DiskL.v_d (h : DiskL w d m room L Φ) {x : Fil} (hx : x ∈ L) : x.v.ownBlock ≠ some d := fun e => by
  obtain ⟨cur, hg⟩ := (h.file x hx).row e
  rw [h.blk] at hg
  simp at hg
theorem DiskL.v_m (h : DiskL w d m room L Φ) {x : Fil} (hx : x ∈ L) : x.v.ownBlock ≠ some m := fun e => by
  obtain ⟨cur, hg⟩ := (h.file x hx).row e
  obtain ⟨es, clock, hb, _⟩ := h.map
  rw [hb] at hg
  cases hg
theorem DiskL.v_p (h : DiskL w d m room L Φ) {x y : Fil} (hx : x ∈ L) (hy : y ∈ L) : x.v.ownBlock ≠ some y.p := fun e => by
  obtain ⟨cur, hg⟩ := (h.file x hx).row e
  rw [(h.file y hy).blk] at hg
  simp at hg
theorem Apart.symm {x y : Fil} (h : Apart x y) : Apart y x := ⟨h.1.symm, fun g hg e => h.2 g e hg⟩
theorem DiskL.two (h : DiskL w d m room L Φ) {x y : Fil} (hx : x ∈ L) (hy : y ∈ L) (hne : x.nm ≠ y.nm) : Apart x y := by
  obtain ⟨i, hi⟩ := List.getElem?_of_mem hx
  obtain ⟨j, hj⟩ := List.getElem?_of_mem hy
  obtain ⟨hi1, rfl⟩ := List.getElem?_eq_some_iff.1 hi
  obtain ⟨hj1, rfl⟩ := List.getElem?_eq_some_iff.1 hj
  rcases Nat.lt_trichotomy i j with h1 | h1 | h1
  · exact List.pairwise_iff_getElem.1 h.apart i j hi1 hj1 h1
  · subst h1; exact absurd rfl hne
  · exact (List.pairwise_iff_getElem.1 h.apart j i hj1 hi1 h1).symm
end
end Go.Proofs.YtnomicnmpllajaaGreatDoor
end
