/- What is proved here: plain lemmas on numbers in base 128, on slices that read as lists, and one law on append. No program is named. -/
import Derived.WalkKit
import Derived.WalkSpells
import Derived.Laws.AppendOwnNone
import Derived.Lib.AppendStr
import Derived.Lib.Hide
namespace Go.Proofs.YtkdncnhjlgidnaaGreatDoor
open Go Go.RowKit

/-- The digits of a number in base 128, the least one first. -/
def enc (n : Nat) : List Int :=
  if n < 128 then [(n : Int)] else ((128 + n % 128 : Nat) : Int) :: enc (n / 128)
termination_by n
decreasing_by omega

theorem enc_small {n : Nat} (h : n < 128) : enc n = [(n : Int)] := by rw [enc, if_pos h]
theorem enc_big {n : Nat} (h : ¬ n < 128) : enc n = ((128 + n % 128 : Nat) : Int) :: enc (n / 128) := by rw [enc, if_neg h]
theorem enc_pos (n : Nat) : 0 < (enc n).length := by
  by_cases h : n < 128
  · rw [enc_small h]; simp
  · rw [enc_big h]; simp
theorem enc_len : ∀ (k n : Nat), n < 128 ^ (k + 1) → (enc n).length ≤ k + 1
  | 0, n, h => by
    have h' : n < 128 := by simpa using h
    rw [enc_small h']; simp
  | k + 1, n, h => by
    by_cases hn : n < 128
    · rw [enc_small hn]; simp
    · rw [enc_big hn]
      have := enc_len k (n / 128) (by
        rw [Nat.div_lt_iff_lt_mul (by omega)]
        calc n < 128 ^ (k + 1 + 1) := h
          _ = 128 ^ (k + 1) * 128 := by rw [Nat.pow_succ])
      simp only [List.length_cons]
      omega
theorem enc_len9 {n : Nat} (h : n ≤ 9223372036854775807) : (enc n).length ≤ 9 := enc_len 8 n (by
  have : (128 : Nat) ^ (8 + 1) = 9223372036854775808 := by decide
  rw [this]; omega)
theorem enc_bytes (n : Nat) : ∀ x ∈ enc n, 0 ≤ x ∧ x < 256 := by
  induction n using Nat.strongRecOn with
  | ind n ih =>
    by_cases h : n < 128
    · rw [enc_small h]
      intro x hx
      simp at hx
      omega
    · rw [enc_big h]
      intro x hx
      rcases List.mem_cons.1 hx with rfl | hx
      · omega
      · exact ih (n / 128) (by omega) x hx
theorem enc_inj : ∀ (n m : Nat) (r s : List Int), enc n ++ r = enc m ++ s → n = m ∧ r = s := by
  intro n
  induction n using Nat.strongRecOn with
  | ind n ih =>
    intro m r s h
    by_cases hn : n < 128 <;> by_cases hm : m < 128
    · rw [enc_small hn, enc_small hm] at h
      simp only [List.cons_append, List.nil_append, List.cons.injEq] at h
      exact ⟨by have h1 := h.1; omega, h.2⟩
    · rw [enc_small hn, enc_big hm] at h
      simp only [List.cons_append, List.nil_append, List.cons.injEq] at h
      have h1 := h.1
      omega
    · rw [enc_big hn, enc_small hm] at h
      simp only [List.cons_append, List.nil_append, List.cons.injEq] at h
      have h1 := h.1
      omega
    · rw [enc_big hn, enc_big hm] at h
      simp only [List.cons_append, List.cons.injEq] at h
      obtain ⟨h1, h2⟩ := ih (n / 128) (by omega) (m / 128) r s h.2
      exact ⟨by omega, h2⟩

/-- The digits of a list of numbers, one behind the other; a negative one counts as 0. -/
def encAll (l : List Int) : List Int := l.flatMap fun x => enc x.toNat
theorem encAll_nil : encAll [] = [] := rfl
theorem encAll_cons (x : Int) (l : List Int) : encAll (x :: l) = enc x.toNat ++ encAll l := rfl
theorem encAll_append (l m : List Int) : encAll (l ++ m) = encAll l ++ encAll m := List.flatMap_append
theorem encAll_snoc (l : List Int) (x : Int) : encAll (l ++ [x]) = encAll l ++ enc x.toNat := by rw [encAll_append, encAll_cons, encAll_nil, List.append_nil]
theorem encAll_len : ∀ l : List Int, (∀ x ∈ l, x ≤ 9223372036854775807) → (encAll l).length ≤ 9 * l.length
  | [], _ => by simp [encAll_nil]
  | x :: l, h => by
    rw [encAll_cons, List.length_append, List.length_cons]
    have h1 := enc_len9 (n := x.toNat) (by have := h x (List.mem_cons_self ..); omega)
    have h2 := encAll_len l fun y hy => h y (List.mem_cons_of_mem _ hy)
    omega
theorem encAll_bytes (l : List Int) : ∀ x ∈ encAll l, 0 ≤ x ∧ x < 256 := by
  intro x hx
  obtain ⟨y, _, hy⟩ := List.mem_flatMap.1 hx
  exact enc_bytes _ x hy
theorem take_snoc (l : List Int) (k : Nat) (h : k < l.length) : l.take (k + 1) = l.take k ++ [l.getD k 0] := by
  rw [List.take_succ_eq_append_getElem h]
  simp [List.getD, List.getElem?_eq_getElem h]

/-- One more digit, laid beside the ones before it. -/
theorem or_digit (i acc : Nat) (d : Int) (hi : i < 9) (hacc : acc < 128 ^ i) (hd : 0 ≤ d ∧ d < 256) :
    bits .or .i64 (acc : Int) (wrap64 (d % 128 * 2 ^ (7 * i))) = ((acc + d.toNat % 128 * 128 ^ i : Nat) : Int) ∧ acc + d.toNat % 128 * 128 ^ i < 128 ^ (i + 1) := by
  obtain ⟨k, hk, hkd⟩ : ∃ k : Nat, k < 128 ∧ d % 128 = (k : Int) := ⟨d.toNat % 128, Nat.mod_lt _ (by omega), by omega⟩
  have hk' : d.toNat % 128 = k := by omega
  rw [hk', hkd]
  have hp : (2 : Int) ^ (7 * i) = ((128 ^ i : Nat) : Int) := by
    rw [Int.pow_mul]
    push_cast
    rfl
  have h8 : 128 ^ i ≤ 128 ^ 8 := Nat.pow_le_pow_right (by omega) (by omega)
  have h88 : (128 : Nat) ^ 8 = 72057594037927936 := by decide
  have hm : k * 128 ^ i ≤ 127 * 128 ^ i := Nat.mul_le_mul_right _ (by omega)
  have hs : 128 ^ (i + 1) = 128 ^ i * 128 := Nat.pow_succ ..
  rw [hp, ← Int.natCast_mul, IntWalk.wrap64_in _ (by omega)]
  refine ⟨?_, by omega⟩
  generalize hq : k * 128 ^ i = q at *
  have hor : acc + q = acc ||| q := by
    have h128 : 128 ^ i = 2 ^ (7 * i) := by rw [Nat.pow_mul]
    rw [← hq, Nat.mul_comm k, h128, Nat.add_comm, Nat.or_comm]
    exact Nat.two_pow_add_eq_or_of_lt (by rw [← h128]; exact hacc) k
  have ha : acc < 9223372036854775808 := by omega
  have hb : q < 9223372036854775808 := by omega
  have ofi : ∀ a : Nat, a < 9223372036854775808 → (BitVec.ofInt 64 (a : Int)).toNat = a := fun a h => by
    rw [BitVec.ofInt_natCast, BitVec.toNat_ofNat]; exact Nat.mod_eq_of_lt (by omega)
  have hlt : acc ||| q < 2 ^ 63 := Nat.or_lt_two_pow (by omega) (by omega)
  show IntKind.i64.wrap ((BitVec.ofInt 64 (acc : Int) ||| BitVec.ofInt 64 (q : Int)).toNat : Int) = _
  rw [BitVec.toNat_or, ofi _ ha, ofi _ hb, IntKind.wrap_i64, hor]
  omega

theorem or_zero (i acc : Nat) (hi : i < 9) (hacc : acc < 128 ^ i) : bits .or .i64 (acc : Int) 0 = (acc : Int) := by
  have h := (or_digit i acc 0 hi hacc (by omega)).1
  have e : wrap64 ((0 : Int) % 128 * 2 ^ (7 * i)) = 0 := by
    rw [show (0 : Int) % 128 = 0 from rfl, Int.zero_mul]
    exact IntWalk.wrap64_in 0 (by omega)
  rw [e] at h
  rw [h]
  simp

/-- The numbers of a text's bytes. -/
def nums (s : ByteArray) : List Int := s.data.toList.map fun b => (b.toNat : Int)
theorem nums_length (s : ByteArray) : (nums s).length = s.size := by unfold nums; rw [List.length_map]; rfl
theorem nums_bytes (s : ByteArray) : ∀ x ∈ nums s, 0 ≤ x ∧ x < 256 := by
  intro x hx
  obtain ⟨b, _, rfl⟩ := List.mem_map.1 hx
  have := b.toNat_lt
  omega
theorem nums_inj {s t : ByteArray} (h : nums s = nums t) : s = t := by
  have h1 : s.data.toList = t.data.toList := by
    refine (List.map_inj_right ?_).1 h
    intro a b hab
    have : a.toNat = b.toNat := by have hab' : (a.toNat : Int) = (b.toNat : Int) := hab; omega
    exact UInt8.toNat_inj.1 this
  have h2 : s.data = t.data := by
    have := congrArg List.toArray h1
    simpa using this
  cases s; cases t; simp at h2; simp [h2]

/-- A slice value that reads as a list of numbers of one kind, at a place below block B. -/
structure Rd (w : World) (B : Nat) (k : IntKind) (A : Option Addr) (n c : Nat) (xs : List Int) : Prop where
  len : xs.length = n
  cap : n ≤ c
  max : c ≤ maxLen
  nil : A = none → n = 0 ∧ c = 0
  place : ∀ j u, xs[j]? = some u → ∃ b o, A = some ⟨b, o, none⟩ ∧ b < B ∧ w.cell? ⟨b, o + j, none⟩ = some (.int k u)

section
variable {w w' : World} {B B' : Nat} {k : IntKind} {A : Option Addr} {n c : Nat} {xs : List Int}

theorem Rd.none_ (w : World) (B : Nat) (k : IntKind) : Rd w B k none 0 0 [] := ⟨rfl, Nat.le_refl _, Nat.zero_le _, fun _ => ⟨rfl, rfl⟩, fun j u h => by simp at h⟩
theorem Rd.keep (h : Rd w B k A n c xs) (hk : ∀ p : Addr, p.block < B → w'.cell? p = w.cell? p) : Rd w' B k A n c xs :=
  ⟨h.len, h.cap, h.max, h.nil, fun j u hu => by
    obtain ⟨b, o, e, hb, hc⟩ := h.place j u hu
    exact ⟨b, o, e, hb, (hk ⟨b, o + j, none⟩ hb).trans hc⟩⟩
theorem Rd.more (h : Rd w B k A n c xs) (hB : B ≤ B') : Rd w B' k A n c xs :=
  ⟨h.len, h.cap, h.max, h.nil, fun j u hu => by
    obtain ⟨b, o, e, hb, hc⟩ := h.place j u hu
    exact ⟨b, o, e, by omega, hc⟩⟩
theorem Rd.below (h : Rd w B k A n c xs) (hb : Below B w w') : Rd w' B k A n c xs := h.keep fun _ hp => hb.cell hp
theorem Rd.alloc (h : Rd w B k A n c xs) (hB : B ≤ w.heap.size) (o : Obj) : Rd (w.alloc o) B k A n c xs := h.below ((Below.refl _ _).alloc hB o)
theorem Rd.news (h : Rd w B k A n c xs) : ∀ ad, A = some ad → ∀ j u, (xs.map (Value.int k))[j]? = some u → w.cell? (ad.add j) = some u := by
  intro ad hA j u hu
  rw [List.getElem?_map] at hu
  obtain ⟨x, hx, rfl⟩ := Option.map_eq_some_iff.1 hu
  obtain ⟨b, o, e, _, hc⟩ := h.place j x hx
  rw [hA] at e
  obtain rfl := Option.some.inj e
  rw [Addr.add_lit]
  exact hc
theorem Rd.cell (h : Rd w B k A n c xs) {j : Nat} (hj : j < n) : ∃ b o, A = some ⟨b, o, none⟩ ∧ b < B ∧ w.cell? ⟨b, o + j, none⟩ = some (.int k (xs.getD j 0)) := by
  have hl : j < xs.length := by rw [h.len]; exact hj
  obtain ⟨b, o, e, hb, hc⟩ := h.place j xs[j] (List.getElem?_eq_getElem hl)
  exact ⟨b, o, e, hb, by rw [hc]; simp [List.getD, List.getElem?_eq_getElem hl]⟩
theorem Rd.of_own {base e : Nat} {v : Value} (h : w.ownsRow base e 1 v n (xs.map (Value.int k))) : ∃ A c, v = .slice A n c ∧ Rd w w.heap.size k A n c xs := by
  have hl : xs.length = n := by have := h.1; simpa using this
  rcases h.2 with ⟨rfl, rfl⟩ | ⟨g, cap, cur, rfl, hb, hg, hnc, hcm, hcs, htake⟩
  · refine ⟨none, 0, rfl, ⟨hl, Nat.le_refl _, Nat.zero_le _, fun _ => ⟨rfl, rfl⟩, fun j u hu => ?_⟩⟩
    obtain rfl : xs = [] := List.eq_nil_of_length_eq_zero hl
    simp at hu
  · refine ⟨some ⟨g, 0, none⟩, cap, rfl, ⟨hl, hnc, hcm, (fun h => by cases h), fun j u hu => ⟨g, 0, rfl, (Array.getElem?_eq_some_iff.1 hg).1, ?_⟩⟩⟩
    have := h.cells (g := g) rfl j (.int k u) (by rw [List.getElem?_map, hu]; rfl)
    rw [Addr.add_lit] at this
    exact this

/-- 'string(b)'. -/
theorem Rd.convert {P : Program} (h : Rd w B .u8 A n c xs) (src e dst : TypeId) (hs : P.underlying src = some (.slice e)) (he : P.underlying e = some (.int .u8)) (hd : P.underlying dst = some .string) :
    (convert src dst (.slice A n c)).run P w = .ok (.string (strOfNums xs)) w := by
  by_cases hn : n = 0
  · obtain rfl : xs = [] := List.eq_nil_of_length_eq_zero (by rw [h.len]; exact hn)
    subst hn
    rcases A with _ | ad
    · exact run_convert_bytes_nil w src e hs he _ c dst hd
    · rw [run_convert_bytes_string w src dst e _ 0 c hs he hd]
      rw [run_bytesToString w ad 0 c [] (by simp [loadCells, loadCellsFrom])]
      rfl
  · obtain ⟨b, o, rfl, _⟩ := h.cell (j := 0) (by omega)
    refine run_convert_bytes_arg w src e hs he b o n c xs h.len (fun i hi => ?_) dst hd
    obtain ⟨b', o', e', _, hc⟩ := h.cell (j := i) hi
    obtain ⟨rfl, rfl⟩ : b = b' ∧ o = o' := by simpa using e'
    exact hc
end

theorem strOfNums_eq {xs ys : List Int} (hx : ∀ x ∈ xs, 0 ≤ x ∧ x < 256) (hy : ∀ x ∈ ys, 0 ≤ x ∧ x < 256) (h : strOfNums xs = strOfNums ys) : xs = ys := by
  have h1 : (strOfNums xs).data.toList = (strOfNums ys).data.toList := by rw [h]
  rw [strOfNums_data, strOfNums_data] at h1
  clear h
  induction xs generalizing ys with
  | nil =>
    cases ys with
    | nil => rfl
    | cons y ys => simp at h1
  | cons x xs ih =>
    cases ys with
    | nil => simp at h1
    | cons y ys =>
      simp only [List.map_cons, List.cons.injEq] at h1
      have hx0 := hx x (List.mem_cons_self ..)
      have hy0 := hy y (List.mem_cons_self ..)
      have e : x.toNat % 256 = y.toNat % 256 := by
        have := congrArg UInt8.toNat h1.1
        simpa [UInt8.toNat_ofNat'] using this
      rw [show x = y by omega, ih (fun z hz => hx z (List.mem_cons_of_mem _ hz)) (fun z hz => hy z (List.mem_cons_of_mem _ hz)) h1.2]

theorem news_new (w : World) (u : Value) (t : TypeId) : ∀ ad, some (⟨w.heap.size, 0, none⟩ : Addr) = some ad → ∀ j x, [u][j]? = some x → (w.alloc (.cells #[u] t)).cell? (ad.add j) = some x := by
  intro ad had j x hx
  obtain rfl := Option.some.inj had
  rcases j with _ | j
  · rw [Addr.add_lit, cell_of_row _ _ _ _ _ _ (heap_alloc_new w _)]
    simpa using hx
  · simp at hx
theorem one_cell (k : IntKind) (n : Int) : ∀ u ∈ [Value.int k n], u.oneCell' = true := by
  intro u hu
  simp at hu
  subst hu
  rfl

section
variable {P : Program} {w : World}
/-- 'append' to a row of the call's own, whatever slice stands behind it: nil, empty, or not. -/
theorem wpList_append_src {ops : Array Oper} {rest : List Oper} {o : Oper} {a : Act} {Q : Exit → Act → World → Prop} (hgd : o.guard = none) (s x : Operand) (t : TypeId)
    (ho : o.op = .call { callee := .builtin .append, args := #[s, x], argTypes := #[t, t] })
    (base : Nat) (e : TypeId) (i : TypeInfo) (z : Value) (size bytes : Nat) (ht : P.underlying t = some (.slice e)) (hi : P.info? e = some i) (hz : i.zero = some z)
    (hsize : i.size = size) (hby : i.bytes = bytes) (hzs : z.cells.size = size) (hsz : 0 < size)
    (v : Value) (n : Nat) (xs : List Value) (hs : a.eval s = v) (hown : w.ownsRow base e size v n xs)
    (A : Option Addr) (m c : Nat) (news : List Value) (hx : a.eval x = .slice A m c) (hl : news.length = m * size) (hnil : A = none → m = 0 ∧ c = 0)
    (hnews : ∀ ad, A = some ad → ∀ j u, news[j]? = some u → w.cell? (ad.add j) = some u) (h1 : ∀ u ∈ news, u.oneCell' = true)
    (h63 : n + m ≤ maxLen) (hbytes : (n + m) * bytes ≤ 140737488355328) (hbase : base ≤ w.heap.size)
    (h : ∀ v' w', w'.ownsRow base e size v' (n + m) (xs ++ news) → w.grownBy w' v.ownBlock → wpList P ops Q rest (a.put o.dst v') w') : wpList P ops Q (o :: rest) a w := by
  rcases A with _ | ad
  · obtain ⟨rfl, rfl⟩ := hnil rfl
    have hn : news = [] := List.eq_nil_of_length_eq_zero (by simpa using hl)
    subst hn
    refine wpList_plain hgd fun K hK' => ?_
    have hrun := run_append_owned_none (P := P) w base t o.type e i size ht hi v n xs hown
    unfold Oper.wp
    simp [execOp, ho, resolve, invoke, builtin, hs, hx, hrun, Result.andThen]
    exact hK' _ _ (h v w (by simpa using hown) (World.grownBy.refl _ _))
  · exact wpList_append_own w hgd s x t ho base e i z size bytes ht hi hz hsize hby hzs hsz v n xs hs hown ad m c news hx hl (hnews ad rfl) h1 h63 hbytes hbase
      fun v' w' h2 h3 _ => h v' w' h2 h3
end
end Go.Proofs.YtkdncnhjlgidnaaGreatDoor
