/- What is proved here: Open, on a disk without a snapshot whose segments stand one behind the other. -/
/- What is proved here: what frame.Next answers, where the frame's bytes are a row of the call's own. -/
/- What is proved here: what readSnap does of a snapshot that a log has written. -/
/- What is proved here: Open, on a disk with a snapshot, whose segments stand one behind the other. -/
import Derived.Test.YtnomicnmpllajaaGreatDoorPFu15
import Derived.Lib.SmallJoins
import Derived.Test.YtnomicnmpllajaaGreatDoorPFu4
import Derived.Test.YtnomicnmpllajaaGreatDoorPFu8
section
namespace Go.Proofs.YtnomicnmpllajaaGreatDoor
open Go Go.RowKit

section
variable {w0 w w' : World} {Kp : Nat → Prop} {lb d : Nat} {R : Int} {S : List RF} {M : LogM} {V : LogV}
/-- The log that Open makes. -/
def openM (n B : Nat) (shot : List Int) (P : List SegF) : LogM := ⟨n, segsP P, B, shot, recsP B P, B + (recsP B P).length⟩
def OpenSaid (w0 : World) (Kp : Nat → Prop) (d : Nat) (R : Int) (S' : List RF) (M' : LogM) (w : World) (e : Ending) (w' : World) : Prop :=
  ∃ lb, e = .returned (.tuple #[.pointer (some ⟨lb, 0, none⟩), .nilIface]) ∧ Hid (∃ V', WPair w0 Kp lb d R S' M' V' w' ∧ Kept Kp w w')
set_option maxHeartbeats 1600000 in
set_option maxRecDepth 100000 in
theorem Open_segs {Φ : Nat → Prop} (hb : Below w0.heap.size w0 w) (hd : DiskAt w d R S Φ) (hΦ : ∀ k, Φ k → w0.heap.size ≤ k ∧ ¬ Kp k ∧ k < w.heap.size) (hKp : ∀ k, Kp k → k < w.heap.size) (ht : Tab w0) (n : Nat) (h1 : 16 ≤ n) (h2 : n ≤ 65536)
    (hsn : findN S snapN = none) (hS : S.length ≤ 1000000) {P : List SegF} (hP : SegsAt S 0 P) (hn : P.length < 1000000) (hrec : (P.flatMap SegF.l).length ≤ 1000000) (hfb : ∀ f ∈ S, f.b.length ≤ 1000000) :
    Calls Tryz.prog 15 #[.pointer (some ⟨d, 0, none⟩), .int .i64 n] w (OpenSaid w0 Kp d R (settleF S (segsP P)) (openM n 0 [] P) w) := by
  obtain ⟨h3, h4⟩ := WPair.fresh hb hd hΦ hKp n
  have HS : Hid (Calls Tryz.prog 42 #[.pointer (some ⟨w.heap.size, 0, none⟩)] (w.alloc (.cells (newCells d n) 82)) fun e w2 => e = .returned (.int .i64 0) ∧
      Hid (Calls Tryz.prog 43 #[.pointer (some ⟨w.heap.size, 0, none⟩)] w2 fun e w3 => e = .returned (.tuple #[.string ⟨#[]⟩, .int .i64 0]) ∧
      Hid (Calls Tryz.prog 44 #[.pointer (some ⟨w.heap.size, 0, none⟩)] w3 fun e w4 => e = .returned (.tuple #[]) ∧ Hid (∃ V', WPair w0 Kp w.heap.size d R (settleF S (segsP P)) (openM n 0 [] P) V' w4 ∧ Kept Kp w w4)))) := Lib.hid (by
    refine (readSnap_none h3 hsn).mono ?_
    rintro e w2 ⟨rfl, h5, b5⟩
    refine ⟨rfl, Lib.hid ?_⟩
    have b2 : Below w.heap.size w w2 := h4.trans (b5.mono h4.size)
    have hK2 : ∀ k, Kp k → k < w2.heap.size := fun k h => Nat.lt_of_lt_of_le (hKp k h) b2.size
    refine (readSegments_any h5 hK2 ht (newM_ok h2) ⟨rfl, rfl⟩ hS hP hn hrec hfb).mono ?_
    rintro e w3 ⟨rfl, V3, h6, k6⟩
    refine ⟨rfl, Lib.hid ?_⟩
    have k3 : Kept Kp w w3 := (Kept.of_below b2 hKp).trans k6
    have hok : LogOk (segM (newM n) P P.length) := segM_ok (newM_ok h2) hP (by omega) hrec hfb
    refine (settle_any h6 (fun k h => Nat.lt_of_lt_of_le (hKp k h) k3.2) ht hok).mono ?_
    rintro e w4 ⟨rfl, h7, k7⟩
    refine ⟨rfl, Lib.hid ⟨V3, ?_, k3.trans k7⟩⟩
    have e1 : segM (newM n) P P.length = ⟨n, segsP P, 0, [], recsP 0 P, 0⟩ := by
      unfold segM newM
      simp only [List.take_length]
    rw [e1] at h7
    exact h7)
  have d1 : decide ((n : Int) < 16) = false := decide_eq_false (by omega)
  have d2 : decide ((65536 : Int) < n) = false := decide_eq_false (by omega)
  unfold newCells at HS
  clear h3 h4 hb hd hΦ hKp h1 h2 ht hsn hS hP hn hrec hfb
  go_enter Tryz.func15, Tryz.ntmps15
  go_wp2_with (first
    | (go_at_call 42; refine HS.out.mono ?_; rintro e w2 ⟨rfl, HG⟩)
    | (go_at_call 43; refine HG.out.mono ?_; rintro e w3 ⟨rfl, HT⟩)
    | (go_at_call 44; refine HT.out.mono ?_; rintro e w4 ⟨rfl, HW⟩))
  go_ret2
  exact ⟨_, rfl, HW⟩
end
end Go.Proofs.YtnomicnmpllajaaGreatDoor
end

section
namespace Go.Proofs.YtnomicnmpllajaaGreatDoor
open Go Go.RowKit Go.Lib

/-- What 'Next' answers. -/
def NextOwn (w : World) (xs : List Int) (e : Ending) (w' : World) : Prop :=
  Below w.heap.size w w' ∧ ((whyF xs ≠ 0 ∧ e = .returned (.tuple #[.slice none 0 0, .slice none 0 0, .int .i64 (whyF xs)])) ∨
    (whyF xs = 0 ∧ 6 + sizeF xs ≤ xs.length ∧ ∃ A1 c1 A2 c2, e = .returned (.tuple #[.slice A1 (sizeF xs) c1, .slice A2 (xs.length - (6 + sizeF xs)) c2, .int .i64 0]) ∧
      w'.ownsRow w.heap.size 5 1 (.slice A1 (sizeF xs) c1) (sizeF xs) (((xs.drop 6).take (sizeF xs)).map (Value.int .u8)) ∧ Rd w' w'.heap.size .u8 A2 (xs.length - (6 + sizeF xs)) c2 (xs.drop (6 + sizeF xs))))

set_option maxHeartbeats 1600000 in
set_option maxRecDepth 100000 in
theorem Next_own (A : Option Addr) (n c : Nat) (xs : List Int) (w : World) (h : Rd w w.heap.size .u8 A n c xs) (hx : ∀ x ∈ xs, 0 ≤ x ∧ x < 256) (hn2 : n ≤ 1000000) :
    Calls Tryz.prog 78 #[.slice A n c] w (NextOwn w xs) := by
  have hm := h.max
  have hc := h.cap
  unfold maxLen at hm
  have HL := Lib.hid h.len
  have HF := Lib.hid (first_any A n c xs w h hx hn2)
  clear hx
  go_enter Tryz.func78, Tryz.ntmps78
  go_wp2_with fail
  refine HF.out.mono ?_
  rintro e w1 ⟨hb1, ⟨hw, rfl⟩ | ⟨hw, A1, c1, rfl, hr1, hle⟩⟩
  · have HW := Lib.hid hw
    have hwb : (((whyF xs : Nat) : Int) != 0) = true := by rw [bne_iff_ne]; omega
    clear hw
    generalize hq : whyF xs = q at *
    have HQ := Lib.hid hq
    clear hq
    go_wp2_with fail
    go_ret3
    have hq := HQ.out
    subst hq
    exact ⟨hb1, .inl ⟨HW.out, rfl⟩⟩
  · have HW := Lib.hid hw
    clear hw
    have hlt6 : 6 ≤ n := by omega
    obtain ⟨b, o, rfl, _⟩ := h.cell (j := 0) (by omega)
    have hr0 := h.below hb1
    have hone : ∀ V, Below w1.heap.size w1 V → Calls Tryz.prog 55 #[.slice A1 (sizeF xs) c1] V fun e w' => ∃ A c, e = .returned (.slice A (sizeF xs) c) ∧ w'.ownsRow V.heap.size 5 1 (.slice A (sizeF xs) c) (sizeF xs) (((xs.drop 6).take (sizeF xs)).map (Value.int .u8)) ∧ Below V.heap.size V w' := fun V hV => by
      refine (Clone_any _ _ _ _ V ((hr1.below (hV.mono hb1.size)).more (by have := hV.size; have := hb1.size; omega)) (by omega)).mono ?_
      rintro e w' ⟨v, rfl, hown, hb⟩
      obtain ⟨A, c, rfl, hr⟩ := Rd.of_own hown
      exact ⟨A, c, rfl, hown, hb⟩
    have htwo : ∀ V A2 m2 c2, Rd w1 w.heap.size .u8 A2 m2 c2 (xs.drop (6 + sizeF xs)) → m2 ≤ n → Below w1.heap.size w1 V → Calls Tryz.prog 55 #[.slice A2 m2 c2] V fun e w' => ∃ A c, e = .returned (.slice A m2 c) ∧ Rd w' w'.heap.size .u8 A m2 c (xs.drop (6 + sizeF xs)) ∧ Below V.heap.size V w' := fun V A2 m2 c2 hr2 hm2 hV => by
      refine (Clone_any _ _ _ _ V ((hr2.below (hV.mono hb1.size)).more (by have := hV.size; have := hb1.size; omega)) (by omega)).mono ?_
      rintro e w' ⟨v, rfl, hown, hb⟩
      obtain ⟨A, c, rfl, hr⟩ := Rd.of_own hown
      exact ⟨A, c, rfl, hr, hb⟩
    have H1 := Lib.hid hone
    have H2 := Lib.hid htwo
    have hNi : ((6 : Int) + (sizeF xs : Nat)) ≤ n := by omega
    clear hone htwo hr1 h
    by_cases hcN : c = 6 + sizeF xs
    · have hnN : n = 6 + sizeF xs := by omega
      have h0 : xs.drop (6 + sizeF xs) = [] := List.drop_of_length_le (by rw [HL.out]; omega)
      have H0 := Lib.hid h0
      have HR2 : Hid (Rd w1 w.heap.size .u8 (some ⟨b, o, none⟩) 0 0 (xs.drop (6 + sizeF xs))) := Lib.hid (by rw [h0]; exact Rd.empty _)
      clear h0 hr0
      generalize hN : sizeF xs = N at *
      have HN := Lib.hid hN
      clear hN
      subst hcN
      subst hnN
      go_wp2_with fail
      go_region_with (first
        | (go_at_call_of 55 (Value.slice A1 N c1); refine (H1.out _ ((Below.refl _ _).drew)).mono ?_; rintro e wa ⟨Aa, ca, rfl, hra, hba⟩)
        | (go_at_call_of 55 (Value.slice (some ⟨b, o, none⟩) 0 0); refine (H2.out wa _ _ _ HR2.out (by omega) (((Below.refl _ _).drew).trans hba)).mono ?_; rintro e wb ⟨Ab, cb, rfl, hrb, hbb⟩))
      all_goals
        go_wp2_with fail
        go_ret3
        have hN := HN.out
        subst hN
        have hl := HL.out
        refine ⟨hb1.trans ((((Below.refl _ _).drew).trans (hba.trans (hbb.mono hba.size))).mono hb1.size), .inr ⟨HW.out, by omega, Aa, ca, Ab, cb, ?_, Go.Joins.ownsRow_le (own_below hra hbb) (by have := hb1.size; simpa using this), ?_⟩⟩
        · rw [show xs.length - (6 + sizeF xs) = 0 by omega]; rfl
        · rw [show xs.length - (6 + sizeF xs) = 0 by omega]; exact hrb
    · have HR2 := Lib.hid (hr0.drop hle)
      clear hr0
      generalize hN : sizeF xs = N at *
      have HN := Lib.hid hN
      clear hN
      go_wp2_with fail
      go_region_with (first
        | (go_at_call_of 55 (Value.slice A1 N c1); refine (H1.out _ ((Below.refl _ _).drew)).mono ?_; rintro e wa ⟨Aa, ca, rfl, hra, hba⟩)
        | (go_at_call 55; refine (H2.out wa _ _ _ HR2.out (by omega) (((Below.refl _ _).drew).trans hba)).mono ?_; rintro e wb ⟨Ab, cb, rfl, hrb, hbb⟩))
      all_goals
        go_wp2_with fail
        go_ret3
        have hN := HN.out
        subst hN
        have hl := HL.out
        subst hl
        exact ⟨hb1.trans ((((Below.refl _ _).drew).trans (hba.trans (hbb.mono hba.size))).mono hb1.size), .inr ⟨HW.out, hle, Aa, ca, Ab, cb, rfl, Go.Joins.ownsRow_le (own_below hra hbb) (by have := hb1.size; simpa using this), hrb⟩⟩
end Go.Proofs.YtnomicnmpllajaaGreatDoor
end

section
namespace Go.Proofs.YtnomicnmpllajaaGreatDoor
open Go Go.RowKit

theorem numF_enc : ∀ (f i acc v : Nat) (r : List Int), v < 128 ^ (f + 1) → (i = 0 ∨ 0 < v) → numF (f + 1) i acc (enc v ++ r) = (acc + v * 128 ^ i, i + (enc v).length, 0) := by
  intro f
  induction f with
  | zero =>
    intro i acc v r hv hi
    have hv' : v < 128 := by simpa using hv
    rw [enc_small hv', List.singleton_append, numF_last _ _ _ _ _ (by omega) (by omega)]
    rw [Int.toNat_natCast, Nat.mod_eq_of_lt hv']
    rfl
  | succ f ih =>
    intro i acc v r hv hi
    by_cases hv' : v < 128
    · rw [enc_small hv', List.singleton_append, numF_last _ _ _ _ _ (by omega) (by omega)]
      rw [Int.toNat_natCast, Nat.mod_eq_of_lt hv']
      rfl
    · rw [enc_big hv', List.cons_append, numF_on _ _ _ _ _ (by omega)]
      have hq : v / 128 < 128 ^ (f + 1) := by
        rw [Nat.div_lt_iff_lt_mul (by omega)]
        rw [Nat.pow_succ] at hv
        exact hv
      rw [ih (i + 1) _ (v / 128) r hq (.inr (by omega))]
      rw [Int.toNat_natCast]
      have h1 : (128 + v % 128) % 128 = v % 128 := by omega
      rw [h1]
      have h2 : v % 128 * 128 ^ i + v / 128 * 128 ^ (i + 1) = v * 128 ^ i := by
        rw [Nat.pow_succ, Nat.mul_comm (128 ^ i) 128, ← Nat.mul_assoc, ← Nat.add_mul]
        congr 1
        omega
      rw [Nat.add_assoc, h2, List.length_cons]
      congr 2
      omega

theorem numF_enc9 (v : Nat) (r : List Int) (hv : v ≤ 9223372036854775807) : numF 9 0 0 (enc v ++ r) = (v, (enc v).length, 0) := by
  have h := numF_enc 8 0 0 v r (by have : (128 : Nat) ^ (8 + 1) = 9223372036854775808 := by decide
                                   rw [this]; omega) (.inl rfl)
  rw [h]
  simp

section
variable {w0 w w8 w9 w' : World} {Kp : Nat → Prop} {lb d : Nat} {R : Int} {S : List RF} {M : LogM} {V : LogV}
/-- Bytes in new blocks are the log's now. -/
theorem WPair.setShotB (h : WPair w0 Kp lb d R S M V w8) (hKp : ∀ k, Kp k → k < w8.heap.size) (hb9 : Below w8.heap.size w8 w9) {A : Option Addr} {c : Nat} {xs : List Int} (hby9 : Byt w9 (fun i => w8.heap.size ≤ i ∧ i < w9.heap.size) A c xs) :
    WPair w0 Kp lb d R S { M with shot := xs } { V with tA := A, tC := c } (w9.setCell ⟨lb, 4, none⟩ (.slice A xs.length c)) ∧ Kept Kp w8 (w9.setCell ⟨lb, 4, none⟩ (.slice A xs.length c)) := by
  obtain ⟨Φ, Λ, hlog, hd, ha, hK⟩ := h.ex
  have hlog9 := hlog.later hb9
  have hs9 := hb9.size
  obtain ⟨Λ', hΛ'⟩ : ∃ Λ' : Nat → Prop, Λ' = fun i => Λ i ∨ (w8.heap.size ≤ i ∧ i < w9.heap.size) := ⟨_, rfl⟩
  have hΛ : ∀ i, i < w9.heap.size → Λ i → Λ' i := fun i _ h1 => by rw [hΛ']; exact .inl h1
  have hby : Byt w9 Λ' A c xs := hby9.mono fun i _ h1 => by rw [hΛ']; exact .inr h1
  have hlogN := hlog9.setShot hby hΛ
  have hc2 : Chg (fun i => i = lb) w9 (w9.setCell ⟨lb, 4, none⟩ (.slice A xs.length c)) := Chg.set _ _ _ _
  have hcs := hc2.size
  have hlbΛ := hlog.inn.1
  have hb0 := h.below.size
  refine ⟨⟨h.below.trans ((hb9.mono hb0).trans (hc2.below (by omega) fun i hi => by rw [hi]; exact (hK _ (.inr hlbΛ)).1)), Φ, Λ', hlogN, (hd.later hb9).keep hc2 fun i h1 e => ?_, fun i h1 h2 => ?_, fun i hi => ?_⟩, fun i hi => ?_, by omega⟩
  · have e' : i = lb := e
    rw [e'] at h1
    exact ha _ h1 hlbΛ
  · rw [hΛ'] at h2
    rcases h2 with h2 | h2
    · exact ha i h1 h2
    · have := (hK i (.inl h1)).2.2
      omega
  · rcases hi with hi | hi
    · exact ⟨(hK i (.inl hi)).1, (hK i (.inl hi)).2.1, by have := (hK i (.inl hi)).2.2; omega⟩
    · rw [hΛ'] at hi
      rcases hi with hi | hi
      · exact ⟨(hK i (.inr hi)).1, (hK i (.inr hi)).2.1, by have := (hK i (.inr hi)).2.2; omega⟩
      · exact ⟨by omega, fun h9 => by have := hKp i h9; omega, by omega⟩
  · rw [Below.heap_setCell _ _ _ _ fun e => (hK _ (.inr hlbΛ)).2.1 (by have e' : i = lb := e; rw [← e']; exact hi)]
    exact hb9.block i (hKp i hi)
/-- What is behind a place of a row of the call's own. -/
theorem byt_drop {B n c p : Nat} {A : Option Addr} {ys : List Int} (ho : w9.ownsRow B 5 1 (.slice A n c) n (ys.map (Value.int .u8))) (hn : ys.length = n) (hx : ∀ x ∈ ys, 0 ≤ x ∧ x < 256) (hl : n ≤ 1048576) (hp : p ≤ n) (h0 : 0 < n) :
    ∃ b, A = some ⟨b, 0, none⟩ ∧ n ≤ c ∧ c ≤ 9223372036854775807 ∧ Byt w9 (fun i => B ≤ i ∧ i < w9.heap.size) (if c = p then some ⟨b, 0, none⟩ else some ⟨b, p, none⟩) (c - p) (ys.drop p) := by
  have hby : Byt w9 (fun i => B ≤ i ∧ i < w9.heap.size) A c ys := Byt.of_new (Φ := fun _ => False) ho hn hx hl (Chg.of_below (Below.refl _ _)) (fun _ _ h => h) fun i h1 h2 => ⟨h1, h2⟩
  rcases ho.2 with ⟨_, e2⟩ | ⟨g, cap, cur, e1, _, _, h4, h5, _⟩
  · omega
  · obtain ⟨rfl, _, rfl⟩ := Value.slice.inj e1
    unfold maxLen at h5
    refine ⟨g, rfl, h4, by omega, ?_⟩
    have hrd := hby.rd
    rw [hn] at hrd
    have hdr := hrd.drop hp
    rw [Nat.zero_add] at hdr
    refine ⟨?_, fun a e => ?_, fun x hx2 => hx x (List.mem_of_mem_drop hx2), by rw [List.length_drop]; omega⟩
    · rw [List.length_drop, hn]
      split
      · rename_i h
        have h6 : p = n := by omega
        subst h6
        rw [List.drop_of_length_le (by omega), h, Nat.sub_self]
        exact ⟨rfl, Nat.le_refl _, Nat.zero_le _, (fun e => by cases e), fun j u hu => by simp at hu⟩
      · exact hdr
    · obtain ⟨h7, h8⟩ := hby.inn _ rfl
      split at e
      · cases e; exact ⟨h7, h8⟩
      · cases e; exact ⟨h7, h8⟩
def SnapRead (w0 : World) (Kp : Nat → Prop) (lb d : Nat) (R : Int) (S : List RF) (M : LogM) (k : Nat) (xs : List Int) (w w' : World) : Prop := ∃ V', WPair w0 Kp lb d R S { M with base := k, shot := xs } V' w' ∧ Kept Kp w w'
/-- The calls of readSnap, one behind the other. -/
theorem snap_calls (h : WPair w0 Kp lb d R S M V w) {f : RF} (hf : findN S snapN = some f) {k m : Nat} {xs : List Int} (hfb : f.b = sealF (enc k ++ xs)) (hk : k < 100000000) (hx : ∀ x ∈ enc k ++ xs, 0 ≤ x ∧ x < 256) (hm : m = (enc k ++ xs).length) (hl : m ≤ 4096) :
    Calls Tryz.prog 41 #[.pointer (some ⟨d, 0, none⟩), .string ⟨#[115, 110, 97, 112]⟩] w fun e w2 => ∃ A n c, e = .returned (.tuple #[.slice A n c, .int .i64 0]) ∧ Hid (Calls Tryz.prog 78 #[.slice A n c] w2 fun e w3 => ∃ A1 c1 A2 c2, e = .returned (.tuple #[.slice A1 m c1, .slice A2 0 c2, .int .i64 0]) ∧
      Hid (Calls Tryz.prog 79 #[.slice A1 m c1] w3 fun e w4 => ∃ g, e = .returned (.pointer (some ⟨g, 0, none⟩)) ∧ w.heap.size ≤ g ∧ Hid (Calls Tryz.prog 80 #[.pointer (some ⟨g, 0, none⟩)] w4 fun e w5 => e = .returned (.int .i64 k) ∧
        Hid (∃ A' c', Rdr w5 g A' m c' (enc k ++ xs) (enc k).length 0 ∧ w5.ownsRow w.heap.size 5 1 (.slice A1 m c1) m ((enc k ++ xs).map (Value.int .u8)) ∧ Below w.heap.size w w5)))) := by
  refine (h.dread ⟨#[115, 110, 97, 112]⟩ (by show (4 : Nat) ≤ maxLen; unfold maxLen; omega)).mono ?_
  rintro e w2 ⟨hb2, h1⟩
  have hf' : findN S (ByteArray.mk #[115, 110, 97, 112]).data.toList = some f := hf
  rcases h1 with ⟨h2, _⟩ | ⟨f', A, c, h2, rfl, ho⟩
  · rw [hf'] at h2; cases h2
  rw [hf'] at h2
  obtain rfl := Option.some.inj h2
  refine ⟨A, f.b.length, c, rfl, Lib.hid ?_⟩
  obtain ⟨A', c', e1, hrd⟩ := Rd.of_own ho
  cases e1
  have hyl : (enc k ++ xs).length ≤ 4096 := by omega
  have hfl : f.b.length = 6 + m := by
    have h6 := seal_drop6 (enc k ++ xs) []
    rw [List.append_nil, List.append_nil] at h6
    have h7 := congrArg List.length h6
    rw [List.length_drop, ← hm] at h7
    rw [hfb]
    have h8 : 6 ≤ (sealF (enc k ++ xs)).length := by
      unfold sealF
      rw [List.length_append, List.length_append, headF_length, lowB_length]
      omega
    omega
  have hby : ∀ x ∈ f.b, 0 ≤ x ∧ x < 256 := by
    obtain ⟨Φ, Λ, _, hd, _⟩ := h.ex
    exact hd.file (findN_mem hf).1
  have hwhy : whyF f.b = 0 := by
    have := seal_why hyl hx []
    rwa [List.append_nil, ← hfb] at this
  have hsz : sizeF f.b = m := by
    have := seal_size (xs := enc k ++ xs) (by omega) []
    rw [List.append_nil, ← hfb] at this
    rw [this, hm]
  have hbody : (f.b.drop 6).take (sizeF f.b) = enc k ++ xs := by
    have := seal_body (xs := enc k ++ xs) (by omega) []
    rwa [List.append_nil, ← hfb] at this
  refine (Next_own A f.b.length c f.b w2 hrd hby (by omega)).mono ?_
  rintro e w3 ⟨hb3, ⟨hw, _⟩ | ⟨_, _, A1, c1, A2, c2, rfl, ho1, _⟩⟩
  · exact absurd hwhy hw
  rw [hsz, hfl, show 6 + m - (6 + m) = 0 by omega]
  rw [hbody, hsz] at ho1
  refine ⟨A1, c1, A2, c2, rfl, Lib.hid ?_⟩
  have hb23 : Below w.heap.size w w3 := hb2.trans (hb3.mono hb2.size)
  obtain ⟨A', c', e1, hrd1⟩ := Rd.of_own ho1
  cases e1
  refine (Of_any A1 m c1 (enc k ++ xs) w3 hrd1 (by omega)).mono ?_
  rintro e w4 ⟨g, Ag, cg, rfl, hg, hrdr, hb4⟩
  refine ⟨g, rfl, by have := hb23.size; omega, Lib.hid ?_⟩
  have hgn : goNum (enc k ++ xs) 0 0 = (k, (enc k).length, 0) := by
    unfold goNum
    rw [if_pos rfl, List.drop_zero, numF_enc9 k xs (by omega), if_pos rfl, Nat.zero_add]
  refine (ReaderNum_any g Ag m cg (enc k ++ xs) 0 0 w4 hrdr (.inl rfl) hx (by omega) (Nat.zero_le _)).mono ?_
  rintro e w5 ⟨rfl, hr5, hg5⟩
  rw [hgn] at hr5 ⊢
  have hs23 := hb23.size
  have hs2 := hb2.size
  have hs4 := hb4.size
  refine ⟨rfl, Lib.hid ⟨Ag, cg, hr5, ?_, ?_⟩⟩
  · have ho4 := own_below ho1 hb4
    have ho5 := (Chg.of_grown hg5).own ho4 fun q hq e => by
      have h5 := (ho1.lt q hq).2
      have := Option.some.inj e
      omega
    exact Go.Joins.ownsRow_le ho5 (by omega)
  · exact (hb23.trans (hb4.mono hs23)).trans ((Chg.of_grown hg5).below (by omega) fun q e => by have := Option.some.inj e; omega)
set_option maxHeartbeats 6400000 in
set_option maxRecDepth 100000 in
theorem readSnap_some (h : WPair w0 Kp lb d R S M V w) (hKp : ∀ k, Kp k → k < w.heap.size) {f : RF} (hf : findN S snapN = some f) {k : Nat} {xs : List Int} (hfb : f.b = sealF (enc k ++ xs)) (hk : k < 100000000) (hx : ∀ x ∈ enc k ++ xs, 0 ≤ x ∧ x < 256) (hl : (enc k ++ xs).length ≤ 4096) :
    Calls Tryz.prog 42 #[.pointer (some ⟨lb, 0, none⟩)] w fun e w' => e = .returned (.int .i64 0) ∧ SnapRead w0 Kp lb d R S M k xs w w' := by
  obtain ⟨_, l0, _⟩ := h.cells
  obtain ⟨m, hm⟩ : ∃ m, m = (enc k ++ xs).length := ⟨_, rfl⟩
  rw [← hm] at hl
  have HC := Lib.hid (snap_calls h hf hfb hk hx hm hl)
  have HW := Lib.hid h; have HKP := Lib.hid hKp; have HX := Lib.hid hx; have HM := Lib.hid hm
  obtain ⟨p, hp⟩ : ∃ p, p = (enc k).length := ⟨_, rfl⟩
  rw [← hp] at HC
  have HP := Lib.hid hp
  have hpm : p ≤ m := by rw [hp, hm, List.length_append]; omega
  have HI := Lib.hid fun W => isNum_any 0 6 W
  have HE := Lib.hid (fun g A n c xs p W hr => Err_fine g A n c xs p W hr)
  have dk : decide ((100000000 : Int) ≤ (k : Int)) = false := decide_eq_false (by omega)
  have dk2 : ¬ (100000000 : Int) ≤ (k : Int) := by omega
  clear h hKp hf hfb hx hm hp
  go_enter Tryz.func42, Tryz.ntmps42
  go_upto_region 9 with (first
    | (go_at_call 41; refine HC.out.mono ?_; rintro e w2 ⟨A, n, c, rfl, HN⟩; clear l0)
    | (go_at_call 35; refine (HI.out _).mono ?_; rintro e w2b ⟨rfl, rfl⟩)
    | (go_at_call 78; refine HN.out.mono ?_; rintro e w3 ⟨A1, c1, A2, c2, rfl, HO⟩)
    | (go_at_call 79; refine HO.out.mono ?_; rintro e w4 ⟨g, rfl, hgw, HU⟩)
    | (go_at_call 80; refine HU.out.mono ?_; rintro e w5 ⟨rfl, HG⟩))
  obtain ⟨Ag, cg, hr5, ho5, hb5⟩ := HG.out
  have HG1 := Lib.hid hgw
  clear hgw
  have HR5 := Lib.hid hr5; have HO5 := Lib.hid ho5; have HB5 := Lib.hid hb5
  clear hr5 ho5 hb5 HG HC HN HO HU HI
  go_upto_region 11 with (go_at_call 81; refine (HE.out _ _ _ _ _ _ _ HR5.out).mono ?_; rintro e w6 ⟨rfl, rfl⟩)
  have hm0 : 0 < m := by
    have h1 : 0 < (enc k).length := by
      by_cases h : k < 128
      · rw [enc_small h]; exact Nat.one_pos
      · rw [enc_big h]; exact Nat.succ_pos _
    have := HP.out
    omega
  obtain ⟨b, hA1, hmc, hcm, _⟩ := byt_drop HO5.out HM.out.symm HX.out (by omega) hpm hm0
  subst hA1
  have q0 : w5.cell? ⟨g, 0, none⟩ = some (.slice Ag m cg) := HR5.out.1.cell 0
  have q1 : w5.cell? ⟨g, 1, none⟩ = some (.int .i64 p) := HR5.out.1.cell 1
  have HAT := Lib.hid fun W => At_any Ag m cg p W
  have hpz : (0 : Int) ≤ p := by omega
  have hpm2 : (p : Int) ≤ m := by omega
  have HGL : Hid (w.heap.size ≤ g ∧ lb < w.heap.size) := Lib.hid ⟨HG1.out, HW.out.cells.1⟩
  have hgl : g ≠ lb := by have := HGL.out; omega
  have hgl2 : lb ≠ g := by have := HGL.out; omega
  clear HR5 HE HG1
  have hS0 : w5.drew.cell? ⟨g, 0, none⟩ = some (.slice Ag m cg) ∧ w5.drew.cell? ⟨g, 1, none⟩ = some (.int .i64 p) := ⟨q0, q1⟩
  clear q0 q1
  refine wp_region_G (fun w' => w'.cell? ⟨g, 0, none⟩ = some (.slice Ag m cg) ∧ w'.cell? ⟨g, 1, none⟩ = some (.int .i64 p)) 15 (by kernel_rfl) ?_
  have HWD : Hid (Below w.heap.size w w5.drew ∧ w5.drew.ownsRow w.heap.size 5 1 (.slice (some ⟨b, 0, none⟩) m c1) m ((enc k ++ xs).map (Value.int .u8))) := Lib.hid ⟨HB5.out.drew, own_below HO5.out (Below.refl _ _).drew⟩
  clear HO5 HB5
  generalize w5.drew = wd at *
  refine wpAnyG_take (i := 0) (oi := _) (v := ?_) rfl (by kernel_rfl) (by kernel_rfl) (by kernel_rfl) (by kernel_rfl) (fun _ _ _ h => h) (Or.inl ⟨by rfl, ?_⟩) hS0 ?_
  rotate_left
  · (intro wS hSw; obtain ⟨y1, y2⟩ := hSw; go_simp; try with_reducible rfl)
  try simp only [Act.put]
  refine wpAnyG_take (i := 1) (oi := _) (v := ?_) rfl (by kernel_rfl) (by kernel_rfl) (by kernel_rfl) (by kernel_rfl) (fun _ _ _ h => h) (Or.inl ⟨by rfl, ?_⟩) hS0 ?_
  rotate_left
  · (intro wS hSw; obtain ⟨y1, y2⟩ := hSw; go_simp; try with_reducible rfl)
  try simp only [Act.put]
  refine wpAnyG_take (i := 2) (oi := _) (v := ?_) rfl (by kernel_rfl) (by kernel_rfl) (by kernel_rfl) (by kernel_rfl) (fun _ _ _ h => h) (Or.inl ⟨by rfl, ?_⟩) hS0 ?_
  rotate_left
  · (intro wS hSw; obtain ⟨y1, y2⟩ := hSw; go_simp; try with_reducible rfl)
  try simp only [Act.put]
  refine wpAnyG_take (i := 3) (oi := _) (v := ?_) rfl (by kernel_rfl) (by kernel_rfl) (by kernel_rfl) (by kernel_rfl) (fun _ _ _ h => h) (Or.inl ⟨by rfl, ?_⟩) hS0 ?_
  rotate_left
  · (intro wS hSw; obtain ⟨y1, y2⟩ := hSw; go_simp; try with_reducible rfl)
  try simp only [Act.put]
  refine wpAnyG_take (i := 4) (oi := _) (v := ?_) rfl (by kernel_rfl) (by kernel_rfl) (by kernel_rfl) (by kernel_rfl) (fun _ _ _ h => h) (Or.inl ⟨by rfl, ?_⟩) hS0 ?_
  rotate_left
  · (intro wS hSw; obtain ⟨y1, y2⟩ := hSw; go_simp; try with_reducible rfl)
  try simp only [Act.put]
  refine wpAnyG_take (i := 5) (oi := _) (v := ?_) rfl (by kernel_rfl) (by kernel_rfl) (by kernel_rfl) (by kernel_rfl) (fun _ _ _ h => h) (Or.inl ⟨by rfl, ?_⟩) hS0 ?_
  rotate_left
  · (intro wS hSw; obtain ⟨y1, y2⟩ := hSw; go_simp; try with_reducible rfl)
  try simp only [Act.put]
  refine wpAnyG_take (i := 6) (oi := _) (v := ?_) rfl (by kernel_rfl) (by kernel_rfl) (by kernel_rfl) (by kernel_rfl) (fun _ _ _ h => h) (Or.inl ⟨by rfl, ?_⟩) hS0 ?_
  rotate_left
  · (intro wS hSw; obtain ⟨y1, y2⟩ := hSw; go_simp; try with_reducible rfl)
  try simp only [Act.put]
  refine wpAnyG_take (i := 7) (oi := _) (v := ?_) rfl (by kernel_rfl) (by kernel_rfl) (by kernel_rfl) (by kernel_rfl) (fun _ _ _ h => h) (Or.inl ⟨by rfl, ?_⟩) hS0 ?_
  rotate_left
  · (intro wS hSw; obtain ⟨y1, y2⟩ := hSw; go_simp; try with_reducible rfl)
  try simp only [Act.put]
  refine wpAnyG_one (i := 8) (o := ⟨some 54, _, _, _, _, _⟩) (by kernel_rfl) rfl (fun K hK => ?_)
  go_simp
  refine (HAT.out wd).mono ?_
  rintro e w7 ⟨rfl, rfl⟩
  have hS1 : (wd.alloc (.cells #[.slice Ag m cg, .int .i64 p] 136)).cell? ⟨g, 0, none⟩ = some (.slice Ag m cg) ∧ (wd.alloc (.cells #[.slice Ag m cg, .int .i64 p] 136)).cell? ⟨g, 1, none⟩ = some (.int .i64 p) := ⟨by obtain ⟨y1, y2⟩ := hS0; go_keep, by obtain ⟨y1, y2⟩ := hS0; go_keep⟩
  clear hS0
  have hS0 := hS1
  clear hS1
  have HW7 : Hid (Below w.heap.size w (wd.alloc (.cells #[.slice Ag m cg, .int .i64 p] 136)) ∧ (wd.alloc (.cells #[.slice Ag m cg, .int .i64 p] 136)).ownsRow w.heap.size 5 1 (.slice (some ⟨b, 0, none⟩) m c1) m ((enc k ++ xs).map (Value.int .u8))) := Lib.hid ⟨HWD.out.1.alloc HWD.out.1.size _, own_below HWD.out.2 ((Below.refl _ _).alloc (Nat.le_refl _) _)⟩
  clear HWD
  generalize wd.alloc (.cells #[.slice Ag m cg, .int .i64 p] 136) = w7 at *
  dsimp only
  refine hK.out _ _ (fun _ => hS0) ?_
  clear hK K
  try simp only [Act.put]
  refine wpAnyG_take (i := 9) (oi := _) (v := ?_) rfl (by kernel_rfl) (by kernel_rfl) (by kernel_rfl) (by kernel_rfl) (fun _ _ _ h => h) (Or.inl ⟨by rfl, ?_⟩) hS0 ?_
  rotate_left
  · (intro wS hSw; obtain ⟨y1, y2⟩ := hSw; go_simp; try with_reducible rfl)
  try simp only [Act.put]
  refine wpAnyG_take (i := 10) (oi := _) (v := ?_) rfl (by kernel_rfl) (by kernel_rfl) (by kernel_rfl) (by kernel_rfl) (fun _ _ _ h => h) (Or.inl ⟨by rfl, ?_⟩) hS0 ?_
  rotate_left
  · (intro wS hSw; obtain ⟨y1, y2⟩ := hSw; go_simp; try with_reducible rfl)
  try simp only [Act.put]
  refine wpAnyG_take (i := 11) (oi := _) (v := ?_) rfl (by kernel_rfl) (by kernel_rfl) (by kernel_rfl) (by kernel_rfl) (fun _ _ _ h => h) (Or.inl ⟨by rfl, ?_⟩) hS0 ?_
  rotate_left
  · (intro wS hSw; obtain ⟨y1, y2⟩ := hSw; go_simp; try with_reducible rfl)
  try simp only [Act.put]
  obtain ⟨_, _, _, _, l3, l4, _, _, lf⟩ := (HW.out.later HW7.out.1).cells
  have f3 := lf 3
  have f4 := lf 4
  clear lf
  refine wpAnyG_one (i := 12) (o := ⟨none, _, _, _, _, _⟩) (by kernel_rfl) rfl (fun K hK => ?_)
  go_simp
  have hS1 : (w7.setCell ⟨lb, 3, none⟩ (.int .i64 k)).cell? ⟨g, 0, none⟩ = some (.slice Ag m cg) ∧ (w7.setCell ⟨lb, 3, none⟩ (.int .i64 k)).cell? ⟨g, 1, none⟩ = some (.int .i64 p) := ⟨by obtain ⟨y1, y2⟩ := hS0; rw [World.cell?_setCell_other _ _ _ _ (by intro e; injection e with e; exact hgl2 e)]; exact y1, by obtain ⟨y1, y2⟩ := hS0; rw [World.cell?_setCell_other _ _ _ _ (by intro e; injection e with e; exact hgl2 e)]; exact y2⟩
  clear hS0
  have hS0 := hS1
  clear hS1
  refine hK.out _ _ (fun _ => hS0) ?_
  clear hK K
  try simp only [Act.put]
  refine wpAnyG_one (i := 13) (o := ⟨some 58, _, _, _, _, _⟩) (by kernel_rfl) rfl (fun K hK => ?_)
  go_simp
  refine hK.out _ _ (fun _ => hS0) ?_
  clear hK K
  try simp only [Act.put]
  refine wpAnyG_one (i := 14) (o := ⟨some 59, _, _, _, _, _⟩) (by kernel_rfl) rfl (fun K hK => ?_)
  go_simp
  refine hK.out _ _ (fun _ => hS0) ?_
  clear hK K
  try simp only [Act.put]
  refine wpAnyG_one (i := 15) (o := ⟨none, _, _, _, _, _⟩) (by kernel_rfl) rfl (fun K hK => ?_)
  go_simp
  refine hK.out _ _ (fun h => absurd h (by decide)) ?_
  clear hK K
  try simp only [Act.put]
  refine wpAnyG_done (by kernel_rfl) ?_ _
  have hxs : (enc k ++ xs).drop p = xs := by rw [HP.out]; exact List.drop_left
  have hxl : xs.length = m - p := by rw [HM.out, HP.out, List.length_append]; omega
  obtain ⟨b', e1, _, _, hby⟩ := byt_drop HW7.out.2 HM.out.symm HX.out (by omega) hpm hm0
  obtain rfl : b = b' := by simpa using e1
  rw [hxs] at hby
  obtain ⟨g1, g2⟩ := HW.out.setShotB HKP.out HW7.out.1 hby
  obtain ⟨g3, g4⟩ := g1.setBase k
  rw [hxl, setCell_comm _ _ _ _ _ _ (by omega)] at g3 g4
  rw [hxl] at g2
  have HFIN : Hid (SnapRead w0 Kp lb d R S M k xs w ((w7.setCell ⟨lb, 3, none⟩ (.int .i64 k)).setCell ⟨lb, 4, none⟩ (.slice (if c1 = p then some ⟨b, 0, none⟩ else some ⟨b, p, none⟩) (m - p) (c1 - p)))) := Lib.hid ⟨_, g3, g2.trans g4⟩
  clear g1 g2 g3 g4 hby hxs hxl e1 l3 l4 f3 f4 hS0
  generalize (w7.setCell ⟨lb, 3, none⟩ (.int .i64 k)).setCell ⟨lb, 4, none⟩ (.slice (if c1 = p then some ⟨b, 0, none⟩ else some ⟨b, p, none⟩) (m - p) (c1 - p)) = wz at *
  generalize (if c1 = p then some (⟨b, 0, none⟩ : Addr) else some ⟨b, p, none⟩) = Az at *
  clear hgl hgl2 hpz hpm2 hm0 hmc hcm dk dk2 hpm hl hk HW7 HAT HGL
  go_wp2_with fail
  go_ret
  exact ⟨rfl, HFIN.out⟩
end
end Go.Proofs.YtnomicnmpllajaaGreatDoor
end

section
namespace Go.Proofs.YtnomicnmpllajaaGreatDoor
open Go Go.RowKit

section
variable {w0 w w' : World} {Kp : Nat → Prop} {lb d : Nat} {R : Int} {S : List RF} {M : LogM} {V : LogV}
set_option maxHeartbeats 1600000 in
set_option maxRecDepth 100000 in
theorem Open_snap {Φ : Nat → Prop} (hb : Below w0.heap.size w0 w) (hd : DiskAt w d R S Φ) (hΦ : ∀ k, Φ k → w0.heap.size ≤ k ∧ ¬ Kp k ∧ k < w.heap.size) (hKp : ∀ k, Kp k → k < w.heap.size) (ht : Tab w0) (n : Nat) (h1 : 16 ≤ n) (h2 : n ≤ 65536)
    {f : RF} {B : Nat} {shot : List Int} (hsn : findN S snapN = some f) (hfB : f.b = sealF (enc B ++ shot)) (hB : B < 100000000) (hx : ∀ x ∈ enc B ++ shot, 0 ≤ x ∧ x < 256) (hl : (enc B ++ shot).length ≤ 4096) (hS : S.length ≤ 1000000) {P : List SegF} (hP : SegsAt S B P) (hn : P.length < 1000000) (hrec : (P.flatMap SegF.l).length ≤ 1000000) (hfb : ∀ f ∈ S, f.b.length ≤ 1000000) :
    Calls Tryz.prog 15 #[.pointer (some ⟨d, 0, none⟩), .int .i64 n] w (OpenSaid w0 Kp d R (settleF S (segsP P)) (openM n B shot P) w) := by
  obtain ⟨h3, h4⟩ := WPair.fresh hb hd hΦ hKp n
  have HS : Hid (Calls Tryz.prog 42 #[.pointer (some ⟨w.heap.size, 0, none⟩)] (w.alloc (.cells (newCells d n) 82)) fun e w2 => e = .returned (.int .i64 0) ∧
      Hid (Calls Tryz.prog 43 #[.pointer (some ⟨w.heap.size, 0, none⟩)] w2 fun e w3 => e = .returned (.tuple #[.string ⟨#[]⟩, .int .i64 0]) ∧
      Hid (Calls Tryz.prog 44 #[.pointer (some ⟨w.heap.size, 0, none⟩)] w3 fun e w4 => e = .returned (.tuple #[]) ∧ Hid (∃ V', WPair w0 Kp w.heap.size d R (settleF S (segsP P)) (openM n B shot P) V' w4 ∧ Kept Kp w w4)))) := Lib.hid (by
    have hK1 : ∀ k, Kp k → k < (w.alloc (.cells (newCells d n) 82)).heap.size := fun k h => Nat.lt_of_lt_of_le (hKp k h) h4.size
    refine (readSnap_some h3 hK1 hsn hfB hB hx hl).mono ?_
    rintro e w2 ⟨rfl, V2, h5, k5⟩
    refine ⟨rfl, Lib.hid ?_⟩
    have k2 : Kept Kp w w2 := (Kept.of_below h4 hKp).trans k5
    have hK2 : ∀ k, Kp k → k < w2.heap.size := fun k h => Nat.lt_of_lt_of_le (hKp k h) k2.2
    have hokB : LogOk { newM n with base := B, shot := shot } := ⟨h2, Nat.zero_le _, Nat.zero_le _, hB, (fun s hs => by simp [newM] at hs), Nat.zero_le _⟩
    refine (readSegments_any h5 hK2 ht hokB ⟨rfl, rfl⟩ hS hP hn hrec hfb).mono ?_
    rintro e w3 ⟨rfl, V3, h6, k6⟩
    refine ⟨rfl, Lib.hid ?_⟩
    have k3 : Kept Kp w w3 := k2.trans k6
    have hok : LogOk (segM { newM n with base := B, shot := shot } P P.length) := segM_ok hokB hP (by omega) hrec hfb
    refine (settle_any h6 (fun k h => Nat.lt_of_lt_of_le (hKp k h) k3.2) ht hok).mono ?_
    rintro e w4 ⟨rfl, h7, k7⟩
    refine ⟨rfl, Lib.hid ⟨V3, ?_, k3.trans k7⟩⟩
    have e1 : segM { newM n with base := B, shot := shot } P P.length = ⟨n, segsP P, B, shot, recsP B P, 0⟩ := by
      unfold segM newM
      simp only [List.take_length]
    rw [e1] at h7
    exact h7)
  have d1 : decide ((n : Int) < 16) = false := decide_eq_false (by omega)
  have d2 : decide ((65536 : Int) < n) = false := decide_eq_false (by omega)
  unfold newCells at HS
  clear h3 h4 hb hd hΦ hKp h1 h2 ht hsn hfB hB hx hl hS hP hn hrec hfb
  go_enter Tryz.func15, Tryz.ntmps15
  go_wp2_with (first
    | (go_at_call 42; refine HS.out.mono ?_; rintro e w2 ⟨rfl, HG⟩)
    | (go_at_call 43; refine HG.out.mono ?_; rintro e w3 ⟨rfl, HT⟩)
    | (go_at_call 44; refine HT.out.mono ?_; rintro e w4 ⟨rfl, HW⟩))
  go_ret2
  exact ⟨_, rfl, HW⟩
end
end Go.Proofs.YtnomicnmpllajaaGreatDoor
end
