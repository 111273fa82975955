/- What is proved here: slices.medianCmpFunc, medianAdjacentCmpFunc, with a comparison that is a method of a ledger. -/
import Derived.Test.YtcdjahmnobjpkaaSrtM
import Derived.Deep.DeepFit
namespace Go.Proofs.Ytcdjahmnobjpkaa
open Go Go.RowKit Go.Maps Go.WideMaps Go.Shelf Go.Lib Go.Sort

variable {G : ByteArray → Prop} [Inhabited (W64 G)]

theorem order2_lt {lt : (W64 G) → (W64 G) → Bool} {d : Array (W64 G)} {a b s n : Nat} (ha : a < n) (hb : b < n) : (order2 lt d a b s).1 < n ∧ (order2 lt d a b s).2.1 < n ∧ (order2 lt d a b s).2.2 ≤ s + 1 := by
  unfold order2
  split <;> simp <;> omega

set_option maxHeartbeats 800000 in
set_option maxRecDepth 100000 in
theorem median_any {cf : (W64 G) → (W64 G) → Int} {l blk cap : Nat} {d0 : Array (W64 G)} {w0 : World} (H : Srt cf l blk cap d0 w0) {d : Array (W64 G)} {w : World} (hs : d.size = d0.size) {c s : Nat} (C : Cnt1 encW w0 blk 0 d c s w) {a b k n : Nat} (hn : n = d0.size) (ha : a < n) (hb : b < n) (hk : k < n) (hs1 : s < 10000) :
    Calls Try.prog 61 #[.slice (some ⟨blk, 0, none⟩) n cap, .int .i64 a, .int .i64 b, .int .i64 k, .pointer (some ⟨c, 0, none⟩), .func (.func 30) #[.pointer (some ⟨l, 0, none⟩)] #[]] w fun e w' => e = .returned (.int .i64 (median (ltOf cf) d a b k s).1) ∧ Hid (Cnt1 encW w0 blk 0 d c (median (ltOf cf) d a b k s).2 w' ∧ (median (ltOf cf) d a b k s).1 < n ∧ (median (ltOf cf) d a b k s).2 ≤ s + 3) := by
  have HO := Lib.hid (fun (w : World) (a b s : Nat) (C : Cnt1 encW w0 blk 0 d c s w) (ha : a < n) (hb : b < n) (hs1 : s < 1000000) => order2_any H hs C hn ha hb hs1)
  have HC := Lib.hid C
  unfold median
  have o1 := order2_lt (lt := ltOf cf) (d := d) (s := s) ha hb
  have H1 := Lib.hid (HO.out w a b s C ha hb (by omega))
  generalize order2 (ltOf cf) d a b s = r1 at *
  obtain ⟨r11, r12, r13⟩ := r1
  dsimp only at o1 H1 ⊢
  obtain ⟨o11, o12, o13⟩ := o1
  have o2 := order2_lt (lt := ltOf cf) (d := d) (s := r13) o12 hk
  have H2 : Hid (∀ w', Cnt1 encW w0 blk 0 d c r13 w' → _) := Lib.hid fun w' C' => HO.out w' r12 k r13 C' o12 hk (by omega)
  generalize order2 (ltOf cf) d r12 k r13 = r2 at *
  obtain ⟨r21, r22, r23⟩ := r2
  dsimp only at o2 H2 ⊢
  obtain ⟨o21, o22, o23⟩ := o2
  have o3 := order2_lt (lt := ltOf cf) (d := d) (s := r23) o11 o21
  have H3 : Hid (∀ w', Cnt1 encW w0 blk 0 d c r23 w' → _) := Lib.hid fun w' C' => HO.out w' r11 r21 r23 C' o11 o21 (by omega)
  generalize order2 (ltOf cf) d r11 r21 r23 = r3 at *
  obtain ⟨r31, r32, r33⟩ := r3
  dsimp only at o3 H3 ⊢
  obtain ⟨o31, o32, o33⟩ := o3
  have HB : Hid (r32 < n ∧ r33 ≤ s + 3) := Lib.hid ⟨o32, by omega⟩
  clear HO HC C H hs hn o11 o12 o13 o21 o22 o23 o31 o32 o33
  go_enter Try.func61, Try.ntmps61
  go_wp2_with (first
    | (go_at_call 71; go_fit H1.out; rintro e w1 HY; obtain rfl := HY.1; have HZ1 := HY.2; clear HY)
    | (go_at_call 71; go_fit (H2.out _ HZ1.out); rintro e w2 HY; obtain rfl := HY.1; have HZ2 := HY.2; clear HY)
    | (go_at_call 71; go_fit (H3.out _ HZ2.out); rintro e w3 HY; obtain rfl := HY.1; have HZ3 := HY.2; clear HY))
  exact bodyPost_ret (v := .int .i64 r32) (by simp [results, Try.results61, go_sem]) rfl ⟨rfl, Lib.hid ⟨HZ3.out, HB.out⟩⟩

set_option maxHeartbeats 800000 in
set_option maxRecDepth 100000 in
theorem medAdj_any {cf : (W64 G) → (W64 G) → Int} {l blk cap : Nat} {d0 : Array (W64 G)} {w0 : World} (H : Srt cf l blk cap d0 w0) {d : Array (W64 G)} {w : World} (hs : d.size = d0.size) {c s : Nat} (C : Cnt1 encW w0 blk 0 d c s w) {a n : Nat} (hn : n = d0.size) (ha0 : 0 < a) (ha : a + 1 < n) (hs1 : s < 10000) :
    Calls Try.prog 60 #[.slice (some ⟨blk, 0, none⟩) n cap, .int .i64 a, .pointer (some ⟨c, 0, none⟩), .func (.func 30) #[.pointer (some ⟨l, 0, none⟩)] #[]] w fun e w' => e = .returned (.int .i64 (medianAdjacent (ltOf cf) d a s).1) ∧ Hid (Cnt1 encW w0 blk 0 d c (medianAdjacent (ltOf cf) d a s).2 w' ∧ (medianAdjacent (ltOf cf) d a s).1 < n ∧ (medianAdjacent (ltOf cf) d a s).2 ≤ s + 3) := by
  have hbig := H.big
  have hn1 : n < 1000000 := by omega
  have HM := Lib.hid (median_any H hs C (a := a - 1) (b := a) (k := a + 1) hn (by omega) (by omega) ha hs1)
  unfold medianAdjacent
  generalize median (ltOf cf) d (a - 1) a (a + 1) s = r at *
  obtain ⟨ap, hap⟩ : ∃ x, a = x + 1 := ⟨a - 1, by omega⟩
  obtain ⟨an, han⟩ : ∃ x, a + 1 = x := ⟨_, rfl⟩
  rw [han, show a - 1 = ap by omega] at HM
  have hapz : (a : Int) - 1 = (ap : Int) := by omega
  have hanz : (a : Int) + 1 = (an : Int) := by omega
  have hap2 : ap < n := by omega
  have han2 : an < n := by omega
  clear H hs C hn ha0 ha hbig hap han
  go_enter Try.func60, Try.ntmps60
  go_wp2_with (go_at_call 61; go_fit HM.out; rintro e w1 HY; obtain rfl := HY.1; have HZ1 := HY.2; clear HY)
  exact bodyPost_ret (v := .int .i64 r.1) (by simp [results, Try.results60, go_sem]) rfl ⟨rfl, HZ1⟩
end Go.Proofs.Ytcdjahmnobjpkaa
