/- What is proved here: slices.order2CmpFunc, medianCmpFunc, medianAdjacentCmpFunc, with a comparison that is a method of a ledger. -/
import Derived.Test.YtcdjahmnobjpkaaSrtH
namespace Go.Proofs.Ytcdjahmnobjpkaa
open Go Go.RowKit Go.Maps Go.WideMaps Go.Shelf Go.Lib Go.Sort

variable {G : ByteArray → Prop} [Inhabited (W64 G)]

theorem cnt_drewN {w0 W : World} {blk c s : Nat} {d : Array (W64 G)} (h : Cnt1 encW w0 blk 0 d c s W) (q : Nat) : Cnt1 encW w0 blk 0 d c s (W.drewN q) := by
  have := h.grown q #[]
  rwa [grow_empty] at this

set_option maxHeartbeats 800000 in
set_option maxRecDepth 100000 in
theorem order2_any {cf : (W64 G) → (W64 G) → Int} {l blk cap : Nat} {d0 : Array (W64 G)} {w0 : World} (H : Srt cf l blk cap d0 w0) {d : Array (W64 G)} {w : World} (hs : d.size = d0.size) {c s : Nat} (C : Cnt1 encW w0 blk 0 d c s w) {a b n : Nat} (hn : n = d0.size) (ha : a < n) (hb : b < n) (hs1 : s < 1000000) :
    Calls Try.prog 71 #[.slice (some ⟨blk, 0, none⟩) n cap, .int .i64 a, .int .i64 b, .pointer (some ⟨c, 0, none⟩), .func (.func 30) #[.pointer (some ⟨l, 0, none⟩)] #[]] w fun e w' => e = .returned (.tuple #[.int .i64 (order2 (ltOf cf) d a b s).1, .int .i64 (order2 (ltOf cf) d a b s).2.1]) ∧ Hid (Cnt1 encW w0 blk 0 d c (order2 (ltOf cf) d a b s).2.2 w') := by
  obtain ⟨x1, HX1, p1, c1, f1⟩ := H.look hs C.1 (show b < d0.size by omega)
  obtain ⟨x2, HX2, p2, c2, f2⟩ := H.look hs C.1 (show a < d0.size by omega)
  have HC := Lib.hid (H.at_ hs C.1 x1 x2)
  have HD := Lib.hid C
  have hbig := H.big
  have hcap := H.cap
  have hn1 : n < 1000000 := by omega
  have hnc : n ≤ cap := by omega
  have hai : (a : Int) < (n : Int) := by omega
  have hbi : (b : Int) < (n : Int) := by omega
  have hsz := Lib.hid C.2.2.2.2
  clear hbig hcap hn H hs C
  cases hlv : (ltOf cf) x1 x2 with
  | true =>
    have hcv : decide (cf x1 x2 < 0) = true := hlv
    have hcv' : cf x1 x2 < 0 := of_decide_eq_true hlv
    have e2 : order2 (ltOf cf) d a b s = (b, a, s + 1) := by unfold order2; rw [← HX1.out, ← HX2.out, hlv]; rfl
    rw [e2]
    generalize cf x1 x2 = cv at *
    clear hlv e2 HX1 HX2
    have mixed := mixed_prog
    go_enter Try.func71, Try.ntmps71
    go_wp2_with fail
    go_quiet_grown ((go_at_call 30; exact Calls.grown_of (HC.out _ _)))
    have HD2 := Lib.hid (HD.out.grown nq osq)
    generalize grow (w.drewN nq) osq = W2 at *
    have k1 := HD2.out.2.1
    have k2 := HD2.out.2.2.1
    clear HC HD c1 c2 p1 p2 f1 f2
    go_wp2
    refine bodyPost_ret (v := .tuple #[.int .i64 b, .int .i64 a]) (by simp [results, Try.results71, go_sem]) rfl ⟨rfl, Lib.hid ?_⟩
    exact HD2.out.bump (s + 1)
  | false =>
    have hcv : decide (cf x1 x2 < 0) = false := hlv
    have hcv' : ¬ cf x1 x2 < 0 := of_decide_eq_false hlv
    have e2 : order2 (ltOf cf) d a b s = (a, b, s) := by unfold order2; rw [← HX1.out, ← HX2.out, hlv]; rfl
    rw [e2]
    generalize cf x1 x2 = cv at *
    clear hlv e2 HX1 HX2
    have mixed := mixed_prog
    go_enter Try.func71, Try.ntmps71
    go_wp2_with fail
    go_quiet_grown ((go_at_call 30; exact Calls.grown_of (HC.out _ _)))
    have HD2 := Lib.hid (HD.out.grown nq osq)
    generalize grow (w.drewN nq) osq = W2 at *
    clear HC HD c1 c2 p1 p2 f1 f2
    go_wp2
    exact bodyPost_ret (v := .tuple #[.int .i64 a, .int .i64 b]) (by simp [results, Try.results71, go_sem]) rfl ⟨rfl, HD2⟩

end Go.Proofs.Ytcdjahmnobjpkaa
