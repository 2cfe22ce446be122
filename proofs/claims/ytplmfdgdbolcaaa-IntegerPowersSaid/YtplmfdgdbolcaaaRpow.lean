/-
  The reference's Pow.
-/
import Derived.Test.YtplmfdgdbolcaaaPow
set_option linter.unusedVariables false
set_option linter.unusedSimpArgs false
namespace Go.Proofs.Ytplmfdgdbolcaaa
open Go.RowKit

theorem Sz.lenB {z : Int} {k : Nat} (h : Sz z k) (hk : k ≤ 100000 := by decide) : (digs z.natAbs).length ≤ 100000 := Nat.le_trans h.len hk
/-- The head of the loop of the reference's Pow, k factors being left. -/
def RpI (w wr : World) (h6 : Nat) (s : Bool) (A : Option Addr) (n c : Nat) (a : Int) (j : Nat) : Prop :=
  ∃ (P : Int) (B : Option Addr) (m e : Nat), P = a ^ j ∧ St w wr [vi h6 (decide (P < 0)) B m e, vi (w.heap.size + 1) false none 0 0, vi w.heap.size s A n c] [(decide (P < 0), B, m, e, P, true), (s, A, n, c, a, false)]

set_option maxHeartbeats 8000000 in
set_option maxRecDepth 100000 in
theorem rpow_at {w : World} {s : Bool} {A : Option Addr} {n c : Nat} {a : Int} (N : Int) (h : IntAt w s A n c a) (za : Sz a 10) (hn : n ≤ 100000) :
    Calls Try.prog 21 #[.agg #[.bool s, .slice A n c], .int .i64 N] w (RetO w (powV a N) (powE N)) := by
  have H0 := ((((St.start w).addI h).new 24 (Plains.two s A n c))).new 24 (Plains.two false none 0 0)
  simp only [World.size_alloc] at H0
  have HH := Lib.hid H0
  clear H0 h
  by_cases hN : 0 ≤ N ∧ N ≤ 64
  · obtain ⟨h1, h2⟩ := hN
    obtain ⟨M, rfl⟩ := Int.eq_ofNat_of_zero_le h1
    have hM : M ≤ 64 := by omega
    have HV : Hid (powV a (M : Int) = a ^ M ∧ powE (M : Int) = 0) := by
      unfold Hid powV powE
      rw [if_pos (by omega), if_pos (by omega)]
      exact ⟨rfl, rfl⟩
    rw [HV.out.1, HV.out.2]
    have i1 : ¬ (M : Int) < 0 := by omega
    have i2 : ¬ (64 : Int) < (M : Int) := by omega
    go_enter Try.func21, Try.ntmps21
    go_wp2_with (first
      | (go_at_call 90; have K := HH.out; clear HH; (with_reducible refine (rfromInt64_any 1 (by decide) (by decide) _).mono ?_); rintro e w3 ⟨A3, n3, c3, rfl, d3, u3, v3, g3⟩; have K3 := ((K.call g3).add (show CanAt w3 false A3 n3 c3 1 from CanAt.mk_ d3 u3 v3)).new 24 (Plains.two false A3 n3 c3))
      | fail)
    clear d3 g3
    generalize w3.alloc (.cells #[.bool false, .slice A3 n3 c3] 24) = W3 at K3 ⊢
    generalize w3.heap.size = h6 at K3 ⊢
    have HS : RpI w W3 h6 s A n c a 0 := ⟨1, A3, n3, c3, (Int.pow_zero a).symm, K3⟩
    clear K3 K
    go_loopg [7] M (fun k i wr => ∃ j : Nat, j + k = M ∧ i = .int .i64 j ∧ RpI w wr h6 s A n c a j)
    case atStart => exact ⟨0, by omega, rfl, HS⟩
    case round =>
      clear HS
      obtain ⟨j, hk, rfl, P, B, m, e, hP, K⟩ := hrel
      have HP := Lib.hid hP
      clear hP
      obtain ⟨iP, ia, _⟩ := K.ints
      obtain ⟨⟨p0, p1⟩, ⟨p2, p3⟩, ⟨p4, p5⟩, _⟩ := K.facts
      obtain ⟨f0, f1⟩ := K.free (i := 1) rfl
      obtain ⟨f2, f3⟩ := K.free (i := 0) rfl
      obtain ⟨z1, z2⟩ := K.ne 0 1 rfl rfl (by decide)
      obtain ⟨z3, z4⟩ := K.ne 0 2 rfl rfl (by decide)
      by_cases h0 : gk = 0
      · have hjM : j = M := by omega
        have HE : Hid (P = a ^ M) := by rw [HP.out, hjM]; rfl
        have i3 : ¬ (j : Int) < (M : Int) := by omega
        clear hjM hk h0
        have K2 := K.put 1 rfl (decide (P < 0)) B m e
        simp only [List.set] at K2
        go_wp2_with fail
        generalize ((wr.setCell ⟨w.heap.size + 1, 0, none⟩ (.bool (decide (P < 0)))).setCell ⟨w.heap.size + 1, 1, none⟩ (.slice B m e)) = W2 at K2 ⊢
        obtain ⟨_, ⟨r0, r1⟩, _⟩ := K2.facts
        obtain ⟨jP, _⟩ := K2.ints
        refine bodyPost_ret (v := .tuple #[.agg #[.bool (decide (P < 0)), .slice B m e], .int .i64 0]) (by simp [results, Try.results21, go_sem, r0, r1]) rfl ?_
        rw [← HE.out]
        exact ⟨B, m, e, rfl, jP.c, K2.below⟩
      · have i3 : (j : Int) < (M : Int) := by omega
        have HK : Hid (j + gk = M) := hk
        have HG0 := Lib.hid h0
        obtain ⟨P3, HP3⟩ : ∃ v, Hid (P * a = v) := ⟨_, rfl⟩
        have HE : Hid (P3 = a ^ (j + 1)) := by unfold Hid; rw [← HP3.out, HP.out, Int.pow_succ]
        have zP : Sz P 800 := by rw [HP.out]; exact za.pow (by omega)
        have kP := zP.ok
        have hm : m ≤ 100000 := by rw [← iP.c.2.1.len]; exact zP.lenB
        clear hk h0
        go_wp2_with (first
          | (go_at_call 95; (with_reducible refine (rmul_at (iP.ci kP) ia.i hm hn).mono ?_); rw [HP3.out]; rintro e6 w6 ⟨B6, m6, e6, rfl, d6, u6, v6, g6⟩; have K7 := (K.call g6).add (CanAt.mk_ d6 u6 v6); clear p0 p1 p2 p3 p4 p5 f0 f1 f2 f3; obtain ⟨⟨p0, p1⟩, ⟨p2, p3⟩, ⟨p4, p5⟩, _⟩ := K7.facts; obtain ⟨f2, f3⟩ := K7.free (i := 0) rfl)
          | fail)
        have K8 := K7.put 0 rfl (decide (P3 < 0)) B6 m6 e6
        simp only [List.set] at K8
        obtain ⟨j3, _, ja, _⟩ := K8.ints
        go_roundg (gk - 1)
        case rel => exact ⟨j + 1, by have := HK.out; have := HG0.out; omega, by go_num, P3, B6, m6, e6, HE.out, K8.ints_ ⟨j3, ja, trivial⟩⟩
        case measure => have := HG0.out; omega
  · have HV : Hid (powV a N = 0 ∧ powE N = 5) := by
      unfold Hid powV powE
      rw [if_neg hN, if_neg hN]
      exact ⟨rfl, rfl⟩
    rw [HV.out.1, HV.out.2]
    have fin : ∀ w', w' = ((w.alloc (.cells #[.bool s, .slice A n c] 24)).alloc (.cells #[.bool false, .slice none 0 0] 24)) → Below w.heap.size w w' := fun w' h => by rw [h]; exact bnew2 _ _ _
    by_cases h1 : N < 0
    · clear hN
      go_enter Try.func21, Try.ntmps21
      go_wp2_with fail
      refine bodyPost_ret (v := .tuple #[.agg #[.bool false, .slice none 0 0], .int .i64 5]) (by simp [results, Try.results21, go_sem]) rfl ?_
      exact ⟨none, 0, 0, rfl, CanAt.zero_ _, fin _ rfl⟩
    · have h2 : (64 : Int) < N := by omega
      clear hN
      go_enter Try.func21, Try.ntmps21
      go_wp2_with fail
      refine bodyPost_ret (v := .tuple #[.agg #[.bool false, .slice none 0 0], .int .i64 5]) (by simp [results, Try.results21, go_sem]) rfl ?_
      exact ⟨none, 0, 0, rfl, CanAt.zero_ _, fin _ rfl⟩
end Go.Proofs.Ytplmfdgdbolcaaa
