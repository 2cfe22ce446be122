/-
  Zones: the laws on splits of bands.
-/
import Derived.Test.YtiohakpbgmignaaZbH
set_option linter.unusedVariables false
set_option linter.unusedSimpArgs false
namespace Go.Proofs.Ytiohakpbgmignaa
open Go.RowKit

theorem split_sums {o y cut z f t : Int} {ss : List (Int × Int)} (h1 : y ≤ cut) (h2 : cut ≤ z) (hf : 0 ≤ f ∧ f < 1440) (ht : 0 ≤ t ∧ t < 1440) (hft : f ≠ t) :
    cnt (bandB o ss f t) y (cut - y).toNat + cnt (bandB o ss f t) cut (z - cut).toNat = cnt (bandB o ss f t) y (z - y).toNat ∧
    cnt (bandB o ss f t) y (z - y).toNat + cnt (bandB o ss t f) y (z - y).toNat = z - y ∧
    (0 ≤ cnt (bandB o ss f t) y (cut - y).toNat ∧ 0 ≤ cnt (bandB o ss f t) cut (z - cut).toNat ∧ 0 ≤ cnt (bandB o ss t f) y (z - y).toNat) := by
  refine ⟨?_, ?_, (cnt_le _ _ _).1, (cnt_le _ _ _).1, (cnt_le _ _ _).1⟩
  · rw [show (z - y).toNat = (cut - y).toNat + (z - cut).toNat by omega, cnt_add, show y + ((cut - y).toNat : Int) = cut by omega]
  · have hc : cnt (bandB o ss t f) y (z - y).toNat = cnt (fun u => !bandB o ss f t u) y (z - y).toNat := cnt_congr _ (fun u _ _ => by unfold bandB; exact inB_not hf ht hft)
    rw [hc, cnt_not]; omega
set_option maxHeartbeats 8000000 in
set_option maxRecDepth 1000000 in
theorem zoneSplits_any (nm : List UInt8) (hnl : nm.length ≤ 9223372036854775807) (o : Int) (a : Option Addr) (n c : Nat) (ss : List (Int × Int)) (w : World) (hS : ShIn w a n ss) (hn : n ≤ 9223372036854775807) (y z : Int) (hd : ((-9223372036854775808 ≤ y ∧ y ≤ 9223372036854775807) ∧ (-9223372036854775808 ≤ z ∧ z ≤ 9223372036854775807))) (cut : Int) (hcut : (-9223372036854775808 ≤ cut ∧ cut ≤ 9223372036854775807)) (f : Int) (hf0 : (-9223372036854775808 ≤ f ∧ f ≤ 9223372036854775807)) (t : Int) (ht0 : (-9223372036854775808 ≤ t ∧ t ≤ 9223372036854775807)) : Calls Try.prog 9 #[.agg #[.string ⟨nm.toArray⟩, .int .i64 o, .slice a n c], .agg #[.int .i64 y, .int .i64 z], .int .i64 cut, .int .i64 f, .int .i64 t] w (RetB1 w true) := by
  have hli := fun w hS => light7_any nm o a n c ss y z w hS
  have hv := fun w hS => rvalidate_any nm hnl o a n c ss w hS hn
  have hp1 := fun w hS => bandMinutes_any nm hnl o a n c ss w hS hn y z f t
  have hp2 := fun w hS => bandMinutes_any nm hnl o a n c ss w hS hn y cut f t
  have hp3 := fun w hS => bandMinutes_any nm hnl o a n c ss w hS hn cut z f t
  have hp4 := fun w hS => bandMinutes_any nm hnl o a n c ss w hS hn y z t f
  have K0 := Lib.hid (KS.start (nm := nm) (o := o) (c := c) hS y z 24 40)
  obtain ⟨E, HE⟩ : ∃ v, Hid (zE (nameB nm) o ss = v) := ⟨_, rfl⟩
  simp only [HE.out] at hv hp1 hp2 hp3 hp4
  clear hS hd hcut hf0 ht0
  by_cases h0 : E = 0
  · subst h0
    by_cases t0 : y < 0
    · clear hp1 hp2 hp3 hp4
      go_enter Try.func9, Try.ntmps9
      obtain ⟨b0, c0, d0⟩ := K0.out.k.z
      obtain ⟨p0, q0⟩ := K0.out.p
      go_wp2_with (first
        | (go_at_call 23; (with_reducible refine (hli _ K0.out.k.s).mono ?_); rintro e w1 ⟨L, rfl, g1⟩; have K1 := Lib.hid (K0.out.call g1); obtain ⟨b1, c1, d1⟩ := K1.out.k.z; obtain ⟨p1, q1⟩ := K1.out.p; clear g1; cases L)
        | (go_at_call 13; (with_reducible refine (hv _ K1.out.k.s).mono ?_); rintro e w2 ⟨rfl, g2⟩; have K2 := Lib.hid (K1.out.call g2); obtain ⟨b2, c2, d2⟩ := K2.out.k.z; obtain ⟨p2, q2⟩ := K2.out.p; clear g2)
        | (go_at_call 11; (with_reducible refine (awake7_any _).mono ?_); rintro e w9 ⟨rfl, g9⟩)
        | fail)
      all_goals
        go_wp2_with (first
          | (go_at_call 23; (with_reducible refine (hli _ K0.out.k.s).mono ?_); rintro e w1 ⟨L, rfl, g1⟩; have K1 := Lib.hid (K0.out.call g1); obtain ⟨b1, c1, d1⟩ := K1.out.k.z; obtain ⟨p1, q1⟩ := K1.out.p; clear g1; cases L)
          | (go_at_call 13; (with_reducible refine (hv _ K1.out.k.s).mono ?_); rintro e w2 ⟨rfl, g2⟩; have K2 := Lib.hid (K1.out.call g2); obtain ⟨b2, c2, d2⟩ := K2.out.k.z; obtain ⟨p2, q2⟩ := K2.out.p; clear g2)
          | (go_at_call 11; (with_reducible refine (awake7_any _).mono ?_); rintro e w9 ⟨rfl, g9⟩)
          | fail)
        go_ret
        first | exact ⟨rfl, (K2.out.call g9).k.b⟩ | exact ⟨rfl, (K1.out.call g9).k.b⟩
    have t0' : decide (y < 0) = false := by simpa using t0
    by_cases t1 : 52596000 < z
    · clear hp1 hp2 hp3 hp4
      go_enter Try.func9, Try.ntmps9
      obtain ⟨b0, c0, d0⟩ := K0.out.k.z
      obtain ⟨p0, q0⟩ := K0.out.p
      go_wp2_with (first
        | (go_at_call 23; (with_reducible refine (hli _ K0.out.k.s).mono ?_); rintro e w1 ⟨L, rfl, g1⟩; have K1 := Lib.hid (K0.out.call g1); obtain ⟨b1, c1, d1⟩ := K1.out.k.z; obtain ⟨p1, q1⟩ := K1.out.p; clear g1; cases L)
        | (go_at_call 13; (with_reducible refine (hv _ K1.out.k.s).mono ?_); rintro e w2 ⟨rfl, g2⟩; have K2 := Lib.hid (K1.out.call g2); obtain ⟨b2, c2, d2⟩ := K2.out.k.z; obtain ⟨p2, q2⟩ := K2.out.p; clear g2)
        | (go_at_call 11; (with_reducible refine (awake7_any _).mono ?_); rintro e w9 ⟨rfl, g9⟩)
        | fail)
      all_goals
        go_wp2_with (first
          | (go_at_call 23; (with_reducible refine (hli _ K0.out.k.s).mono ?_); rintro e w1 ⟨L, rfl, g1⟩; have K1 := Lib.hid (K0.out.call g1); obtain ⟨b1, c1, d1⟩ := K1.out.k.z; obtain ⟨p1, q1⟩ := K1.out.p; clear g1; cases L)
          | (go_at_call 13; (with_reducible refine (hv _ K1.out.k.s).mono ?_); rintro e w2 ⟨rfl, g2⟩; have K2 := Lib.hid (K1.out.call g2); obtain ⟨b2, c2, d2⟩ := K2.out.k.z; obtain ⟨p2, q2⟩ := K2.out.p; clear g2)
          | (go_at_call 11; (with_reducible refine (awake7_any _).mono ?_); rintro e w9 ⟨rfl, g9⟩)
          | fail)
        go_ret
        first | exact ⟨rfl, (K2.out.call g9).k.b⟩ | exact ⟨rfl, (K1.out.call g9).k.b⟩
    have t1' : decide (52596000 < z) = false := by simpa using t1
    by_cases t2 : cut < y
    · clear hp1 hp2 hp3 hp4
      go_enter Try.func9, Try.ntmps9
      obtain ⟨b0, c0, d0⟩ := K0.out.k.z
      obtain ⟨p0, q0⟩ := K0.out.p
      go_wp2_with (first
        | (go_at_call 23; (with_reducible refine (hli _ K0.out.k.s).mono ?_); rintro e w1 ⟨L, rfl, g1⟩; have K1 := Lib.hid (K0.out.call g1); obtain ⟨b1, c1, d1⟩ := K1.out.k.z; obtain ⟨p1, q1⟩ := K1.out.p; clear g1; cases L)
        | (go_at_call 13; (with_reducible refine (hv _ K1.out.k.s).mono ?_); rintro e w2 ⟨rfl, g2⟩; have K2 := Lib.hid (K1.out.call g2); obtain ⟨b2, c2, d2⟩ := K2.out.k.z; obtain ⟨p2, q2⟩ := K2.out.p; clear g2)
        | (go_at_call 11; (with_reducible refine (awake7_any _).mono ?_); rintro e w9 ⟨rfl, g9⟩)
        | fail)
      all_goals
        go_wp2_with (first
          | (go_at_call 23; (with_reducible refine (hli _ K0.out.k.s).mono ?_); rintro e w1 ⟨L, rfl, g1⟩; have K1 := Lib.hid (K0.out.call g1); obtain ⟨b1, c1, d1⟩ := K1.out.k.z; obtain ⟨p1, q1⟩ := K1.out.p; clear g1; cases L)
          | (go_at_call 13; (with_reducible refine (hv _ K1.out.k.s).mono ?_); rintro e w2 ⟨rfl, g2⟩; have K2 := Lib.hid (K1.out.call g2); obtain ⟨b2, c2, d2⟩ := K2.out.k.z; obtain ⟨p2, q2⟩ := K2.out.p; clear g2)
          | (go_at_call 11; (with_reducible refine (awake7_any _).mono ?_); rintro e w9 ⟨rfl, g9⟩)
          | fail)
        go_ret
        first | exact ⟨rfl, (K2.out.call g9).k.b⟩ | exact ⟨rfl, (K1.out.call g9).k.b⟩
    have t2' : decide (cut < y) = false := by simpa using t2
    by_cases t3 : z < cut
    · clear hp1 hp2 hp3 hp4
      go_enter Try.func9, Try.ntmps9
      obtain ⟨b0, c0, d0⟩ := K0.out.k.z
      obtain ⟨p0, q0⟩ := K0.out.p
      go_wp2_with (first
        | (go_at_call 23; (with_reducible refine (hli _ K0.out.k.s).mono ?_); rintro e w1 ⟨L, rfl, g1⟩; have K1 := Lib.hid (K0.out.call g1); obtain ⟨b1, c1, d1⟩ := K1.out.k.z; obtain ⟨p1, q1⟩ := K1.out.p; clear g1; cases L)
        | (go_at_call 13; (with_reducible refine (hv _ K1.out.k.s).mono ?_); rintro e w2 ⟨rfl, g2⟩; have K2 := Lib.hid (K1.out.call g2); obtain ⟨b2, c2, d2⟩ := K2.out.k.z; obtain ⟨p2, q2⟩ := K2.out.p; clear g2)
        | (go_at_call 11; (with_reducible refine (awake7_any _).mono ?_); rintro e w9 ⟨rfl, g9⟩)
        | fail)
      all_goals
        go_wp2_with (first
          | (go_at_call 23; (with_reducible refine (hli _ K0.out.k.s).mono ?_); rintro e w1 ⟨L, rfl, g1⟩; have K1 := Lib.hid (K0.out.call g1); obtain ⟨b1, c1, d1⟩ := K1.out.k.z; obtain ⟨p1, q1⟩ := K1.out.p; clear g1; cases L)
          | (go_at_call 13; (with_reducible refine (hv _ K1.out.k.s).mono ?_); rintro e w2 ⟨rfl, g2⟩; have K2 := Lib.hid (K1.out.call g2); obtain ⟨b2, c2, d2⟩ := K2.out.k.z; obtain ⟨p2, q2⟩ := K2.out.p; clear g2)
          | (go_at_call 11; (with_reducible refine (awake7_any _).mono ?_); rintro e w9 ⟨rfl, g9⟩)
          | fail)
        go_ret
        first | exact ⟨rfl, (K2.out.call g9).k.b⟩ | exact ⟨rfl, (K1.out.call g9).k.b⟩
    have t3' : decide (z < cut) = false := by simpa using t3
    by_cases t4 : f < 0
    · clear hp1 hp2 hp3 hp4
      go_enter Try.func9, Try.ntmps9
      obtain ⟨b0, c0, d0⟩ := K0.out.k.z
      obtain ⟨p0, q0⟩ := K0.out.p
      go_wp2_with (first
        | (go_at_call 23; (with_reducible refine (hli _ K0.out.k.s).mono ?_); rintro e w1 ⟨L, rfl, g1⟩; have K1 := Lib.hid (K0.out.call g1); obtain ⟨b1, c1, d1⟩ := K1.out.k.z; obtain ⟨p1, q1⟩ := K1.out.p; clear g1; cases L)
        | (go_at_call 13; (with_reducible refine (hv _ K1.out.k.s).mono ?_); rintro e w2 ⟨rfl, g2⟩; have K2 := Lib.hid (K1.out.call g2); obtain ⟨b2, c2, d2⟩ := K2.out.k.z; obtain ⟨p2, q2⟩ := K2.out.p; clear g2)
        | (go_at_call 11; (with_reducible refine (awake7_any _).mono ?_); rintro e w9 ⟨rfl, g9⟩)
        | fail)
      all_goals
        go_wp2_with (first
          | (go_at_call 23; (with_reducible refine (hli _ K0.out.k.s).mono ?_); rintro e w1 ⟨L, rfl, g1⟩; have K1 := Lib.hid (K0.out.call g1); obtain ⟨b1, c1, d1⟩ := K1.out.k.z; obtain ⟨p1, q1⟩ := K1.out.p; clear g1; cases L)
          | (go_at_call 13; (with_reducible refine (hv _ K1.out.k.s).mono ?_); rintro e w2 ⟨rfl, g2⟩; have K2 := Lib.hid (K1.out.call g2); obtain ⟨b2, c2, d2⟩ := K2.out.k.z; obtain ⟨p2, q2⟩ := K2.out.p; clear g2)
          | (go_at_call 11; (with_reducible refine (awake7_any _).mono ?_); rintro e w9 ⟨rfl, g9⟩)
          | fail)
        go_ret
        first | exact ⟨rfl, (K2.out.call g9).k.b⟩ | exact ⟨rfl, (K1.out.call g9).k.b⟩
    have t4' : decide (f < 0) = false := by simpa using t4
    by_cases t5 : 1439 < f
    · clear hp1 hp2 hp3 hp4
      go_enter Try.func9, Try.ntmps9
      obtain ⟨b0, c0, d0⟩ := K0.out.k.z
      obtain ⟨p0, q0⟩ := K0.out.p
      go_wp2_with (first
        | (go_at_call 23; (with_reducible refine (hli _ K0.out.k.s).mono ?_); rintro e w1 ⟨L, rfl, g1⟩; have K1 := Lib.hid (K0.out.call g1); obtain ⟨b1, c1, d1⟩ := K1.out.k.z; obtain ⟨p1, q1⟩ := K1.out.p; clear g1; cases L)
        | (go_at_call 13; (with_reducible refine (hv _ K1.out.k.s).mono ?_); rintro e w2 ⟨rfl, g2⟩; have K2 := Lib.hid (K1.out.call g2); obtain ⟨b2, c2, d2⟩ := K2.out.k.z; obtain ⟨p2, q2⟩ := K2.out.p; clear g2)
        | (go_at_call 11; (with_reducible refine (awake7_any _).mono ?_); rintro e w9 ⟨rfl, g9⟩)
        | fail)
      all_goals
        go_wp2_with (first
          | (go_at_call 23; (with_reducible refine (hli _ K0.out.k.s).mono ?_); rintro e w1 ⟨L, rfl, g1⟩; have K1 := Lib.hid (K0.out.call g1); obtain ⟨b1, c1, d1⟩ := K1.out.k.z; obtain ⟨p1, q1⟩ := K1.out.p; clear g1; cases L)
          | (go_at_call 13; (with_reducible refine (hv _ K1.out.k.s).mono ?_); rintro e w2 ⟨rfl, g2⟩; have K2 := Lib.hid (K1.out.call g2); obtain ⟨b2, c2, d2⟩ := K2.out.k.z; obtain ⟨p2, q2⟩ := K2.out.p; clear g2)
          | (go_at_call 11; (with_reducible refine (awake7_any _).mono ?_); rintro e w9 ⟨rfl, g9⟩)
          | fail)
        go_ret
        first | exact ⟨rfl, (K2.out.call g9).k.b⟩ | exact ⟨rfl, (K1.out.call g9).k.b⟩
    have t5' : decide (1439 < f) = false := by simpa using t5
    by_cases t6 : t < 0
    · clear hp1 hp2 hp3 hp4
      go_enter Try.func9, Try.ntmps9
      obtain ⟨b0, c0, d0⟩ := K0.out.k.z
      obtain ⟨p0, q0⟩ := K0.out.p
      go_wp2_with (first
        | (go_at_call 23; (with_reducible refine (hli _ K0.out.k.s).mono ?_); rintro e w1 ⟨L, rfl, g1⟩; have K1 := Lib.hid (K0.out.call g1); obtain ⟨b1, c1, d1⟩ := K1.out.k.z; obtain ⟨p1, q1⟩ := K1.out.p; clear g1; cases L)
        | (go_at_call 13; (with_reducible refine (hv _ K1.out.k.s).mono ?_); rintro e w2 ⟨rfl, g2⟩; have K2 := Lib.hid (K1.out.call g2); obtain ⟨b2, c2, d2⟩ := K2.out.k.z; obtain ⟨p2, q2⟩ := K2.out.p; clear g2)
        | (go_at_call 11; (with_reducible refine (awake7_any _).mono ?_); rintro e w9 ⟨rfl, g9⟩)
        | fail)
      all_goals
        go_wp2_with (first
          | (go_at_call 23; (with_reducible refine (hli _ K0.out.k.s).mono ?_); rintro e w1 ⟨L, rfl, g1⟩; have K1 := Lib.hid (K0.out.call g1); obtain ⟨b1, c1, d1⟩ := K1.out.k.z; obtain ⟨p1, q1⟩ := K1.out.p; clear g1; cases L)
          | (go_at_call 13; (with_reducible refine (hv _ K1.out.k.s).mono ?_); rintro e w2 ⟨rfl, g2⟩; have K2 := Lib.hid (K1.out.call g2); obtain ⟨b2, c2, d2⟩ := K2.out.k.z; obtain ⟨p2, q2⟩ := K2.out.p; clear g2)
          | (go_at_call 11; (with_reducible refine (awake7_any _).mono ?_); rintro e w9 ⟨rfl, g9⟩)
          | fail)
        go_ret
        first | exact ⟨rfl, (K2.out.call g9).k.b⟩ | exact ⟨rfl, (K1.out.call g9).k.b⟩
    have t6' : decide (t < 0) = false := by simpa using t6
    by_cases t7 : 1439 < t
    · clear hp1 hp2 hp3 hp4
      go_enter Try.func9, Try.ntmps9
      obtain ⟨b0, c0, d0⟩ := K0.out.k.z
      obtain ⟨p0, q0⟩ := K0.out.p
      go_wp2_with (first
        | (go_at_call 23; (with_reducible refine (hli _ K0.out.k.s).mono ?_); rintro e w1 ⟨L, rfl, g1⟩; have K1 := Lib.hid (K0.out.call g1); obtain ⟨b1, c1, d1⟩ := K1.out.k.z; obtain ⟨p1, q1⟩ := K1.out.p; clear g1; cases L)
        | (go_at_call 13; (with_reducible refine (hv _ K1.out.k.s).mono ?_); rintro e w2 ⟨rfl, g2⟩; have K2 := Lib.hid (K1.out.call g2); obtain ⟨b2, c2, d2⟩ := K2.out.k.z; obtain ⟨p2, q2⟩ := K2.out.p; clear g2)
        | (go_at_call 11; (with_reducible refine (awake7_any _).mono ?_); rintro e w9 ⟨rfl, g9⟩)
        | fail)
      all_goals
        go_wp2_with (first
          | (go_at_call 23; (with_reducible refine (hli _ K0.out.k.s).mono ?_); rintro e w1 ⟨L, rfl, g1⟩; have K1 := Lib.hid (K0.out.call g1); obtain ⟨b1, c1, d1⟩ := K1.out.k.z; obtain ⟨p1, q1⟩ := K1.out.p; clear g1; cases L)
          | (go_at_call 13; (with_reducible refine (hv _ K1.out.k.s).mono ?_); rintro e w2 ⟨rfl, g2⟩; have K2 := Lib.hid (K1.out.call g2); obtain ⟨b2, c2, d2⟩ := K2.out.k.z; obtain ⟨p2, q2⟩ := K2.out.p; clear g2)
          | (go_at_call 11; (with_reducible refine (awake7_any _).mono ?_); rintro e w9 ⟨rfl, g9⟩)
          | fail)
        go_ret
        first | exact ⟨rfl, (K2.out.call g9).k.b⟩ | exact ⟨rfl, (K1.out.call g9).k.b⟩
    have t7' : decide (1439 < t) = false := by simpa using t7
    by_cases t8 : f = t
    · have t8' : (f == t) = true := by simpa using t8
      have HT8 := Lib.hid t8
      clear hp1 hp2 hp3 hp4 t8
      go_enter Try.func9, Try.ntmps9
      obtain ⟨b0, c0, d0⟩ := K0.out.k.z
      obtain ⟨p0, q0⟩ := K0.out.p
      go_wp2_with (first
        | (go_at_call 23; (with_reducible refine (hli _ K0.out.k.s).mono ?_); rintro e w1 ⟨L, rfl, g1⟩; have K1 := Lib.hid (K0.out.call g1); obtain ⟨b1, c1, d1⟩ := K1.out.k.z; obtain ⟨p1, q1⟩ := K1.out.p; clear g1; cases L)
        | (go_at_call 13; (with_reducible refine (hv _ K1.out.k.s).mono ?_); rintro e w2 ⟨rfl, g2⟩; have K2 := Lib.hid (K1.out.call g2); obtain ⟨b2, c2, d2⟩ := K2.out.k.z; obtain ⟨p2, q2⟩ := K2.out.p; clear g2)
        | (go_at_call 11; (with_reducible refine (awake7_any _).mono ?_); rintro e w9 ⟨rfl, g9⟩)
        | fail)
      all_goals
        go_wp2_with (first
          | (go_at_call 23; (with_reducible refine (hli _ K0.out.k.s).mono ?_); rintro e w1 ⟨L, rfl, g1⟩; have K1 := Lib.hid (K0.out.call g1); obtain ⟨b1, c1, d1⟩ := K1.out.k.z; obtain ⟨p1, q1⟩ := K1.out.p; clear g1; cases L)
          | (go_at_call 13; (with_reducible refine (hv _ K1.out.k.s).mono ?_); rintro e w2 ⟨rfl, g2⟩; have K2 := Lib.hid (K1.out.call g2); obtain ⟨b2, c2, d2⟩ := K2.out.k.z; obtain ⟨p2, q2⟩ := K2.out.p; clear g2)
          | (go_at_call 11; (with_reducible refine (awake7_any _).mono ?_); rintro e w9 ⟨rfl, g9⟩)
          | fail)
        go_ret
        first | exact ⟨rfl, (K2.out.call g9).k.b⟩ | exact ⟨rfl, (K1.out.call g9).k.b⟩
    have t8' : (f == t) = false := by simpa using t8
    have hfr : 0 ≤ f ∧ f < 1440 := ⟨by omega, by omega⟩
    have htr : 0 ≤ t ∧ t < 1440 := ⟨by omega, by omega⟩
    obtain ⟨m1, m2, m3, m4, m5⟩ := split_sums (o := o) (ss := ss) (y := y) (cut := cut) (z := z) (by omega) (by omega) hfr htr t8
    have cf : isClockB f = true := by unfold isClockB; simp; omega
    have ct : isClockB t = true := by unfold isClockB; simp; omega
    have x1 : spanB y z = true := by unfold spanB; simp; omega
    have x2 : spanB y cut = true := by unfold spanB; simp; omega
    have x3 : spanB cut z = true := by unfold spanB; simp; omega
    have e1 : bandE 0 y z f t = 0 := by unfold bandE; rw [x1, cf, ct]; rfl
    have e2 : bandE 0 y cut f t = 0 := by unfold bandE; rw [x2, cf, ct]; rfl
    have e3 : bandE 0 cut z f t = 0 := by unfold bandE; rw [x3, cf, ct]; rfl
    have e4 : bandE 0 y z t f = 0 := by unfold bandE; rw [x1, cf, ct]; rfl
    unfold bmV at hp1 hp2 hp3 hp4
    simp only [e1, if_true] at hp1
    simp only [e2, if_true] at hp2
    simp only [e3, if_true] at hp3
    simp only [e4, if_true] at hp4
    obtain ⟨A, HA⟩ : ∃ v, Hid (cnt (bandB o ss f t) y (z - y).toNat = v) := ⟨_, rfl⟩
    obtain ⟨A1, HA1⟩ : ∃ v, Hid (cnt (bandB o ss f t) y (cut - y).toNat = v) := ⟨_, rfl⟩
    obtain ⟨A2, HA2⟩ : ∃ v, Hid (cnt (bandB o ss f t) cut (z - cut).toNat = v) := ⟨_, rfl⟩
    obtain ⟨R, HR⟩ : ∃ v, Hid (cnt (bandB o ss t f) y (z - y).toNat = v) := ⟨_, rfl⟩
    simp only [HA.out] at hp1
    simp only [HA1.out] at hp2
    simp only [HA2.out] at hp3
    simp only [HR.out] at hp4
    rw [HA.out, HA1.out, HA2.out] at m1
    rw [HA.out, HR.out] at m2
    rw [HA1.out] at m3
    rw [HA2.out] at m4
    rw [HR.out] at m5
    have v1 : IntKind.i64.wrap (A1 + A2) = A := by rw [IntWalk.i64_in _ (by omega)]; exact m1
    have v2 : IntKind.i64.wrap (A + R) = z - y := by rw [IntWalk.i64_in _ (by omega)]; exact m2
    have v3 : IntKind.i64.wrap (z - y) = z - y := IntWalk.i64_in _ (by omega)
    have v4 : (A == A) = true := by simp
    have v5 : (z - y == z - y) = true := by simp
    clear m1 m2 x1 x2 x3 e1 e2 e3 e4 cf ct
    go_enter Try.func9, Try.ntmps9
    obtain ⟨b0, c0, d0⟩ := K0.out.k.z
    obtain ⟨p0, q0⟩ := K0.out.p
    go_wp2_with (first
      | (go_at_call 23; (with_reducible refine (hli _ K0.out.k.s).mono ?_); rintro e w1 ⟨L, rfl, g1⟩; have K1 := Lib.hid (K0.out.call g1); obtain ⟨b1, c1, d1⟩ := K1.out.k.z; obtain ⟨p1, q1⟩ := K1.out.p; clear g1; cases L)
      | (go_at_call 13; (with_reducible refine (hv _ K1.out.k.s).mono ?_); rintro e w2 ⟨rfl, g2⟩; have K2 := Lib.hid (K1.out.call g2); obtain ⟨b2, c2, d2⟩ := K2.out.k.z; obtain ⟨p2, q2⟩ := K2.out.p; clear g2)
      | (go_at_call 26; first | ((with_reducible refine (hp1 _ K2.out.k.s).mono ?_); rintro e w3 ⟨rfl, g3⟩; have K3 := Lib.hid (K2.out.call g3); obtain ⟨b3, c3, d3⟩ := K3.out.k.z; obtain ⟨p3, q3⟩ := K3.out.p; clear g3) | ((with_reducible refine (hp2 _ K3.out.k.s).mono ?_); rintro e w4 ⟨rfl, g4⟩; have K4 := Lib.hid (K3.out.call g4); obtain ⟨b4, c4, d4⟩ := K4.out.k.z; obtain ⟨p4, q4⟩ := K4.out.p; clear g4) | ((with_reducible refine (hp3 _ K4.out.k.s).mono ?_); rintro e w5 ⟨rfl, g5⟩; have K5 := Lib.hid (K4.out.call g5); obtain ⟨b5, c5, d5⟩ := K5.out.k.z; obtain ⟨p5, q5⟩ := K5.out.p; clear g5) | ((with_reducible refine (hp4 _ K5.out.k.s).mono ?_); rintro e w6 ⟨rfl, g6⟩; have K6 := Lib.hid (K5.out.call g6); obtain ⟨b6, c6, d6⟩ := K6.out.k.z; obtain ⟨p6, q6⟩ := K6.out.p; clear g6))
      | (go_at_call 11; (with_reducible refine (awake7_any _).mono ?_); rintro e w9 ⟨rfl, g9⟩)
      | fail)
    all_goals
      go_wp2_with (first
        | (go_at_call 23; (with_reducible refine (hli _ K0.out.k.s).mono ?_); rintro e w1 ⟨L, rfl, g1⟩; have K1 := Lib.hid (K0.out.call g1); obtain ⟨b1, c1, d1⟩ := K1.out.k.z; obtain ⟨p1, q1⟩ := K1.out.p; clear g1; cases L)
        | (go_at_call 13; (with_reducible refine (hv _ K1.out.k.s).mono ?_); rintro e w2 ⟨rfl, g2⟩; have K2 := Lib.hid (K1.out.call g2); obtain ⟨b2, c2, d2⟩ := K2.out.k.z; obtain ⟨p2, q2⟩ := K2.out.p; clear g2)
        | (go_at_call 26; first | ((with_reducible refine (hp1 _ K2.out.k.s).mono ?_); rintro e w3 ⟨rfl, g3⟩; have K3 := Lib.hid (K2.out.call g3); obtain ⟨b3, c3, d3⟩ := K3.out.k.z; obtain ⟨p3, q3⟩ := K3.out.p; clear g3) | ((with_reducible refine (hp2 _ K3.out.k.s).mono ?_); rintro e w4 ⟨rfl, g4⟩; have K4 := Lib.hid (K3.out.call g4); obtain ⟨b4, c4, d4⟩ := K4.out.k.z; obtain ⟨p4, q4⟩ := K4.out.p; clear g4) | ((with_reducible refine (hp3 _ K4.out.k.s).mono ?_); rintro e w5 ⟨rfl, g5⟩; have K5 := Lib.hid (K4.out.call g5); obtain ⟨b5, c5, d5⟩ := K5.out.k.z; obtain ⟨p5, q5⟩ := K5.out.p; clear g5) | ((with_reducible refine (hp4 _ K5.out.k.s).mono ?_); rintro e w6 ⟨rfl, g6⟩; have K6 := Lib.hid (K5.out.call g6); obtain ⟨b6, c6, d6⟩ := K6.out.k.z; obtain ⟨p6, q6⟩ := K6.out.p; clear g6))
        | (go_at_call 11; (with_reducible refine (awake7_any _).mono ?_); rintro e w9 ⟨rfl, g9⟩)
        | fail)
      go_ret
      first | exact ⟨rfl, (K6.out.call g9).k.b⟩ | exact ⟨rfl, (K1.out.call g9).k.b⟩
  · have h1 : (E != 0) = true := by simpa using h0
    clear hp1 hp2 hp3 hp4
    go_enter Try.func9, Try.ntmps9
    obtain ⟨b0, c0, d0⟩ := K0.out.k.z
    obtain ⟨p0, q0⟩ := K0.out.p
    go_wp2_with (first
      | (go_at_call 23; (with_reducible refine (hli _ K0.out.k.s).mono ?_); rintro e w1 ⟨L, rfl, g1⟩; have K1 := Lib.hid (K0.out.call g1); obtain ⟨b1, c1, d1⟩ := K1.out.k.z; obtain ⟨p1, q1⟩ := K1.out.p; clear g1; cases L)
      | (go_at_call 13; (with_reducible refine (hv _ K1.out.k.s).mono ?_); rintro e w2 ⟨rfl, g2⟩; have K2 := Lib.hid (K1.out.call g2); obtain ⟨b2, c2, d2⟩ := K2.out.k.z; obtain ⟨p2, q2⟩ := K2.out.p; clear g2)
      | (go_at_call 11; (with_reducible refine (awake7_any _).mono ?_); rintro e w9 ⟨rfl, g9⟩)
      | fail)
    all_goals
      go_wp2_with (first
        | (go_at_call 23; (with_reducible refine (hli _ K0.out.k.s).mono ?_); rintro e w1 ⟨L, rfl, g1⟩; have K1 := Lib.hid (K0.out.call g1); obtain ⟨b1, c1, d1⟩ := K1.out.k.z; obtain ⟨p1, q1⟩ := K1.out.p; clear g1; cases L)
        | (go_at_call 13; (with_reducible refine (hv _ K1.out.k.s).mono ?_); rintro e w2 ⟨rfl, g2⟩; have K2 := Lib.hid (K1.out.call g2); obtain ⟨b2, c2, d2⟩ := K2.out.k.z; obtain ⟨p2, q2⟩ := K2.out.p; clear g2)
        | (go_at_call 11; (with_reducible refine (awake7_any _).mono ?_); rintro e w9 ⟨rfl, g9⟩)
        | fail)
      go_ret
      first | exact ⟨rfl, (K2.out.call g9).k.b⟩ | exact ⟨rfl, (K1.out.call g9).k.b⟩
end Go.Proofs.Ytiohakpbgmignaa

