/-
  Zones: the laws on what is valid and on offsets.
-/
import Derived.Test.YtiohakpbgmignaaZaC
set_option linter.unusedVariables false
set_option linter.unusedSimpArgs false
namespace Go.Proofs.Ytiohakpbgmignaa
open Go.RowKit

/-- A zone in memory, its shifts, and all that lay when the call began. -/
structure KZ (w w' : World) (b : Nat) (nm : List UInt8) (o : Int) (a : Option Addr) (n c : Nat) (ss : List (Int × Int)) : Prop where
  z : BoxZ w' b nm o a n c
  s : ShIn w' a n ss
  b : Below w.heap.size w w'
theorem KZ.start {w : World} {nm : List UInt8} {o : Int} {a : Option Addr} {n c : Nat} {ss : List (Int × Int)} (h : ShIn w a n ss) (t : TypeId) : KZ w (w.alloc (.cells #[.string ⟨nm.toArray⟩, .int .i64 o, .slice a n c] t)) w.heap.size nm o a n c ss :=
  ⟨boxZ_new _ _ _ _ _ _ _, h.call (cnew _ _), cnew _ _⟩
theorem KZ.call {w w1 w2 : World} {b : Nat} {nm : List UInt8} {o : Int} {a : Option Addr} {n c : Nat} {ss : List (Int × Int)} (h : KZ w w1 b nm o a n c ss) (g : Below w1.heap.size w1 w2) : KZ w w2 b nm o a n c ss :=
  ⟨h.z.call g, h.s.call g, h.b.trans (g.mono h.b.size)⟩
theorem KZ.drew {w w1 : World} {b : Nat} {nm : List UInt8} {o : Int} {a : Option Addr} {n c : Nat} {ss : List (Int × Int)} (h : KZ w w1 b nm o a n c ss) : KZ w w1.drew b nm o a n c ss := h.call ((Below.refl _ _).drew)
set_option maxHeartbeats 8000000 in
set_option maxRecDepth 1000000 in
theorem zoneValid_any (nm : List UInt8) (hnl : nm.length ≤ 9223372036854775807) (o : Int) (a : Option Addr) (n c : Nat) (ss : List (Int × Int)) (w : World) (hS : ShIn w a n ss) (hn : n ≤ 9223372036854775807) : Calls Try.prog 3 #[.agg #[.string ⟨nm.toArray⟩, .int .i64 o, .slice a n c]] w (RetB1 w true) := by
  have hp := fun w hS => validate_any nm hnl o a n c ss w hS hn
  have hr := fun w hS => rvalidate_any nm hnl o a n c ss w hS hn
  have K0 := Lib.hid (KZ.start (nm := nm) (o := o) (c := c) hS 24)
  obtain ⟨E, HE⟩ : ∃ v, Hid (zE (nameB nm) o ss = v) := ⟨_, rfl⟩
  simp only [HE.out] at hp hr
  clear hS
  by_cases hbig : 40 < n
  · have q1 : (40 : Int) < (n : Int) := by omega
    go_enter Try.func3, Try.ntmps3
    obtain ⟨b0, b1, b2⟩ := K0.out.z
    go_wp2_with (first
      | (go_at_call 11; (with_reducible refine (awake7_any _).mono ?_); rintro e w1 ⟨rfl, g1⟩)
      | fail)
    go_ret
    exact ⟨rfl, (K0.out.call g1).b⟩
  have q1 : ¬ (40 : Int) < (n : Int) := by omega
  go_enter Try.func3, Try.ntmps3
  obtain ⟨b0, b1, b2⟩ := K0.out.z
  go_upto_region 3 with fail
  go_region_held3 (fun w' => w'.cell? ⟨w.heap.size, 0, none⟩ = some (.string ⟨nm.toArray⟩) ∧ w'.cell? ⟨w.heap.size, 1, none⟩ = some (.int .i64 o) ∧ w'.cell? ⟨w.heap.size, 2, none⟩ = some (.slice a n c))
    (first | exact ⟨b0, b1, b2⟩ | exact ⟨c0, c1, c2⟩ | exact ⟨d0, d1, d2⟩ | exact ⟨f0, f1, f2⟩ | exact K0.out.z)
    (first
      | (go_at_call 12; (with_reducible refine (hp _ (by first | exact K0.out.s | exact K0.out.drew.s)).mono ?_); rintro e w1 ⟨rfl, g1⟩; have K1 := Lib.hid (K0.out.call (by first | exact g1 | exact (Below.refl _ _).drew.trans g1)); obtain ⟨c0, c1, c2⟩ := K1.out.z)
      | (go_at_call 13; (with_reducible refine (hr _ K1.out.s).mono ?_); rintro e w2 ⟨rfl, g2⟩; have K2 := Lib.hid (K1.out.call g2); obtain ⟨d0, d1, d2⟩ := K2.out.z)
      | (go_at_call 11; (with_reducible refine (awake7_any _).mono ?_); rintro e w3 ⟨rfl, g3⟩; have K3 := Lib.hid (K2.out.call g3); obtain ⟨f0, f1, f2⟩ := K3.out.z)
      | fail)
  all_goals
    go_wp2_with fail
    go_ret
    exact ⟨rfl, K3.out.b⟩
set_option maxHeartbeats 8000000 in
set_option maxRecDepth 1000000 in
theorem zoneOffsets_any (nm : List UInt8) (hnl : nm.length ≤ 9223372036854775807) (o : Int) (a : Option Addr) (n c : Nat) (ss : List (Int × Int)) (w : World) (hS : ShIn w a n ss) (hn : n ≤ 9223372036854775807) (t : Int) (ht : -9223372036854775808 ≤ t ∧ t ≤ 9223372036854775807) : Calls Try.prog 4 #[.agg #[.string ⟨nm.toArray⟩, .int .i64 o, .slice a n c], .int .i64 t] w (RetB1 w true) := by
  have hp1 := fun w hS => offsetAt_any nm hnl o a n c ss w hS hn t
  have hr1 := fun w hS => roffsetAt_any nm hnl o a n c ss w hS hn t
  have hp2 := fun w hS => localMinute_any nm hnl o a n c ss w hS hn t
  have hr2 := fun w hS => rlocalMinute_any nm hnl o a n c ss w hS hn t
  have hp3 := fun w hS => localTime_any nm hnl o a n c ss w hS hn t
  have hr3 := fun w hS => rlocalTime_any nm hnl o a n c ss w hS hn t
  have K0 := Lib.hid (KZ.start (nm := nm) (o := o) (c := c) hS 24)
  obtain ⟨E, HE⟩ : ∃ v, Hid (zE (nameB nm) o ss = v) := ⟨_, rfl⟩
  simp only [HE.out] at hp1 hr1 hp2 hr2 hp3 hr3
  obtain ⟨X, HX⟩ : ∃ v, Hid (atE E t = v) := ⟨_, rfl⟩
  simp only [HX.out] at hp1 hr1 hp2 hr2 hp3 hr3
  obtain ⟨V1, HV1⟩ : ∃ v, Hid (atV E o ss t = v) := ⟨_, rfl⟩
  obtain ⟨V2, HV2⟩ : ∃ v, Hid (loV E o ss t = v) := ⟨_, rfl⟩
  obtain ⟨V3, HV3⟩ : ∃ v, Hid (ltD E o ss t = v) := ⟨_, rfl⟩
  obtain ⟨V4, HV4⟩ : ∃ v, Hid (ltC E o ss t = v) := ⟨_, rfl⟩
  simp only [HV1.out] at hp1 hr1
  simp only [HV2.out] at hp2 hr2
  simp only [HV3.out, HV4.out] at hp3 hr3
  clear hS
  by_cases hbig : 40 < n
  · have q1 : (40 : Int) < (n : Int) := by omega
    go_enter Try.func4, Try.ntmps4
    obtain ⟨b0, b1, b2⟩ := K0.out.z
    go_wp2_with (first
      | (go_at_call 11; (with_reducible refine (awake7_any _).mono ?_); rintro e w1 ⟨rfl, g1⟩)
      | fail)
    go_ret
    exact ⟨rfl, (K0.out.call g1).b⟩
  have q1 : ¬ (40 : Int) < (n : Int) := by omega
  go_enter Try.func4, Try.ntmps4
  obtain ⟨b0, b1, b2⟩ := K0.out.z
  go_wp2_with (first
    | (go_at_call 14; (with_reducible refine (hp1 _ K0.out.s).mono ?_); rintro e w1 ⟨rfl, g1⟩; have K1 := Lib.hid (K0.out.call g1); obtain ⟨b1, c1, d1⟩ := K1.out.z; clear g1)
    | (go_at_call 15; (with_reducible refine (hr1 _ K1.out.s).mono ?_); rintro e w2 ⟨rfl, g2⟩; have K2 := Lib.hid (K1.out.call g2); obtain ⟨b2, c2, d2⟩ := K2.out.z; clear g2)
    | (go_at_call 16; (with_reducible refine (hp2 _ K2.out.s).mono ?_); rintro e w3 ⟨rfl, g3⟩; have K3 := Lib.hid (K2.out.call g3); obtain ⟨b3, c3, d3⟩ := K3.out.z; clear g3)
    | (go_at_call 17; (with_reducible refine (hr2 _ K3.out.s).mono ?_); rintro e w4 ⟨rfl, g4⟩; have K4 := Lib.hid (K3.out.call g4); obtain ⟨b4, c4, d4⟩ := K4.out.z; clear g4)
    | (go_at_call 18; (with_reducible refine (hp3 _ K4.out.s).mono ?_); rintro e w5 ⟨rfl, g5⟩; have K5 := Lib.hid (K4.out.call g5); obtain ⟨b5, c5, d5⟩ := K5.out.z; clear g5)
    | (go_at_call 19; (with_reducible refine (hr3 _ K5.out.s).mono ?_); rintro e w6 ⟨rfl, g6⟩; have K6 := Lib.hid (K5.out.call g6); obtain ⟨b6, c6, d6⟩ := K6.out.z; clear g6)
    | (go_at_call 11; (with_reducible refine (awake7_any _).mono ?_); rintro e w7 ⟨rfl, g7⟩)
    | fail)
  go_ret
  exact ⟨rfl, (K6.out.call g7).b⟩
end Go.Proofs.Ytiohakpbgmignaa

