/-
  The check of the laws of fractions: one half plus one third is five sixths.
-/
import Derived.Test.YtplmfdgdbolcaaaFrac8
set_option linter.unusedVariables false
set_option linter.unusedSimpArgs false
namespace Go.Proofs.Ytplmfdgdbolcaaa
open Go.RowKit

theorem formatInt_at {w : World} {s : Bool} {A : Option Addr} {n c : Nat} {x : Int} (h : IntAt w s A n c x) (hn : n ≤ 100000) : Calls Try.prog 26 #[.agg #[.bool s, .slice A n c]] w (RetS w (decZ x)) := by
  obtain ⟨ds, h1, h2, h3, rfl, h5⟩ := h
  exact format_any s A n c ds w h1 h2 h3 hn
theorem fmt5 : decZ 5 = [53] := by unfold decZ; rw [if_neg (by decide), decs_small (by decide)]; rfl
theorem fmt6 : decZ 6 = [54] := by unfold decZ; rw [if_neg (by decide), decs_small (by decide)]; rfl
theorem half_third : (nwN 1 2 = 1 ∧ nwD 1 2 = 2 ∧ nwE 2 = 0) ∧ (nwN 1 3 = 1 ∧ nwD 1 3 = 3 ∧ nwE 3 = 0) ∧ (aN 1 2 1 3 = 5 ∧ aD 1 2 1 3 = 6) ∧ (rn 5 6 = 5 ∧ rd 5 6 = 6) := by decide +kernel

theorem sz_small {x : Int} (h1 : 0 ≤ x) (h2 : x ≤ 100) (k : Nat) (hk : 1 ≤ k) : Sz x k := Sz.mono (k := 1) (by unfold Sz; rw [Nat.pow_one, BB_eq]; omega) hk

set_option maxHeartbeats 4000000 in
set_option maxRecDepth 100000 in
theorem format56 {w : World} {s1 s2 : Bool} {A1 A2 : Option Addr} {n1 c1 n2 c2 : Nat} (h1 : CanAt w s1 A1 n1 c1 5) (h2 : CanAt w s2 A2 n2 c2 6) :
    Calls Try.prog 118 #[.agg #[.bool s1, .slice A1 n1 c1, .bool s2, .slice A2 n2 c2]] w (RetS w [53, 47, 54]) := by
  have z5 := fun k hk => sz_small (x := 5) (by decide) (by decide) k hk
  have z6 := fun k hk => sz_small (x := 6) (by decide) (by decide) k hk
  have k5 := (z5 1 (by decide)).ok
  have k6 := (z6 1 (by decide)).ok
  have l5 : (digs (5 : Int).natAbs).length ≤ 100000 := (z5 1 (by decide)).len2
  have l6 : (digs (6 : Int).natAbs).length ≤ 100000 := (z6 1 (by decide)).len2
  have zz5 := z5 2000 (by decide)
  have zz6 := z6 2000 (by decide)
  clear z5 z6
  have H0 := (((St.start w).add h1).add h2).new 42 (Plains.four s1 A1 n1 c1 s2 A2 n2 c2)
  have HH := Lib.hid H0
  clear H0 h1 h2
  go_enter Try.func118, Try.ntmps118
  go_upto_region 2 with (first
    | (go_at_call 121; have K := HH.out; clear HH; have i1 := K.ints.2.1.ci k5; have i2 := K.ints.1.ci k6; (with_reducible refine (canonFrac_at i1 i2 zz5 zz6).mono ?_); rw [half_third.2.2.2.1, half_third.2.2.2.2]; rintro e wa ⟨B1, m1, q1, B2, m2, q2, rfl, d1, d2, ga⟩; have Ka := ((K.call ga).add (show CanAt wa false B2 m2 q2 6 from d2)).add (show CanAt wa false B1 m1 q1 5 from d1); obtain ⟨⟨p0, p1, p2, p3⟩, _⟩ := Ka.facts; obtain ⟨f0, f1, f2, f3⟩ := Ka.free (i := 0) rfl)
    | fail)
  have Kp := Ka.put4 0 rfl false B1 m1 q1 false B2 m2 q2
  simp only [List.set] at Kp
  clear K Ka i1 i2 p0 p1 p2 p3 f0 f1 f2 f3 d1 d2 ga
  generalize ((((wa.setCell ⟨w.heap.size, 0, none⟩ (.bool false)).setCell ⟨w.heap.size, 1, none⟩ (.slice B1 m1 q1)).setCell ⟨w.heap.size, 2, none⟩ (.bool false)).setCell ⟨w.heap.size, 3, none⟩ (.slice B2 m2 q2)) = W4 at Kp ⊢
  have Kd := Kp.drew
  clear Kp
  obtain ⟨⟨p0, p1, p2, p3⟩, _⟩ := Kd.facts
  have i5 := Kd.ints.1.ci k5
  have hm1 : m1 ≤ 100000 := by rw [← Kd.ints.1.c.2.1.len]; exact l5
  have hm2 : m2 ≤ 100000 := by rw [← Kd.ints.2.1.c.2.1.len]; exact l6
  go_region_held3 (fun w' => w'.cell? ⟨w.heap.size, 0, none⟩ = some (.bool false) ∧ w'.cell? ⟨w.heap.size, 1, none⟩ = some (.slice B1 m1 q1) ∧ w'.cell? ⟨w.heap.size, 2, none⟩ = some (.bool false) ∧ w'.cell? ⟨w.heap.size, 3, none⟩ = some (.slice B2 m2 q2))
    (go_keep)
    (first
      | (go_at_call_of 26 (Value.agg #[Value.bool false, Value.slice B1 m1 q1]); (with_reducible refine (formatInt_at i5 hm1).mono ?_); rw [fmt5]; rintro e wb ⟨rfl, gb⟩; have Kb := Kd.call gb; clear p0 p1 p2 p3; obtain ⟨⟨p0, p1, p2, p3⟩, _⟩ := Kb.facts; have i6 := Kb.ints.2.1.ci k6)
      | (go_at_call_of 26 (Value.agg #[Value.bool false, Value.slice B2 m2 q2]); (with_reducible refine (formatInt_at i6 hm2).mono ?_); rw [fmt6]; rintro e wc ⟨rfl, gc⟩; have Kc := Kb.call gc; clear p0 p1 p2 p3; obtain ⟨⟨p0, p1, p2, p3⟩, _⟩ := Kc.facts)
      | fail)
  go_wp2_with fail
  go_ret
  exact ⟨rfl, Kc.below⟩

set_option maxHeartbeats 4000000 in
set_option maxRecDepth 100000 in
theorem awake2_any (w : World) : Calls Try.prog 32 #[] w (RetT1 w) := by
  have z1 := fun k hk => sz_small (x := 1) (by decide) (by decide) k hk
  have z2 := fun k hk => sz_small (x := 2) (by decide) (by decide) k hk
  have z3 := fun k hk => sz_small (x := 3) (by decide) (by decide) k hk
  have k1 := (z1 1 (by decide)).ok
  have k2 := (z2 1 (by decide)).ok
  have k3 := (z3 1 (by decide)).ok
  have y1 := z1 900 (by decide)
  have y2 := z2 900 (by decide)
  have y3 := z3 900 (by decide)
  clear z1 z2 z3
  have HH := Lib.hid (St.start w)
  go_enter Try.func32, Try.ntmps32
  go_upto_region 3 with (first
    | (go_at_call_of 52 (Value.int IntKind.i64 2); have K := HH.out; clear HH; (with_reducible refine (fromInts_any 1 2 (by decide) (by decide) (by decide) (by decide) _).mono ?_); rw [half_third.1.1, half_third.1.2.1, half_third.1.2.2]; rintro e wa ⟨B1, m1, q1, B2, m2, q2, rfl, d1, d2, ga⟩; have Ka := (((K.call ga).add (show CanAt wa false B2 m2 q2 2 from d2)).add (show CanAt wa false B1 m1 q1 1 from d1)).new 42 (Plains.four false B1 m1 q1 false B2 m2 q2))
    | (go_at_call_of 52 (Value.int IntKind.i64 3); (with_reducible refine (fromInts_any 1 3 (by decide) (by decide) (by decide) (by decide) _).mono ?_); rw [half_third.2.1.1, half_third.2.1.2.1, half_third.2.1.2.2]; rintro e wb ⟨B3, m3, q3, B4, m4, q4, rfl, d3, d4, gb⟩; have Kb := (((Ka.call gb).add (show CanAt wb false B4 m4 q4 3 from d4)).add (show CanAt wb false B3 m3 q3 1 from d3)).new 42 (Plains.four false B3 m3 q3 false B4 m4 q4))
    | fail)
  obtain ⟨⟨p0, p1, p2, p3⟩, ⟨p4, p5, p6, p7⟩, _⟩ := Kb.facts
  have i1 := Kb.ints.2.2.1.ci k1
  have i2 := Kb.ints.2.2.2.1.ci k2
  have i3 := Kb.ints.1.ci k1
  have i4 := Kb.ints.2.1.ci k3
  go_wp2_with (first
    | (go_at_call 44; (with_reducible refine (fadd_at i1 i2 i3 i4 y1 y2 y1 y3).mono ?_); rw [half_third.2.2.1.1, half_third.2.2.1.2]; rintro e wc ⟨B5, m5, q5, B6, m6, q6, rfl, d5, d6, gc⟩; have Kc := Kb.call gc)
    | (go_at_call 118; (with_reducible refine (format56 (show CanAt _ false B5 m5 q5 5 from d5) (show CanAt _ false B6 m6 q6 6 from d6)).mono ?_); rintro e wd ⟨rfl, gd⟩; have Kd := Kc.call gd)
    | fail)
  go_ret
  exact ⟨rfl, Kd.below⟩
end Go.Proofs.Ytplmfdgdbolcaaa
