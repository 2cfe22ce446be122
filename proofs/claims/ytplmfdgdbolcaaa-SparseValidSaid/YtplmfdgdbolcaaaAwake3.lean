/-
  The check of the laws of sparse vectors.
-/
import Derived.Test.YtplmfdgdbolcaaaDot2
import Derived.Test.YtplmfdgdbolcaaaRound3
import Derived.Test.YtplmfdgdbolcaaaRfrac2
set_option linter.unusedVariables false
set_option linter.unusedSimpArgs false
namespace Go.Proofs.Ytplmfdgdbolcaaa
open Go.RowKit

theorem whole_k (k : Int) (h1 : 0 ≤ k) (h2 : k ≤ 100) (w : World) : Calls Try.prog 130 #[.int .i64 k] w (RetFr w k 1) := by
  have := whole_any k (by omega) (by omega) w
  rw [(r_int k).1, (r_int k).2] at this
  exact this
theorem six_one : aN 0 1 (rn (2 * 3) (1 * 1)) (rd (2 * 3) (1 * 1)) = 6 ∧ aD 0 1 (rn (2 * 3) (1 * 1)) (rd (2 * 3) (1 * 1)) = 1 := by decide

def ents (x : FE) (k : Int) : List Value := [.int .i64 k, .bool x.s, .slice x.A x.n x.c, .bool x.t, .slice x.B x.m x.d]
theorem ve_one (w : World) (x : FE) (k : Int) (t : TypeId) : VE.In (w.alloc (.cells #[.int .i64 k, .bool x.s, .slice x.A x.n x.c, .bool x.t, .slice x.B x.m x.d] t)) w.heap.size 0 ⟨k, x⟩ := by
  refine ⟨?_, ?_, ?_, ?_, ?_⟩ <;> simp
theorem ve_two (w : World) (x y : FE) (k l : Int) (t : TypeId) :
    VE.In (w.alloc (.cells #[.int .i64 k, .bool x.s, .slice x.A x.n x.c, .bool x.t, .slice x.B x.m x.d, .int .i64 l, .bool y.s, .slice y.A y.n y.c, .bool y.t, .slice y.B y.m y.d] t)) w.heap.size 0 ⟨k, x⟩ ∧
    VE.In (w.alloc (.cells #[.int .i64 k, .bool x.s, .slice x.A x.n x.c, .bool x.t, .slice x.B x.m x.d, .int .i64 l, .bool y.s, .slice y.A y.n y.c, .bool y.t, .slice y.B y.m y.d] t)) w.heap.size 5 ⟨l, y⟩ := by
  refine ⟨⟨?_, ?_, ?_, ?_, ?_⟩, ⟨?_, ?_, ?_, ?_, ?_⟩⟩ <;> simp

set_option maxHeartbeats 8000000 in
set_option maxRecDepth 100000 in
theorem awake3_any (w : World) : Calls Try.prog 66 #[] w (RetT1 w) := by
  have HH := Lib.hid (St.start w)
  go_enter Try.func66, Try.ntmps66
  go_upto_region 3 with (first
    | (go_at_call_of 130 (Value.int IntKind.i64 2); have K := HH.out; clear HH; (with_reducible refine (whole_k 2 (by decide) (by decide) _).mono ?_); rintro e wa ⟨B1, m1, q1, B2, m2, q2, rfl, d1, d2, ga⟩; have Ka := ((K.call ga).add (show CanAt wa false B2 m2 q2 1 from d2)).add (show CanAt wa false B1 m1 q1 2 from d1))
    | (go_at_call_of 130 (Value.int IntKind.i64 5); (with_reducible refine (whole_k 5 (by decide) (by decide) _).mono ?_); rintro e wb ⟨B3, m3, q3, B4, m4, q4, rfl, d3, d4, gb⟩)
    | (go_at_call_of 130 (Value.int IntKind.i64 3); (with_reducible refine (whole_k 3 (by decide) (by decide) _).mono ?_); rintro e wc ⟨B5, m5, q5, B6, m6, q6, rfl, d5, d6, gc⟩)
    | fail)
  have k1 : (digs (1 : Int).natAbs).length ≤ 1000000 := (sz_i64 (x := 1) (by decide) (by decide)).ok
  have k2 : (digs (2 : Int).natAbs).length ≤ 1000000 := (sz_i64 (x := 2) (by decide) (by decide)).ok
  have k3 : (digs (3 : Int).natAbs).length ≤ 1000000 := (sz_i64 (x := 3) (by decide) (by decide)).ok
  have k5 : (digs (5 : Int).natAbs).length ≤ 1000000 := (sz_i64 (x := 5) (by decide) (by decide)).ok
  have y1 : Sz 1 12 := (sz_i64 (x := 1) (by decide) (by decide)).mono (by decide)
  have y2 : Sz 2 12 := (sz_i64 (x := 2) (by decide) (by decide)).mono (by decide)
  have y3 : Sz 3 12 := (sz_i64 (x := 3) (by decide) (by decide)).mono (by decide)
  have y5 : Sz 5 12 := (sz_i64 (x := 5) (by decide) (by decide)).mono (by decide)
  have Kb := (((Ka.alloc (.cells #[.int .i64 1, .bool false, .slice B1 m1 q1, .bool false, .slice B2 m2 q2] 76)).call gb).add (show CanAt wb false B4 m4 q4 1 from d4)).add (show CanAt wb false B3 m3 q3 5 from d3)
  have Kc := (((Kb.call gc).add (show CanAt wc false B6 m6 q6 1 from d6)).add (show CanAt wc false B5 m5 q5 3 from d5)).alloc (.cells #[.int .i64 0, .bool false, .slice B3 m3 q3, .bool false, .slice B4 m4 q4, .int .i64 1, .bool false, .slice B5 m5 q5, .bool false, .slice B6 m6 q6] 76)
  have hva := ve_one wa ⟨false, B1, m1, q1, false, B2, m2, q2, 2, 1⟩ 1 76
  have hvb := ve_two wc ⟨false, B3, m3, q3, false, B4, m4, q4, 5, 1⟩ ⟨false, B5, m5, q5, false, B6, m6, q6, 3, 1⟩ 0 1 76
  simp only at hva hvb
  have la : wa.heap.size < (wa.alloc (.cells #[.int .i64 1, .bool false, .slice B1 m1 q1, .bool false, .slice B2 m2 q2] 76)).heap.size := by simp
  have la1 := Nat.lt_of_lt_of_le la gb.size
  have la2 := Nat.lt_of_lt_of_le la1 gc.size
  have hva3 := ((hva.call la gb).call la1 gc).call la2 (bnew _ (.cells #[.int .i64 0, .bool false, .slice B3 m3 q3, .bool false, .slice B4 m4 q4, .int .i64 1, .bool false, .slice B5 m5 q5, .bool false, .slice B6 m6 q6] 76))
  have la3 : wa.heap.size < (wc.alloc (.cells #[.int .i64 0, .bool false, .slice B3 m3 q3, .bool false, .slice B4 m4 q4, .int .i64 1, .bool false, .slice B5 m5 q5, .bool false, .slice B6 m6 q6] 76)).heap.size := by simp; omega
  have lc3 : wc.heap.size < (wc.alloc (.cells #[.int .i64 0, .bool false, .slice B3 m3 q3, .bool false, .slice B4 m4 q4, .int .i64 1, .bool false, .slice B5 m5 q5, .bool false, .slice B6 m6 q6] 76)).heap.size := by simp
  clear hva la la1 la2
  generalize wa.heap.size = ha at *
  generalize hwc : wc.heap.size = hc at *
  generalize wc.alloc (.cells #[.int .i64 0, .bool false, .slice B3 m3 q3, .bool false, .slice B4 m4 q4, .int .i64 1, .bool false, .slice B5 m5 q5, .bool false, .slice B6 m6 q6] 76) = W at *
  obtain ⟨hb0, hb5⟩ := hvb
  have jx : FE.At W ⟨false, B1, m1, q1, false, B2, m2, q2, 2, 1⟩ := ⟨Kc.ints.2.2.2.2.1.ci k2, Kc.ints.2.2.2.2.2.1.ci k1⟩
  have jy : FE.At W ⟨false, B3, m3, q3, false, B4, m4, q4, 5, 1⟩ := ⟨Kc.ints.2.2.1.ci k5, Kc.ints.2.2.2.1.ci k1⟩
  have jz : FE.At W ⟨false, B5, m5, q5, false, B6, m6, q6, 3, 1⟩ := ⟨Kc.ints.1.ci k3, Kc.ints.2.1.ci k1⟩
  have VA : VL W (some ⟨ha, 0, none⟩) [⟨1, ⟨false, B1, m1, q1, false, B2, m2, q2, 2, 1⟩⟩] := by
    refine ⟨fun e he => ?_, fun _ => ⟨ha, 0, rfl, la3, fun k e hk => ?_⟩⟩
    · rw [List.mem_singleton.1 he]; exact ⟨jx, y2, y1⟩
    · match k, hk with
      | 0, hk => simp only [List.getElem?_cons_zero, Option.some.injEq] at hk; subst hk; exact hva3
      | k + 1, hk => simp at hk
  have VB : VL W (some ⟨hc, 0, none⟩) [⟨0, ⟨false, B3, m3, q3, false, B4, m4, q4, 5, 1⟩⟩, ⟨1, ⟨false, B5, m5, q5, false, B6, m6, q6, 3, 1⟩⟩] := by
    refine ⟨fun e he => ?_, fun _ => ⟨hc, 0, rfl, lc3, fun k e hk => ?_⟩⟩
    · rcases List.mem_cons.1 he with rfl | he
      · exact ⟨jy, y5, y1⟩
      · rw [List.mem_singleton.1 he]; exact ⟨jz, y3, y1⟩
    · match k, hk with
      | 0, hk => simp only [List.getElem?_cons_zero, Option.some.injEq] at hk; subst hk; exact hb0
      | 1, hk => simp only [List.getElem?_cons_succ, List.getElem?_cons_zero, Option.some.injEq] at hk; subst hk; exact hb5
      | k + 2, hk => simp at hk
  have hboth := fun w' (hb : Below W.heap.size W w') => vboth_at (c := 1) (d := 2) (n := 2) (VA.call hb) (VB.call hb) (by simp [valid, vrest, sgn, cmpI]) (by simp [valid, vrest, sgn, cmpI]) (by simp) (by simp)
  have hdot := dot_21 (ca := 1) (cb := 2) la3 lc3 hva3 hb0 hb5 jx jz ⟨y2, y1⟩ ⟨y3, y1⟩ hboth
  have e61 := six_one
  rw [show aN 0 1 (mN ⟨false, B1, m1, q1, false, B2, m2, q2, 2, 1⟩ ⟨false, B5, m5, q5, false, B6, m6, q6, 3, 1⟩) (mD ⟨false, B1, m1, q1, false, B2, m2, q2, 2, 1⟩ ⟨false, B5, m5, q5, false, B6, m6, q6, 3, 1⟩) = 6 from e61.1, show aD 0 1 (mN ⟨false, B1, m1, q1, false, B2, m2, q2, 2, 1⟩ ⟨false, B5, m5, q5, false, B6, m6, q6, 3, 1⟩) (mD ⟨false, B1, m1, q1, false, B2, m2, q2, 2, 1⟩ ⟨false, B5, m5, q5, false, B6, m6, q6, 3, 1⟩) = 1 from e61.2] at hdot
  clear hboth VA VB jx jy jz hb0 hb5 hva3 e61
  go_upto_region 4 with (first
    | (go_at_call 131; (with_reducible refine hdot.mono ?_); rintro e w1 ⟨B7, m7, q7, B8, m8, q8, rfl, e1, e2, g1⟩; have Kd := (((Kc.call g1).add (show CanAt w1 false B8 m8 q8 1 from e2)).add (show CanAt w1 false B7 m7 q7 6 from e1)).new 42 (Plains.four false B7 m7 q7 false B8 m8 q8))
    | fail)
  clear hdot Kc
  have Ke := Kd.drew
  clear Kd
  obtain ⟨⟨p0, p1, p2, p3⟩, _⟩ := Ke.facts
  go_region_with (first
    | (go_at_call 130; (with_reducible refine (whole_k 6 (by decide) (by decide) _).mono ?_); rintro e w2 ⟨B9, m9, q9, B0, m0, q0, rfl, e9, e0, g2⟩; have Kf := ((Ke.call g2).add (show CanAt w2 false B0 m0 q0 1 from e0)).add (show CanAt w2 false B9 m9 q9 6 from e9); clear p0 p1 p2 p3; obtain ⟨⟨p0, p1, p2, p3⟩, _⟩ := Kf.facts; have i1 := Kf.ints.1.c; have i2 := Kf.ints.2.1.c; have i3 := Kf.ints.2.2.1.c; have i4 := Kf.ints.2.2.2.1.c)
    | (go_at_call 76; (with_reducible refine (sameFrac_at i3 i4 i1 i2).mono ?_); rintro e w3 ⟨rfl, g3⟩; have Kg := Kf.call g3)
    | fail)
  all_goals
    go_wp2_with fail
    go_ret
    exact ⟨rfl, Kg.below⟩
end Go.Proofs.Ytplmfdgdbolcaaa
