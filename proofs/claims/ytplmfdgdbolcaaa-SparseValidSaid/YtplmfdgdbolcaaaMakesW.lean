/-
  The walk of the law RationalMakes.
-/
import Derived.Test.YtplmfdgdbolcaaaFrac9
import Derived.Test.YtplmfdgdbolcaaaRfrac2
set_option linter.unusedVariables false
set_option linter.unusedSimpArgs false
namespace Go.Proofs.Ytplmfdgdbolcaaa
open Go.RowKit

theorem same2_at {w : World} {s1 s2 s3 s4 : Bool} {A1 A2 A3 A4 : Option Addr} {n1 c1 n2 c2 n3 c3 n4 c4 : Nat} {x y : Int} (h1 : CanAt w s1 A1 n1 c1 x) (h2 : CanAt w s2 A2 n2 c2 y) (h3 : CanAt w s3 A3 n3 c3 x) (h4 : CanAt w s4 A4 n4 c4 y) :
    Calls Try.prog 39 #[.agg #[.bool s1, .slice A1 n1 c1, .bool s2, .slice A2 n2 c2], .agg #[.bool s3, .slice A3 n3 c3, .bool s4, .slice A4 n4 c4]] w (RetT1 w) := by
  have H0 := ((((((St.start w).add h4).add h3).add h2).add h1).new 42 (Plains.four s1 A1 n1 c1 s2 A2 n2 c2)).new 42 (Plains.four s3 A3 n3 c3 s4 A4 n4 c4)
  simp only [World.size_alloc] at H0
  have HH := Lib.hid H0
  clear H0 h1 h2 h3 h4
  go_enter Try.func39, Try.ntmps39
  go_wp2_with (first
    | (go_at_call 76; have K := HH.out; clear HH; have i1 := K.ints.1.c; have i2 := K.ints.2.1.c; have i3 := K.ints.2.2.1.c; have i4 := K.ints.2.2.2.1.c; (with_reducible refine (sameFrac_at i1 i2 i3 i4).mono ?_); rintro e w1 ⟨rfl, g1⟩; have K1 := K.call g1)
    | fail)
  go_ret
  exact ⟨rfl, K1.below⟩

set_option maxHeartbeats 8000000 in
set_option maxRecDepth 100000 in
theorem makes_law (x1 x2 : Bool) (A1 A2 : Option Addr) (n1 c1 n2 c2 : Nat) (k l : Int) (d1 d2 : List Nat) (w : World) (h1 : Dgs w w.heap.size A1 n1 d1) (h2 : Dgs w w.heap.size A2 n2 d2)
    (hc1 : n1 ≤ c1) (hm1 : c1 ≤ maxLen) (hc2 : n2 ≤ c2) (hm2 : c2 ≤ maxLen) (hn1 : n1 ≤ 140737488351232) (hn2 : n2 ≤ 140737488351232)
    (hk1 : -9223372036854775808 ≤ k) (hk2 : k ≤ 9223372036854775807) (hl1 : -9223372036854775808 ≤ l) (hl2 : l ≤ 9223372036854775807) :
    Calls Try.prog 7 #[.agg #[.bool x1, .slice A1 n1 c1], .agg #[.bool x2, .slice A2 n2 c2], .int .i64 k, .int .i64 l] w (RetT1 w) := by
  have hb3 : Below w.heap.size w (((w.alloc (.cells #[.bool x1, .slice A1 n1 c1] 24)).alloc (.cells #[.bool x2, .slice A2 n2 c2] 24)).alloc (.cells #[.bool x1, .slice A1 n1 c1, .bool x2, .slice A2 n2 c2] 24)) := (bnew2 _ _ _).alloc (by simp; omega) _
  by_cases hl : n1 + n2 ≤ 60
  · have hlight := light2 (w := ((w.alloc (.cells #[.bool x1, .slice A1 n1 c1] 24)).alloc (.cells #[.bool x2, .slice A2 n2 c2] 24))) (x1 := x1) (x2 := x2) (A1 := A1) (A2 := A2) (c1 := c1) (c2 := c2) (g := w.heap.size + 1 + 1) (by simp) hn1 hn2 true (by simp [hl])
    have H0 := (((((St.start w).addI (s := x1) ⟨d1, h1, hc1, hm1, rfl, by omega⟩).addI (s := x2) ⟨d2, h2, hc2, hm2, rfl, by omega⟩).new 24 (Plains.two x1 A1 n1 c1)).new 24 (Plains.two x2 A2 n2 c2)).alloc (.cells #[.bool x1, .slice A1 n1 c1, .bool x2, .slice A2 n2 c2] 24)
    simp only [World.size_alloc] at H0
    have za1 := ((sz_of h1 x1).mono (show n1 ≤ 60 by omega)).mono (show 60 ≤ 1900 by decide)
    have zb1 := ((sz_of h2 x2).mono (show n2 ≤ 60 by omega)).mono (show 60 ≤ 1900 by decide)
    clear h1 h2 hb3 hl
    generalize zOf x1 (val d1) = a at *
    generalize zOf x2 (val d2) = b at *
    have za2 : Sz a 2000 := za1.mono (by decide)
    have zb2 : Sz b 2000 := zb1.mono (by decide)
    obtain ⟨x, HX⟩ : ∃ v, Hid (nwN a b = v) := ⟨_, rfl⟩
    obtain ⟨y, HY⟩ : ∃ v, Hid (nwD a b = v) := ⟨_, rfl⟩
    obtain ⟨er, HE⟩ : ∃ v, Hid (nwE b = v) := ⟨_, rfl⟩
    obtain ⟨u, HU⟩ : ∃ v, Hid (nwN k l = v) := ⟨_, rfl⟩
    obtain ⟨t, HT⟩ : ∃ v, Hid (nwD k l = v) := ⟨_, rfl⟩
    obtain ⟨es, HE2⟩ : ∃ v, Hid (nwE l = v) := ⟨_, rfl⟩
    obtain ⟨i, HI⟩ : ∃ v, Hid (rn a 1 = v) := ⟨_, rfl⟩
    obtain ⟨j, HJ⟩ : ∃ v, Hid (rd a 1 = v) := ⟨_, rfl⟩
    have HH := Lib.hid H0
    clear H0
    go_enter Try.func7, Try.ntmps7
    go_upto_region 4 with (first
      | (go_at_call 14; (with_reducible refine hlight.mono ?_); rintro e w' ⟨rfl, rfl⟩; have K0 := HH.out; clear HH; have i2 := K0.ints.1.i; have i1 := K0.ints.2.1.i)
      | (go_at_call 50; (with_reducible refine (new_at i1 i2 za2 zb2).mono ?_); rw [HX.out, HY.out, HE.out]; rintro e w1 ⟨B1, m1, q1, B2, m2, q2, rfl, e1, e2, g1⟩; have K1 := (((K0.call g1).add e2).add e1).new 42 (Plains.four (decide (x < 0)) B1 m1 q1 (decide (y < 0)) B2 m2 q2))
      | fail)
    clear K0 hlight i1 i2 e1 e2 g1
    generalize w1.alloc (.cells #[.bool (decide (x < 0)), .slice B1 m1 q1, .bool (decide (y < 0)), .slice B2 m2 q2] 42) = W1 at K1 ⊢
    generalize w1.heap.size = h9 at K1 ⊢
    have i1 := K1.ints.2.2.2.1.i
    have i2 := K1.ints.2.2.1.i
    obtain ⟨_, ⟨p0, p1⟩, ⟨p2, p3⟩, _⟩ := K1.facts
    go_upto_region 5 with (first
      | (go_at_call 51; (with_reducible refine (rnew_at i1 i2 za1 zb1).mono ?_); rw [HX.out, HY.out, HE.out]; rintro e w2 ⟨B3, m3, q3, B4, m4, q4, rfl, e3, e4, g2⟩; have K2 := (((K1.call g2).add e4).add e3).new 42 (Plains.four (decide (x < 0)) B3 m3 q3 (decide (y < 0)) B4 m4 q4))
      | fail)
    clear K1 i1 i2 e3 e4 g2 p0 p1 p2 p3
    generalize w2.alloc (.cells #[.bool (decide (x < 0)), .slice B3 m3 q3, .bool (decide (y < 0)), .slice B4 m4 q4] 42) = W2 at K2 ⊢
    generalize w2.heap.size = h11 at K2 ⊢
    go_upto_region 6 with (first
      | (go_at_call 52; (with_reducible refine (fromInts_any k l hk1 hk2 hl1 hl2 _).mono ?_); rw [HU.out, HT.out, HE2.out]; rintro e w3 ⟨B5, m5, q5, B6, m6, q6, rfl, e5, e6, g3⟩; have K3 := (((K2.call g3).add e6).add e5).new 42 (Plains.four (decide (u < 0)) B5 m5 q5 (decide (t < 0)) B6 m6 q6))
      | fail)
    clear K2 e5 e6 g3
    generalize w3.alloc (.cells #[.bool (decide (u < 0)), .slice B5 m5 q5, .bool (decide (t < 0)), .slice B6 m6 q6] 42) = W3 at K3 ⊢
    generalize w3.heap.size = h13 at K3 ⊢
    go_upto_region 7 with (first
      | (go_at_call 53; (with_reducible refine (rfromInts_any k l hk1 hk2 hl1 hl2 _).mono ?_); rw [HU.out, HT.out, HE2.out]; rintro e w4 ⟨B7, m7, q7, B8, m8, q8, rfl, e7, e8, g4⟩; have K4 := (((K3.call g4).add e8).add e7).new 42 (Plains.four (decide (u < 0)) B7 m7 q7 (decide (t < 0)) B8 m8 q8))
      | fail)
    clear K3 e7 e8 g4
    generalize w4.alloc (.cells #[.bool (decide (u < 0)), .slice B7 m7 q7, .bool (decide (t < 0)), .slice B8 m8 q8] 42) = W4 at K4 ⊢
    generalize w4.heap.size = h15 at K4 ⊢
    have KL := K4.drew
    clear K4
    obtain ⟨⟨p0, p1, p2, p3⟩, ⟨p4, p5, p6, p7⟩, ⟨p8, p9, pa, pb⟩, ⟨pc, pd, pe, pf⟩, _, ⟨pg, ph⟩, _⟩ := KL.facts
    have j7 := KL.ints.1.c
    have j8 := KL.ints.2.1.c
    have j5 := KL.ints.2.2.1.c
    have j6 := KL.ints.2.2.2.1.c
    have j3 := KL.ints.2.2.2.2.1.c
    have j4 := KL.ints.2.2.2.2.2.1.c
    have j1 := KL.ints.2.2.2.2.2.2.1.c
    have j2 := KL.ints.2.2.2.2.2.2.2.1.c
    go_region_held3 (fun w' => w'.cell? ⟨h15, 0, none⟩ = some (.bool (decide (u < 0))) ∧ w'.cell? ⟨h15, 1, none⟩ = some (.slice B7 m7 q7) ∧ w'.cell? ⟨h15, 2, none⟩ = some (.bool (decide (t < 0))) ∧ w'.cell? ⟨h15, 3, none⟩ = some (.slice B8 m8 q8) ∧ w'.cell? ⟨h13, 0, none⟩ = some (.bool (decide (u < 0))) ∧ w'.cell? ⟨h13, 1, none⟩ = some (.slice B5 m5 q5) ∧ w'.cell? ⟨h13, 2, none⟩ = some (.bool (decide (t < 0))) ∧ w'.cell? ⟨h13, 3, none⟩ = some (.slice B6 m6 q6) ∧ w'.cell? ⟨h11, 0, none⟩ = some (.bool (decide (x < 0))) ∧ w'.cell? ⟨h11, 1, none⟩ = some (.slice B3 m3 q3) ∧ w'.cell? ⟨h11, 2, none⟩ = some (.bool (decide (y < 0))) ∧ w'.cell? ⟨h11, 3, none⟩ = some (.slice B4 m4 q4) ∧ w'.cell? ⟨h9, 0, none⟩ = some (.bool (decide (x < 0))) ∧ w'.cell? ⟨h9, 1, none⟩ = some (.slice B1 m1 q1) ∧ w'.cell? ⟨h9, 2, none⟩ = some (.bool (decide (y < 0))) ∧ w'.cell? ⟨h9, 3, none⟩ = some (.slice B2 m2 q2) ∧ w'.cell? ⟨w.heap.size, 0, none⟩ = some (.bool x1) ∧ w'.cell? ⟨w.heap.size, 1, none⟩ = some (.slice A1 n1 c1))
      (go_keep)
      (first
        | (go_at_call_of 39 (Value.agg #[Value.bool (decide (x < 0)), Value.slice B1 m1 q1, Value.bool (decide (y < 0)), Value.slice B2 m2 q2]); (with_reducible refine (same2_at j1 j2 j3 j4).mono ?_); rintro e ws0 ⟨rfl, fs0⟩; have KM := KL.call fs0; clear KL; have KL := KM; clear KM; clear p0 p1 p2 p3 p4 p5 p6 p7 p8 p9 pa pb pc pd pe pf pg ph; obtain ⟨⟨p0, p1, p2, p3⟩, ⟨p4, p5, p6, p7⟩, ⟨p8, p9, pa, pb⟩, ⟨pc, pd, pe, pf⟩, _, ⟨pg, ph⟩, _⟩ := KL.facts; clear j5 j6 j7 j8; have j7 := KL.ints.1.c; have j8 := KL.ints.2.1.c; have j5 := KL.ints.2.2.1.c; have j6 := KL.ints.2.2.2.1.c)
        | (go_at_call_of 39 (Value.agg #[Value.bool (decide (u < 0)), Value.slice B5 m5 q5, Value.bool (decide (t < 0)), Value.slice B6 m6 q6]); (with_reducible refine (same2_at j5 j6 j7 j8).mono ?_); rintro e ws1 ⟨rfl, fs1⟩; have KM := KL.call fs1; clear KL; have KL := KM; clear KM; clear p0 p1 p2 p3 p4 p5 p6 p7 p8 p9 pa pb pc pd pe pf pg ph; obtain ⟨⟨p0, p1, p2, p3⟩, ⟨p4, p5, p6, p7⟩, ⟨p8, p9, pa, pb⟩, ⟨pc, pd, pe, pf⟩, _, ⟨pg, ph⟩, _⟩ := KL.facts; have ia := KL.ints.2.2.2.2.2.2.2.2.2.1.i)
        | (go_at_call 54; (with_reducible refine (fromInt_at ia za2).mono ?_); rw [HI.out, HJ.out]; rintro e wm ⟨D1, o1, r1, D2, o2, r2, rfl, e1, e2, g5⟩; have KM := ((KL.call g5).add e2).add e1; clear KL; have KL := KM; clear KM; clear p0 p1 p2 p3 p4 p5 p6 p7 p8 p9 pa pb pc pd pe pf pg ph; obtain ⟨⟨p0, p1, p2, p3⟩, ⟨p4, p5, p6, p7⟩, ⟨p8, p9, pa, pb⟩, ⟨pc, pd, pe, pf⟩, _, ⟨pg, ph⟩, _⟩ := KL.facts; have ja := KL.ints.2.2.2.2.2.2.2.2.2.2.2.1.i)
        | (go_at_call 55; (with_reducible refine (rfromInt_at ja za1).mono ?_); rw [HI.out, HJ.out]; rintro e wn ⟨D3, o3, r3, D4, o4, r4, rfl, e3, e4, g6⟩; have KM := ((KL.call g6).add e4).add e3; clear KL; have KL := KM; clear KM; clear p0 p1 p2 p3 p4 p5 p6 p7 p8 p9 pa pb pc pd pe pf pg ph; obtain ⟨⟨p0, p1, p2, p3⟩, ⟨p4, p5, p6, p7⟩, ⟨p8, p9, pa, pb⟩, ⟨pc, pd, pe, pf⟩, _, ⟨pg, ph⟩, _⟩ := KL.facts; have s3 := KL.ints.1.c; have s4 := KL.ints.2.1.c; have s1 := KL.ints.2.2.1.c; have s2 := KL.ints.2.2.2.1.c)
        | (go_at_call 39; (with_reducible refine (same2_at s1 s2 s3 s4).mono ?_); rintro e ws2 ⟨rfl, fs2⟩; have KM := KL.call fs2; clear KL; have KL := KM; clear KM; clear p0 p1 p2 p3 p4 p5 p6 p7 p8 p9 pa pb pc pd pe pf pg ph; obtain ⟨⟨p0, p1, p2, p3⟩, ⟨p4, p5, p6, p7⟩, ⟨p8, p9, pa, pb⟩, ⟨pc, pd, pe, pf⟩, _, ⟨pg, ph⟩, _⟩ := KL.facts)
        | (go_at_call 32; (with_reducible refine (awake2_any _).mono ?_); rintro e wj ⟨rfl, fj⟩; have KM := KL.call fj; clear KL; have KL := KM; clear KM; clear p0 p1 p2 p3 p4 p5 p6 p7 p8 p9 pa pb pc pd pe pf pg ph; obtain ⟨⟨p0, p1, p2, p3⟩, ⟨p4, p5, p6, p7⟩, ⟨p8, p9, pa, pb⟩, ⟨pc, pd, pe, pf⟩, _, ⟨pg, ph⟩, _⟩ := KL.facts)
        | fail)
    all_goals (go_wp2; go_ret; exact ⟨rfl, KL.below⟩)
  · have hlight := light2 (w := ((w.alloc (.cells #[.bool x1, .slice A1 n1 c1] 24)).alloc (.cells #[.bool x2, .slice A2 n2 c2] 24))) (x1 := x1) (x2 := x2) (A1 := A1) (A2 := A2) (c1 := c1) (c2 := c2) (g := w.heap.size + 1 + 1) (by simp) hn1 hn2 false (by simp; omega)
    go_enter Try.func7, Try.ntmps7
    go_wp2_with (first
      | (go_at_call 14; (with_reducible refine hlight.mono ?_); rintro e w' ⟨rfl, rfl⟩)
      | (go_at_call 32; (with_reducible refine (awake2_any _).mono ?_); rintro e w1 ⟨rfl, hb1⟩))
    go_ret
    exact ⟨rfl, bcall hb3 hb1⟩
end Go.Proofs.Ytplmfdgdbolcaaa
