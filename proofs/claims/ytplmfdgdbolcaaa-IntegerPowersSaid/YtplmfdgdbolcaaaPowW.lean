/-
  The walk of the law IntegerPowers.
-/
import Derived.Test.YtplmfdgdbolcaaaRsqrt
import Derived.Test.YtplmfdgdbolcaaaBlen
set_option linter.unusedVariables false
set_option linter.unusedSimpArgs false
namespace Go.Proofs.Ytplmfdgdbolcaaa
open Go.RowKit

theorem light1 {w : World} {x1 : Bool} {A1 : Option Addr} {n1 c1 g : Nat} (hg : g = w.heap.size) (h1 : n1 ≤ 140737488351232) (b : Bool) (hb : b = decide (n1 ≤ 60)) :
    Calls Try.prog 14 #[.slice (some ⟨g, 0, none⟩) 1 1] (w.alloc (.cells #[.bool x1, .slice A1 n1 c1] 24)) fun e w' => e = .returned (.bool b) ∧ (w.alloc (.cells #[.bool x1, .slice A1 n1 c1] 24)) = w' := by
  subst hg hb
  have hh := Go.Deep.blk_alloc_new w (.cells #[.bool x1, .slice A1 n1 c1] 24)
  have := light_any w.heap.size 1 1 (fun _ => A1) (fun _ => n1) (fun _ => c1) (w.alloc (.cells #[.bool x1, .slice A1 n1 c1] 24)) (by omega) (fun i _ => h1)
    (fun i hi => by
      obtain rfl : i = 0 := by omega
      unfold World.cell?; rw [hh]; rfl)
  have e : sumN (fun _ => n1) 1 = n1 := by simp [sumN]
  rw [e] at this
  exact this

set_option maxHeartbeats 8000000 in
set_option maxRecDepth 100000 in
theorem powers_law (x1 : Bool) (A1 : Option Addr) (n1 c1 : Nat) (N : Int) (d1 : List Nat) (w : World) (h1 : Dgs w w.heap.size A1 n1 d1)
    (hc1 : n1 ≤ c1) (hm1 : c1 ≤ maxLen) (hn1 : n1 ≤ 140737488351232) :
    Calls Try.prog 4 #[.agg #[.bool x1, .slice A1 n1 c1], .int .i64 N] w (RetT1 w) := by
  have hb2 : Below w.heap.size w ((w.alloc (.cells #[.bool x1, .slice A1 n1 c1] 24)).alloc (.cells #[.bool x1, .slice A1 n1 c1] 24)) := bnew2 _ _ _
  have hlight := fun b => light1 (w := (w.alloc (.cells #[.bool x1, .slice A1 n1 c1] 24))) (x1 := x1) (A1 := A1) (c1 := c1) (g := w.heap.size + 1) (by simp) hn1 b
  by_cases hl : n1 ≤ 8
  · have hlight := hlight true (by simp; omega)
    have H0 := (((St.start w).addI (s := x1) ⟨d1, h1, hc1, hm1, rfl, by omega⟩).new 24 (Plains.two x1 A1 n1 c1)).alloc (.cells #[.bool x1, .slice A1 n1 c1] 24)
    (try simp only [World.size_alloc] at H0)
    have za0 := (sz_of h1 x1).mono (show n1 ≤ 10 by omega)
    have hl2 : decide (8 < n1) = false := by simp; omega
    have hl3 : ¬ (8 : Int) < (n1 : Int) := by omega
    have hl4 : n1 ≤ 100000 := by omega
    clear h1 hb2
    generalize zOf x1 (val d1) = a at *
    have za : Sz a 100 := za0.mono (by decide)
    obtain ⟨p, HPV⟩ : ∃ v, Hid (powV a N = v) := ⟨_, rfl⟩
    obtain ⟨pe, HPE⟩ : ∃ v, Hid (powE N = v) := ⟨_, rfl⟩
    obtain ⟨L, HBL⟩ : ∃ v, Hid (bl a.natAbs = v) := ⟨_, rfl⟩
    have HH := Lib.hid H0
    clear H0
    go_enter Try.func4, Try.ntmps4
    go_upto_region 4 with (first
      | (go_at_call 14; (with_reducible refine hlight.mono ?_); rintro e w' ⟨rfl, rfl⟩; have K0 := HH.out; clear HH; obtain ⟨i1, _⟩ := K0.ints; obtain ⟨⟨p0, p1⟩, _⟩ := K0.facts)
      | (go_at_call 20; (with_reducible refine (pow_at N i1.i za0).mono ?_); rw [HPV.out, HPE.out]; rintro e w1 ⟨A4, n4, c4, rfl, e4, g1⟩; have K1 := ((K0.call g1).add e4).new 24 (Plains.two (decide (p < 0)) A4 n4 c4))
      | fail)
    clear K0 hlight i1 e4 g1 p0 p1
    generalize w1.alloc (.cells #[.bool (decide (p < 0)), .slice A4 n4 c4] 24) = W1 at K1 ⊢
    generalize w1.heap.size = h5 at K1 ⊢
    obtain ⟨_, ia, _⟩ := K1.ints
    obtain ⟨_, ⟨p0, p1⟩, _⟩ := K1.facts
    go_upto_region 5 with (first
      | (go_at_call 21; (with_reducible refine (rpow_at N ia.i za0 hl4).mono ?_); rw [HPV.out, HPE.out]; rintro e w2 ⟨A5, n5, c5, rfl, e5, g2⟩; have K2 := ((K1.call g2).add e5).new 24 (Plains.two (decide (p < 0)) A5 n5 c5))
      | fail)
    clear K1 ia e5 g2 p0 p1
    generalize w2.alloc (.cells #[.bool (decide (p < 0)), .slice A5 n5 c5] 24) = W2 at K2 ⊢
    generalize w2.heap.size = h7 at K2 ⊢
    obtain ⟨_, _, ia, _⟩ := K2.ints
    obtain ⟨_, _, ⟨p0, p1⟩, _⟩ := K2.facts
    go_upto_region 6 with (first
      | (go_at_call 22; (with_reducible refine (sqrt_at ia.i za).mono ?_); rintro e w3 ⟨t, te, hS, zs, A6, n6, c6, rfl, e6, g3⟩; have HS := Lib.hid hS; have K3 := ((K2.call g3).add e6).new 24 (Plains.two (decide (t < 0)) A6 n6 c6))
      | fail)
    clear K2 ia e6 g3 p0 p1 hS
    generalize w3.alloc (.cells #[.bool (decide (t < 0)), .slice A6 n6 c6] 24) = W3 at K3 ⊢
    generalize w3.heap.size = h9 at K3 ⊢
    obtain ⟨_, _, _, ia, _⟩ := K3.ints
    obtain ⟨_, _, _, ⟨p0, p1⟩, _⟩ := K3.facts
    go_upto_region 7 with (first
      | (go_at_call 23; (with_reducible refine (rsqrt_at ia.i za).mono ?_); rintro e w4 ⟨t', te', hS', zs', A7, n7, c7, rfl, e7, g4⟩; obtain ⟨rfl, rfl⟩ := HS.out.only hS'; have K4 := ((K3.call g4).add e7).new 24 (Plains.two (decide (t < 0)) A7 n7 c7))
      | fail)
    clear K3 ia e7 g4 p0 p1 hS'
    generalize w4.alloc (.cells #[.bool (decide (t < 0)), .slice A7 n7 c7] 24) = W4 at K4 ⊢
    generalize w4.heap.size = h11 at K4 ⊢
    have KL := K4.drew
    clear K4
    obtain ⟨⟨p0, p1⟩, ⟨p2, p3⟩, ⟨p4, p5⟩, ⟨p6, p7⟩, ⟨p8, p9⟩, _⟩ := KL.facts
    obtain ⟨jt, js, jq, jp, ia, _⟩ := KL.ints
    go_region_held3 (fun w' => w'.cell? ⟨h11, 0, none⟩ = some (.bool (decide (t < 0))) ∧ w'.cell? ⟨h11, 1, none⟩ = some (.slice A7 n7 c7) ∧ w'.cell? ⟨h9, 0, none⟩ = some (.bool (decide (t < 0))) ∧ w'.cell? ⟨h9, 1, none⟩ = some (.slice A6 n6 c6) ∧ w'.cell? ⟨h7, 0, none⟩ = some (.bool (decide (p < 0))) ∧ w'.cell? ⟨h7, 1, none⟩ = some (.slice A5 n5 c5) ∧ w'.cell? ⟨h5, 0, none⟩ = some (.bool (decide (p < 0))) ∧ w'.cell? ⟨h5, 1, none⟩ = some (.slice A4 n4 c4) ∧ w'.cell? ⟨w.heap.size, 0, none⟩ = some (.bool x1) ∧ w'.cell? ⟨w.heap.size, 1, none⟩ = some (.slice A1 n1 c1))
      (go_keep)
      (first
        | (go_at_call_of 18 (Value.agg #[Value.bool (decide (p < 0)), Value.slice A4 n4 c4]); (with_reducible refine (same_at jp.c jq.c rfl).mono ?_); rintro e ws0 ⟨rfl, fs0⟩; have KL := KL.call fs0; clear p0 p1 p2 p3 p4 p5 p6 p7 p8 p9; obtain ⟨⟨p0, p1⟩, ⟨p2, p3⟩, ⟨p4, p5⟩, ⟨p6, p7⟩, ⟨p8, p9⟩, _⟩ := KL.facts; clear jt js jq jp ia; obtain ⟨jt, js, jq, jp, ia, _⟩ := KL.ints)
        | (go_at_call_of 18 (Value.agg #[Value.bool (decide (t < 0)), Value.slice A6 n6 c6]); (with_reducible refine (same_at js.c jt.c rfl).mono ?_); rintro e ws1 ⟨rfl, fs1⟩; have KL := KL.call fs1; clear p0 p1 p2 p3 p4 p5 p6 p7 p8 p9; obtain ⟨⟨p0, p1⟩, ⟨p2, p3⟩, ⟨p4, p5⟩, ⟨p6, p7⟩, ⟨p8, p9⟩, _⟩ := KL.facts; clear jt js jq jp ia; obtain ⟨jt, js, jq, jp, ia, _⟩ := KL.ints)
        | (go_at_call 24; (with_reducible refine (blen_at ia.i).mono ?_); rintro e wb ⟨rfl, fb⟩; rw [HBL.out]; have KL := KL.call fb; clear p0 p1 p2 p3 p4 p5 p6 p7 p8 p9; obtain ⟨⟨p0, p1⟩, ⟨p2, p3⟩, ⟨p4, p5⟩, ⟨p6, p7⟩, ⟨p8, p9⟩, _⟩ := KL.facts; clear jt js jq jp ia; obtain ⟨jt, js, jq, jp, ia, _⟩ := KL.ints)
        | (go_at_call 25; (with_reducible refine (rblen_at ia.i).mono ?_); rintro e wb ⟨rfl, fb⟩; rw [HBL.out]; have KL := KL.call fb; clear p0 p1 p2 p3 p4 p5 p6 p7 p8 p9; obtain ⟨⟨p0, p1⟩, ⟨p2, p3⟩, ⟨p4, p5⟩, ⟨p6, p7⟩, ⟨p8, p9⟩, _⟩ := KL.facts; clear jt js jq jp ia; obtain ⟨jt, js, jq, jp, ia, _⟩ := KL.ints)
        | (go_at_call 15; (with_reducible refine (awake_any _).mono ?_); rintro e wj ⟨rfl, fj⟩; have KL := KL.call fj; clear p0 p1 p2 p3 p4 p5 p6 p7 p8 p9; obtain ⟨⟨p0, p1⟩, ⟨p2, p3⟩, ⟨p4, p5⟩, ⟨p6, p7⟩, ⟨p8, p9⟩, _⟩ := KL.facts; clear jt js jq jp ia; obtain ⟨jt, js, jq, jp, ia, _⟩ := KL.ints)
        | fail)
    all_goals (go_wp2; go_ret; exact ⟨rfl, KL.below⟩)
  · by_cases hl2 : n1 ≤ 60
    · have hlight := hlight true (by simp; omega)
      have hl3 : (8 : Int) < (n1 : Int) := by omega
      go_enter Try.func4, Try.ntmps4
      go_wp2_with (first
        | (go_at_call 14; (with_reducible refine hlight.mono ?_); rintro e w' ⟨rfl, rfl⟩)
        | (go_at_call 15; (with_reducible refine (awake_any _).mono ?_); rintro e w1 ⟨rfl, hb1⟩))
      go_ret
      exact ⟨rfl, bcall hb2 hb1⟩
    · have hlight := hlight false (by simp; omega)
      go_enter Try.func4, Try.ntmps4
      go_wp2_with (first
        | (go_at_call 14; (with_reducible refine hlight.mono ?_); rintro e w' ⟨rfl, rfl⟩)
        | (go_at_call 15; (with_reducible refine (awake_any _).mono ?_); rintro e w1 ⟨rfl, hb1⟩))
      go_ret
      exact ⟨rfl, bcall hb2 hb1⟩
end Go.Proofs.Ytplmfdgdbolcaaa
