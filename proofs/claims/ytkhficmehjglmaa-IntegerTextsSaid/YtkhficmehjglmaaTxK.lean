/-
  The law IntegerTexts walked: Format and Parse agree with the reference's; Parse reads back what Format writes.
-/
import Derived.Test.YtkhficmehjglmaaTxJ
import Derived.Deep.RegionHeld3
set_option linter.unusedVariables false
set_option linter.unusedSimpArgs false
set_option warningAsError false
namespace Go.Proofs.Ytkhficmehjglmaa
open Go.RowKit

theorem format_at {w : World} {s : Bool} {A : Option Addr} {n c : Nat} {x : Int} (h : IntAt w s A n c x) (hn : n ≤ 100000) : Calls Try.prog 6 #[.agg #[.bool s, .slice A n c]] w (RetS w (decZ x)) := by
  obtain ⟨d, hd, hc, hm, rfl, _⟩ := h
  exact format_any s A n c d w hd hc hm hn
theorem rformat_at {w : World} {s : Bool} {A : Option Addr} {n c : Nat} {x : Int} (h : IntAt w s A n c x) (hn : n ≤ 100000) (hnc : A = none → c = 0) : Calls Try.prog 9 #[.agg #[.bool s, .slice A n c]] w (RetS w (decZ x)) := by
  obtain ⟨d, hd, hc, hm, rfl, _⟩ := h
  exact rformat_any s A n c d w hd hc hm hn hnc
theorem lightOne {w : World} {x1 : Bool} {A1 : Option Addr} {n1 c1 g : Nat} (hg : g = w.heap.size) (h1 : n1 ≤ 140737488351232) (b : Bool) (hb : b = decide (n1 ≤ 60)) :
    Calls Try.prog 4 #[.slice (some ⟨g, 0, none⟩) 1 1] (w.alloc (.cells #[.bool x1, .slice A1 n1 c1] 24)) fun e w' => e = .returned (.bool b) ∧ (w.alloc (.cells #[.bool x1, .slice A1 n1 c1] 24)) = w' := by
  subst hg hb
  have hh := Go.Deep.blk_alloc_new w (.cells #[.bool x1, .slice A1 n1 c1] 24)
  have := light_any w.heap.size 1 1 (fun _ => A1) (fun _ => n1) (fun _ => c1) (w.alloc (.cells #[.bool x1, .slice A1 n1 c1] 24)) (by omega) (fun i _ => h1)
    (fun i hi => by
      obtain rfl : i = 0 := by omega
      unfold World.cell?; rw [hh]; rfl)
  have e : sumN (fun _ => n1) 1 = n1 := by simp [sumN]
  rw [e] at this
  exact this
theorem same_can {w : World} {s s' : Bool} {A A' : Option Addr} {n c n' c' : Nat} {x : Int} (h : CanAt w s A n c x) (h' : CanAt w s' A' n' c' x) : Calls Try.prog 10 #[.agg #[.bool s, .slice A n c], .agg #[.bool s', .slice A' n' c']] w (RetT1 w) := same_at h h' rfl
theorem decZ_len {z : Int} (h : (digs z.natAbs).length ≤ 60) : (decZ z).length ≤ 1000 := by
  have h1 := decs_len' (lt_pow_digs z.natAbs)
  unfold decZ
  by_cases hz : z < 0
  · rw [if_pos hz, List.length_cons]; omega
  · rw [if_neg hz]; omega

set_option maxHeartbeats 8000000 in
set_option maxRecDepth 100000 in
theorem texts_law (x1 : Bool) (A1 : Option Addr) (n1 c1 : Nat) (d1 : List Nat) (l : List UInt8) (w : World) (h1 : Dgs w w.heap.size A1 n1 d1)
    (hc1 : n1 ≤ c1) (hm1 : c1 ≤ maxLen) (hn1 : n1 ≤ 140737488351232) (hnc : A1 = none → c1 = 0) (hl : l.length ≤ 9223372036854775807) :
    Calls Try.prog 3 #[.agg #[.bool x1, .slice A1 n1 c1], .string ⟨l.toArray⟩] w (RetT1 w) := by
  have hb2 : Below w.heap.size w ((w.alloc (.cells #[.bool x1, .slice A1 n1 c1] 24)).alloc (.cells #[.bool x1, .slice A1 n1 c1] 24)) := bnew2 _ _ _
  have hlight := fun b => lightOne (w := (w.alloc (.cells #[.bool x1, .slice A1 n1 c1] 24))) (x1 := x1) (A1 := A1) (c1 := c1) (g := w.heap.size + 1) (by simp) hn1 b
  have hsz := str_size l
  obtain ⟨L, HL⟩ : ∃ v, Hid (l.length = v) := ⟨_, rfl⟩
  rw [HL.out] at hl hsz
  by_cases hlt : n1 ≤ 60
  rotate_left
  · have hlight := hlight false (by simp; omega)
    go_enter Try.func3, Try.ntmps3
    go_wp2_with (first
      | (go_at_call 4; (with_reducible refine hlight.mono ?_); rintro e w' ⟨rfl, rfl⟩)
      | (go_at_call 5; (with_reducible refine (awake_any _).mono ?_); rintro e w1 ⟨rfl, hb1⟩)
      | fail)
    go_ret
    exact ⟨rfl, bcall hb2 hb1⟩
  have hlight := hlight true (by simp; omega)
  by_cases hbig : 1000 < L
  · have q1 : (1000 : Int) < (L : Int) := by omega
    go_enter Try.func3, Try.ntmps3
    go_wp2_with (first
      | (go_at_call 4; (with_reducible refine hlight.mono ?_); rintro e w' ⟨rfl, rfl⟩)
      | (go_at_call 5; (with_reducible refine (awake_any _).mono ?_); rintro e w1 ⟨rfl, hb1⟩)
      | fail)
    go_ret
    exact ⟨rfl, bcall hb2 hb1⟩
  have q1 : decide ((1000 : Int) < (L : Int)) = false := by simp; omega
  have q1' : ¬ (1000 : Int) < (L : Int) := by omega
  have hn1k : n1 ≤ 100000 := by omega
  have H0 := (((St.start w).addI (s := x1) ⟨d1, h1, hc1, hm1, rfl, by omega⟩).new 24 (Plains.two x1 A1 n1 c1)).alloc (.cells #[.bool x1, .slice A1 n1 c1] 24)
  have za : (digs (zOf x1 (val d1)).natAbs).length ≤ 60 := by
    rw [zOf_natAbs]
    have h2 : val d1 < BB ^ n1 := by rw [← h1.len]; exact val_lt h1.dig
    have := digs_length_le h2
    omega
  clear h1 hb2
  generalize zOf x1 (val d1) = a at *
  have hTl := decZ_len za
  have hpe := parE_decZ a
  have hpz := parZ_decZ a
  have pt := parse_at (decZ a) (by omega)
  obtain ⟨T, HT⟩ : ∃ v, Hid (decZ a = v) := ⟨_, rfl⟩
  rw [HT.out] at hTl hpe hpz pt
  have htsz := str_size T
  obtain ⟨M, HM⟩ : ∃ v, Hid (T.length = v) := ⟨_, rfl⟩
  rw [HM.out] at hTl hpe hpz htsz
  have pl := parse_at l (by rw [HL.out]; omega)
  have rl := rparse_at l (by rw [HL.out]; omega)
  obtain ⟨Y, HY⟩ : ∃ v, Hid (parZ l = v) := ⟨_, rfl⟩
  obtain ⟨F, HF⟩ : ∃ v, Hid (parE l = v) := ⟨_, rfl⟩
  rw [HY.out, HF.out] at pl rl
  have HH := Lib.hid H0
  clear H0
  by_cases hm4 : 400 < M
  · rw [if_pos hm4] at hpe hpz
    obtain ⟨X, HX⟩ : ∃ X : Int, Hid (X = 0) := ⟨_, rfl⟩
    rw [hpe, hpz] at pt
    rw [← HX.out] at pt
    have m4 : (400 : Int) < (M : Int) := by omega
    clear hpe hpz
    unfold RetO at pt pl rl
    go_enter Try.func3, Try.ntmps3
    go_upto_region 9 with (first
      | (go_at_call 4; (with_reducible refine hlight.mono ?_); rintro e w' ⟨rfl, rfl⟩; have K0 := HH.out; clear HH; obtain ⟨i1, _⟩ := K0.ints; obtain ⟨⟨p0, p1⟩, _⟩ := K0.facts)
      | (go_at_call 6; (with_reducible refine (format_at i1.i hn1k).mono ?_); rw [HT.out]; rintro e w1 ⟨rfl, g1⟩; have K1 := K0.call g1; clear p0 p1 i1; obtain ⟨i1, _⟩ := K1.ints; obtain ⟨⟨p0, p1⟩, _⟩ := K1.facts)
      | (go_at_call_of 7 (Value.string ⟨T.toArray⟩); (with_reducible refine (pt _).mono ?_); rintro e w2 ⟨A2, n2, c2, rfl, k2, g2⟩; have K2 := ((K1.call g2).add k2).new 24 (Plains.two (decide (X < 0)) A2 n2 c2))
      | (go_at_call_of 7 (Value.string ⟨l.toArray⟩); (with_reducible refine (pl _).mono ?_); rintro e w3 ⟨A3, n3, c3, rfl, k3, g3⟩; have K3 := ((K2.call g3).add k3).new 24 (Plains.two (decide (Y < 0)) A3 n3 c3))
      | (go_at_call 8; (with_reducible refine (rl _).mono ?_); rintro e w4 ⟨A4, n4, c4, rfl, k4, g4⟩; have K4 := ((K3.call g4).add k4).new 24 (Plains.two (decide (Y < 0)) A4 n4 c4); clear p0 p1; obtain ⟨⟨u0, u1⟩, ⟨s0, s1⟩, ⟨r0, r1⟩, ⟨p0, p1⟩, _⟩ := K4.facts; obtain ⟨_, _, _, i4, _⟩ := K4.ints)
      | (go_at_call 9; (with_reducible refine (rformat_at i4.i hn1k hnc).mono ?_); rw [HT.out]; rintro e w5 ⟨rfl, g5⟩; have K5 := K4.call g5; clear p0 p1 u0 u1 s0 s1 r0 r1; obtain ⟨⟨u0, u1⟩, ⟨s0, s1⟩, ⟨r0, r1⟩, ⟨p0, p1⟩, _⟩ := K5.facts; obtain ⟨j4, j3, _⟩ := K5.ints; have e4 := j4.c; have e3 := j3.c)
      | (go_at_call 10; (with_reducible refine (same_can e3 e4).mono ?_); rintro e w6 ⟨rfl, g6⟩; have K6 := K5.call g6)
      | fail)
    clear K0 K1 K2 K3 K4 K5 p0 p1 u0 u1 s0 s1 r0 r1 e3 e4 j3 j4 i1 i4
    obtain ⟨⟨u0, u1⟩, ⟨s0, s1⟩, ⟨r0, r1⟩, ⟨p0, p1⟩, _⟩ := K6.facts
    obtain ⟨_, _, j2, j1, _⟩ := K6.ints
    have e2 := j2.c
    have ii := j1.i
    go_quiet (fail)
    go_wp2
    go_ret
    exact ⟨rfl, bdrewN K6.below _⟩
  · rw [if_neg hm4] at hpe hpz
    obtain ⟨X, HX⟩ : ∃ X : Int, Hid (X = a) := ⟨_, rfl⟩
    rw [hpe, hpz] at pt
    rw [← HX.out] at pt
    have m4 : decide ((400 : Int) < (M : Int)) = false := by simp; omega
    have m4' : ¬ (400 : Int) < (M : Int) := by omega
    clear hpe hpz
    unfold RetO at pt pl rl
    go_enter Try.func3, Try.ntmps3
    go_upto_region 9 with (first
      | (go_at_call 4; (with_reducible refine hlight.mono ?_); rintro e w' ⟨rfl, rfl⟩; have K0 := HH.out; clear HH; obtain ⟨i1, _⟩ := K0.ints; obtain ⟨⟨p0, p1⟩, _⟩ := K0.facts)
      | (go_at_call 6; (with_reducible refine (format_at i1.i hn1k).mono ?_); rw [HT.out]; rintro e w1 ⟨rfl, g1⟩; have K1 := K0.call g1; clear p0 p1 i1; obtain ⟨i1, _⟩ := K1.ints; obtain ⟨⟨p0, p1⟩, _⟩ := K1.facts)
      | (go_at_call_of 7 (Value.string ⟨T.toArray⟩); (with_reducible refine (pt _).mono ?_); rintro e w2 ⟨A2, n2, c2, rfl, k2, g2⟩; have K2 := ((K1.call g2).add k2).new 24 (Plains.two (decide (X < 0)) A2 n2 c2))
      | (go_at_call_of 7 (Value.string ⟨l.toArray⟩); (with_reducible refine (pl _).mono ?_); rintro e w3 ⟨A3, n3, c3, rfl, k3, g3⟩; have K3 := ((K2.call g3).add k3).new 24 (Plains.two (decide (Y < 0)) A3 n3 c3))
      | (go_at_call 8; (with_reducible refine (rl _).mono ?_); rintro e w4 ⟨A4, n4, c4, rfl, k4, g4⟩; have K4 := ((K3.call g4).add k4).new 24 (Plains.two (decide (Y < 0)) A4 n4 c4); clear p0 p1; obtain ⟨⟨u0, u1⟩, ⟨s0, s1⟩, ⟨r0, r1⟩, ⟨p0, p1⟩, _⟩ := K4.facts; obtain ⟨_, _, _, i4, _⟩ := K4.ints)
      | (go_at_call 9; (with_reducible refine (rformat_at i4.i hn1k hnc).mono ?_); rw [HT.out]; rintro e w5 ⟨rfl, g5⟩; have K5 := K4.call g5; clear p0 p1 u0 u1 s0 s1 r0 r1; obtain ⟨⟨u0, u1⟩, ⟨s0, s1⟩, ⟨r0, r1⟩, ⟨p0, p1⟩, _⟩ := K5.facts; obtain ⟨j4, j3, _⟩ := K5.ints; have e4 := j4.c; have e3 := j3.c)
      | (go_at_call 10; (with_reducible refine (same_can e3 e4).mono ?_); rintro e w6 ⟨rfl, g6⟩; have K6 := K5.call g6)
      | fail)
    clear K0 K1 K2 K3 K4 K5 p0 p1 u0 u1 s0 s1 r0 r1 e3 e4 j3 j4 i1 i4
    obtain ⟨⟨u0, u1⟩, ⟨s0, s1⟩, ⟨r0, r1⟩, ⟨p0, p1⟩, _⟩ := K6.facts
    obtain ⟨_, _, j2, j1, _⟩ := K6.ints
    have e2 := j2.c
    have ii := j1.i
    have K6d := K6.drew
    have i6 := K6d.ints.2.2.2.1.i
    first
    | go_region_held3 (fun w' => (w'.cell? ⟨w2.heap.size, 0, none⟩ = some (.bool (decide (X < 0))) ∧ w'.cell? ⟨w2.heap.size, 1, none⟩ = some (.slice A2 n2 c2)) ∧ w'.cell? ⟨w.heap.size, 0, none⟩ = some (.bool x1) ∧ w'.cell? ⟨w.heap.size, 1, none⟩ = some (.slice A1 n1 c1))
        (go_keep)
        (first
          | (go_at_call 11; (with_reducible refine (canon_at i6).mono ?_); rintro e w7 ⟨A7, n7, c7, rfl, d7, u7, v7, g7⟩; have K7 := (K6d.call g7).add (CanAt.mk_ d7 u7 v7); clear u0 u1 s0 s1 r0 r1 p0 p1; obtain ⟨⟨u0, u1⟩, ⟨s0, s1⟩, ⟨r0, r1⟩, ⟨p0, p1⟩, _⟩ := K7.facts; obtain ⟨t1, _, _, t2, _⟩ := K7.ints; have t3 := t1.c; have t4 := t2.c)
          | (go_at_call 10; (with_reducible refine (same_at t4 t3 HX.out).mono ?_); rintro e w8 ⟨rfl, g8⟩; have K8 := K7.call g8; clear u0 u1 s0 s1 r0 r1 p0 p1; obtain ⟨⟨u0, u1⟩, ⟨s0, s1⟩, ⟨r0, r1⟩, ⟨p0, p1⟩, _⟩ := K8.facts)
          | (go_at_call 5; (with_reducible refine (awake_any _).mono ?_); rintro e w9 ⟨rfl, g9⟩; have K9 := K8.call g9; clear u0 u1 s0 s1 r0 r1 p0 p1; obtain ⟨⟨u0, u1⟩, ⟨s0, s1⟩, ⟨r0, r1⟩, ⟨p0, p1⟩, _⟩ := K9.facts)
          | fail)
    | fail
    go_wp2
    go_ret
    exact ⟨rfl, K9.below⟩
end Go.Proofs.Ytkhficmehjglmaa

