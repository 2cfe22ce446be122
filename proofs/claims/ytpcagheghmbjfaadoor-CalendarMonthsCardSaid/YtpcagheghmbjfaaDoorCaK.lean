/-
  Calendar: the law of there and back.
-/
import Derived.Test.YtpcagheghmbjfaaDoorCaI
set_option linter.unusedVariables false
set_option linter.unusedSimpArgs false
namespace Go.Proofs.YtpcagheghmbjfaaDoor
open Go.RowKit

set_option maxHeartbeats 4000000 in
set_option maxRecDepth 100000 in
theorem pdim_in (y : Int) (m : Nat) (y1 : 1999 ≤ y) (y2 : y ≤ 2100) (m1 : 1 ≤ m) (m2 : m ≤ 12) (w : World) (hT : MonT w) : Calls Tryd.prog 17 #[.int .i64 y, .int .i64 (m : Int)] w (RetDE w (mlB (leapB y) m) 0) := by
  have hl := monthLength_any y m m1 m2 (by omega) (by omega) w hT
  have hy := isYear_any y
  have hm := isMonth_any (m : Int)
  rw [decide_eq_true (p := 1999 ≤ y ∧ y ≤ 2100) ⟨y1, y2⟩] at hy
  rw [decide_eq_true (p := 1 ≤ (m : Int) ∧ (m : Int) ≤ 12) ⟨by omega, by omega⟩] at hm
  obtain ⟨M, HM⟩ : ∃ v, Hid (mlB (leapB y) m = v) := ⟨_, rfl⟩
  rw [HM.out] at hl ⊢
  clear hT
  go_enter Tryd.func17, Tryd.ntmps17
  go_wp2_with (first
    | (go_at_call 44; (with_reducible refine (hy _).mono ?_); rintro e w1 ⟨rfl, rfl⟩)
    | (go_at_call 46; (with_reducible refine (hm _).mono ?_); rintro e w1 ⟨rfl, rfl⟩)
    | (go_at_call 47; (with_reducible refine hl.mono ?_); rintro e w1 ⟨rfl, rfl⟩)
    | fail)
  go_ret2
  exact ⟨rfl, rfl⟩
theorem wday_7 (d : Int) : wdayN (d + 7) = wdayN d := by unfold wdayN; omega
theorem wday_1 (d : Int) : wdayN (d + 1) = (wdayN d + 1) % 7 := by unfold wdayN; omega
theorem wday_in (d : Int) : 0 ≤ wdayN d ∧ wdayN d < 7 := by unfold wdayN; omega
theorem numV_in {y d : Int} {m : Nat} (h : IsD y m d) (h1 : 1999 ≤ y) (h2 : y ≤ 2100) : numV y m d = dayN y m d ∧ numE y m d = 0 := by
  unfold numV numE
  rw [if_pos (date_of h h1 h2), if_pos (date_of h h1 h2)]
  exact ⟨rfl, rfl⟩
theorem dP_last : dY 36889 = 2100 ∧ dM 36889 = 12 ∧ dD 36889 = 31 := by
  obtain ⟨h1, h2⟩ := dP_in (day := 36889) ⟨by omega, by omega⟩
  exact h1.unique (z := 2100) (n := 12) (e := 31) ⟨by omega, by omega, by omega, by decide⟩ (by rw [h2]; decide)
theorem dP_next {t y e : Int} {n : Nat} (hin : inDay (t + 1)) (g : IsD y n e) (hn : dayN y n e = t + 1) : dY (t + 1) = y ∧ dM (t + 1) = n ∧ dD (t + 1) = e := by
  obtain ⟨h1, h2⟩ := dP_in hin
  exact h1.unique g (by rw [h2, hn])

def RetD0 (w : World) (en : Ending) (w' : World) : Prop := en = .returned (.tuple #[.agg #[.int .i64 0, .int .i64 0, .int .i64 0], .int .i64 5]) ∧ Below w.heap.size w w'
theorem RetDF.none {w w' : World} {day : Int} {en : Ending} (h : RetDF w day en w') (ho : ¬ inDay day) : RetD0 w en w' := by
  obtain ⟨e1, e2, e3⟩ := dP_out ho
  refine ⟨?_, h.2⟩
  rw [h.1, dE_out ho, e1, e2, e3]; rfl
def RetD1 (w : World) (y m d : Int) (en : Ending) (w' : World) : Prop := en = .returned (.tuple #[.agg #[.int .i64 y, .int .i64 m, .int .i64 d], .int .i64 0]) ∧ Below w.heap.size w w'
theorem RetDF.some {w w' : World} {day : Int} {en : Ending} (h : RetDF w day en w') (ho : inDay day) {y m d : Int} (e1 : dY day = y) (e2 : (dM day : Int) = m) (e3 : dD day = d) : RetD1 w y m d en w' := by
  refine ⟨?_, h.2⟩
  rw [h.1, dE_in ho, e1, e2, e3]

set_option maxHeartbeats 4000000 in
set_option maxRecDepth 1000000 in
theorem calendarBack_any (t : Int) (ht : -9223372036854775808 ≤ t ∧ t ≤ 9223372036854775807) (w : World) (hT : MonT w) : Calls Tryd.prog 4 #[.int .i64 t] w (RetB1 w true) := by
  obtain ⟨h0, h1⟩ := ht
  have hp2 := dateOf3_any t h0 h1 w hT
  by_cases hin : inDay t
  · obtain ⟨y1, y2⟩ := dP_years hin
    obtain ⟨hI, hN⟩ := dP_in hin
    obtain ⟨t0, t1⟩ := hin
    have hnv := numV_in hI y1 y2
    rw [hN] at hnv
    have hp1 := fun w hT => dayNumber2_any (dY t) (dM t) (dD t) (by omega) (by omega) w hT
    rw [hnv.1, hnv.2] at hp1
    unfold dateV at hp1
    have hw0 := weekday_any t h0 h1
    have hw1 := weekday_any (t + 1) (by omega) (by omega)
    have hw7 := weekday_any (t + 7) (by omega) (by omega)
    rw [wday_1] at hw1
    rw [wday_7] at hw7
    obtain ⟨k0, k1⟩ := wday_in t
    obtain ⟨K, HK⟩ : ∃ v, Hid (wdayN t = v) := ⟨_, rfl⟩
    rw [HK.out] at hw0 hw1 hw7 k0 k1
    have hp3 := fun w hT => dateOf3_any (t + 1) (by omega) (by omega) w hT
    have hdim := fun w hT => pdim_in (dY t) (dM t) y1 y2 hI.m1 hI.m2 w hT
    have hlast : ¬ inDay (t + 1) → dY t = 2100 ∧ dM t = 12 ∧ dD t = 31 := by
      intro hn
      obtain rfl : t = 36889 := by unfold inDay at hn; omega
      exact dP_last
    have n1 := fun (hi : inDay (t + 1)) (h : dD t < mlB (leapB (dY t)) (dM t)) => dP_next hi (hI.next1 h).1 (by rw [(hI.next1 h).2, hN])
    have n2 := fun (hi : inDay (t + 1)) (h : dD t = mlB (leapB (dY t)) (dM t)) (h2 : dM t < 12) => dP_next hi (hI.next2 h h2).1 (by rw [(hI.next2 h h2).2, hN])
    have n3 := fun (hi : inDay (t + 1)) (h : dD t = mlB (leapB (dY t)) (dM t)) (h2 : dM t = 12) => dP_next hi (hI.next3 h h2).1 (by rw [(hI.next3 h h2).2, hN])
    have m1 := hI.m1
    have m2 := hI.m2
    have d1 := hI.d1
    have d2 := hI.d2
    have mlp := ml_pos (b := leapB (dY t)) m1 m2
    obtain ⟨J, HJ⟩ : ∃ v, Hid (mlB (leapB (dY t)) (dM t) = v) := ⟨_, rfl⟩
    rw [HJ.out] at hdim n1 n2 n3 d2 mlp
    obtain ⟨Y, HY⟩ : ∃ v, dY t = v := ⟨_, rfl⟩
    obtain ⟨D, HD⟩ : ∃ v, dD t = v := ⟨_, rfl⟩
    obtain ⟨M, HM⟩ : ∃ v : Int, (dM t : Int) = v := ⟨_, rfl⟩
    have hp2 := hp2.mono fun _ _ h => h.some ⟨t0, t1⟩ HY HM HD
    simp only [HY, HM, HD] at hp1 hdim
    rw [HY] at y1 y2
    rw [HD] at d1 d2
    have m1' : 1 ≤ M := by omega
    have m2' : M ≤ 12 := by omega
    have d3 : D ≤ 31 := by omega
    have Hmlp := Lib.hid mlp
    clear hnv mlp
    by_cases hin2 : inDay (t + 1)
    · by_cases c1 : D < J
      · have hq := n1 hin2 (by omega)
        have hp3 := fun w hT => (hp3 w hT).mono fun _ _ h => h.some hin2 (hq.1.trans HY) ((congrArg Nat.cast hq.2.1).trans HM) (hq.2.2.trans (by rw [HD]))
        clear n1 n2 n3 hlast hq hI hN hin2 HY HM HD m1 m2
        go_enter Tryd.func4, Tryd.ntmps4
        go_wp2_with (first
          | (go_at_call_of 12 (Value.int IntKind.i64 t); (with_reducible refine hp2.mono ?_); rintro e w1 ⟨rfl, g1⟩; have HT1 := Lib.hid ((hT.below g1 (Nat.le_refl _)).box (.cells #[Value.int IntKind.i64 Y, Value.int IntKind.i64 M, Value.int IntKind.i64 D] 23)); have HB1 := Lib.hid (box_new w1 (Y) (M) (D) 23); have G1 := Lib.hid (g1.alloc g1.size (.cells #[Value.int IntKind.i64 Y, Value.int IntKind.i64 M, Value.int IntKind.i64 D] 23)); clear g1)
          | (go_at_call 10; (with_reducible refine (hp1 _ HT1.out).mono ?_); rintro e w2 ⟨rfl, g2⟩; have HT2 := Lib.hid (HT1.out.below g2 (Nat.le_refl _)); have HB2 := Lib.hid (HB1.out.below g2 (by simp)); have G2 := Lib.hid (ccall2 G1.out g2 G1.out.size); have L2 := Lib.hid g2.size; clear g2)
          | (go_at_call 12; (with_reducible refine (hp3 _ HT2.out).mono ?_); rintro e w3 ⟨rfl, g3⟩; have HT3 := Lib.hid ((HT2.out.below g3 (Nat.le_refl _)).box (.cells #[Value.int IntKind.i64 Y, Value.int IntKind.i64 M, Value.int IntKind.i64 (D + 1)] 23)); obtain ⟨a0, a1, a2⟩ := (HB2.out.below g3 (by have := L2.out; simp at this; omega)).alloc (by have := L2.out; have := g3.size; simp at *; omega) (.cells #[Value.int IntKind.i64 Y, Value.int IntKind.i64 M, Value.int IntKind.i64 (D + 1)] 23); obtain ⟨b0, b1, b2⟩ := box_new w3 (Y) (M) ((D + 1)) 23; have G3 := Lib.hid ((ccall2 G2.out g3 G2.out.size).alloc (ccall2 G2.out g3 G2.out.size).size (.cells #[Value.int IntKind.i64 Y, Value.int IntKind.i64 M, Value.int IntKind.i64 (D + 1)] 23)); clear g3)
          | (go_at_call 14; first | ((with_reducible refine (hw0 _).mono ?_); rintro e w5 ⟨rfl, k5, rfl⟩) | ((with_reducible refine (hw1 _).mono ?_); rintro e w5 ⟨rfl, k5, rfl⟩) | ((with_reducible refine (hw7 _).mono ?_); rintro e w5 ⟨rfl, k5, rfl⟩))
          | (go_at_call 17; (with_reducible refine (hdim _ (by repeat (first | exact HT3.out | apply MonT.drewN))).mono ?_); rintro e w6 ⟨rfl, rfl⟩)
          | (go_at_call 16; (with_reducible refine (awake6_any _ (by repeat (first | exact HT3.out | apply MonT.drewN))).mono ?_); rintro e w7 ⟨rfl, g7⟩)
          | fail)
        go_ret
        exact ⟨rfl, ccall2 (by repeat (first | exact G3.out | apply below_drewN)) g7 (by have := G3.out.size; simp at *; omega)⟩
      · have e1 : D = J := by omega
        have c1' : decide (D < J) = false := by simpa using c1
        by_cases c2 : M < 12
        · have hq := n2 hin2 (by omega) (by omega)
          have hp3 := fun w hT => (hp3 w hT).mono fun _ _ h => h.some hin2 (hq.1.trans HY) (show (dM (t + 1) : Int) = M + 1 by rw [hq.2.1]; omega) hq.2.2
          subst e1
          clear n1 n2 n3 hlast hin2 hq hI hN HY HM HD m1 m2
          go_enter Tryd.func4, Tryd.ntmps4
          go_wp2_with (first
            | (go_at_call_of 12 (Value.int IntKind.i64 t); (with_reducible refine hp2.mono ?_); rintro e w1 ⟨rfl, g1⟩; have HT1 := Lib.hid ((hT.below g1 (Nat.le_refl _)).box (.cells #[Value.int IntKind.i64 Y, Value.int IntKind.i64 M, Value.int IntKind.i64 D] 23)); have HB1 := Lib.hid (box_new w1 (Y) (M) (D) 23); have G1 := Lib.hid (g1.alloc g1.size (.cells #[Value.int IntKind.i64 Y, Value.int IntKind.i64 M, Value.int IntKind.i64 D] 23)); clear g1)
            | (go_at_call 10; (with_reducible refine (hp1 _ HT1.out).mono ?_); rintro e w2 ⟨rfl, g2⟩; have HT2 := Lib.hid (HT1.out.below g2 (Nat.le_refl _)); have HB2 := Lib.hid (HB1.out.below g2 (by simp)); have G2 := Lib.hid (ccall2 G1.out g2 G1.out.size); have L2 := Lib.hid g2.size; clear g2)
            | (go_at_call 12; (with_reducible refine (hp3 _ HT2.out).mono ?_); rintro e w3 ⟨rfl, g3⟩; have HT3 := Lib.hid ((HT2.out.below g3 (Nat.le_refl _)).box (.cells #[Value.int IntKind.i64 Y, Value.int IntKind.i64 (M + 1), Value.int IntKind.i64 1] 23)); obtain ⟨a0, a1, a2⟩ := (HB2.out.below g3 (by have := L2.out; simp at this; omega)).alloc (by have := L2.out; have := g3.size; simp at *; omega) (.cells #[Value.int IntKind.i64 Y, Value.int IntKind.i64 (M + 1), Value.int IntKind.i64 1] 23); obtain ⟨b0, b1, b2⟩ := box_new w3 (Y) ((M + 1)) (1) 23; have G3 := Lib.hid ((ccall2 G2.out g3 G2.out.size).alloc (ccall2 G2.out g3 G2.out.size).size (.cells #[Value.int IntKind.i64 Y, Value.int IntKind.i64 (M + 1), Value.int IntKind.i64 1] 23)); clear g3)
            | (go_at_call 14; first | ((with_reducible refine (hw0 _).mono ?_); rintro e w5 ⟨rfl, k5, rfl⟩) | ((with_reducible refine (hw1 _).mono ?_); rintro e w5 ⟨rfl, k5, rfl⟩) | ((with_reducible refine (hw7 _).mono ?_); rintro e w5 ⟨rfl, k5, rfl⟩))
            | (go_at_call 17; (with_reducible refine (hdim _ (by repeat (first | exact HT3.out | apply MonT.drewN))).mono ?_); rintro e w6 ⟨rfl, rfl⟩)
            | (go_at_call 16; (with_reducible refine (awake6_any _ (by repeat (first | exact HT3.out | apply MonT.drewN))).mono ?_); rintro e w7 ⟨rfl, g7⟩)
            | fail)
          go_ret
          exact ⟨rfl, ccall2 (by repeat (first | exact G3.out | apply below_drewN)) g7 (by have := G3.out.size; simp at *; omega)⟩
        · obtain rfl : M = 12 := by omega
          have hq := n3 hin2 (by omega) (by omega)
          have hp3 := fun w hT => (hp3 w hT).mono fun _ _ h => h.some hin2 (hq.1.trans (by rw [HY])) (show (dM (t + 1) : Int) = 1 by rw [hq.2.1]; rfl) hq.2.2
          subst e1
          clear n1 n2 n3 hlast hin2 hq hI hN HY HM HD m1 m2
          go_enter Tryd.func4, Tryd.ntmps4
          go_wp2_with (first
            | (go_at_call_of 12 (Value.int IntKind.i64 t); (with_reducible refine hp2.mono ?_); rintro e w1 ⟨rfl, g1⟩; have HT1 := Lib.hid ((hT.below g1 (Nat.le_refl _)).box (.cells #[Value.int IntKind.i64 Y, Value.int IntKind.i64 12, Value.int IntKind.i64 D] 23)); have HB1 := Lib.hid (box_new w1 (Y) (12) (D) 23); have G1 := Lib.hid (g1.alloc g1.size (.cells #[Value.int IntKind.i64 Y, Value.int IntKind.i64 12, Value.int IntKind.i64 D] 23)); clear g1)
            | (go_at_call 10; (with_reducible refine (hp1 _ HT1.out).mono ?_); rintro e w2 ⟨rfl, g2⟩; have HT2 := Lib.hid (HT1.out.below g2 (Nat.le_refl _)); have HB2 := Lib.hid (HB1.out.below g2 (by simp)); have G2 := Lib.hid (ccall2 G1.out g2 G1.out.size); have L2 := Lib.hid g2.size; clear g2)
            | (go_at_call 12; (with_reducible refine (hp3 _ HT2.out).mono ?_); rintro e w3 ⟨rfl, g3⟩; have HT3 := Lib.hid ((HT2.out.below g3 (Nat.le_refl _)).box (.cells #[Value.int IntKind.i64 (Y + 1), Value.int IntKind.i64 1, Value.int IntKind.i64 1] 23)); obtain ⟨a0, a1, a2⟩ := (HB2.out.below g3 (by have := L2.out; simp at this; omega)).alloc (by have := L2.out; have := g3.size; simp at *; omega) (.cells #[Value.int IntKind.i64 (Y + 1), Value.int IntKind.i64 1, Value.int IntKind.i64 1] 23); obtain ⟨b0, b1, b2⟩ := box_new w3 ((Y + 1)) (1) (1) 23; have G3 := Lib.hid ((ccall2 G2.out g3 G2.out.size).alloc (ccall2 G2.out g3 G2.out.size).size (.cells #[Value.int IntKind.i64 (Y + 1), Value.int IntKind.i64 1, Value.int IntKind.i64 1] 23)); clear g3)
            | (go_at_call 14; first | ((with_reducible refine (hw0 _).mono ?_); rintro e w5 ⟨rfl, k5, rfl⟩) | ((with_reducible refine (hw1 _).mono ?_); rintro e w5 ⟨rfl, k5, rfl⟩) | ((with_reducible refine (hw7 _).mono ?_); rintro e w5 ⟨rfl, k5, rfl⟩))
            | (go_at_call 17; (with_reducible refine (hdim _ (by repeat (first | exact HT3.out | apply MonT.drewN))).mono ?_); rintro e w6 ⟨rfl, rfl⟩)
            | (go_at_call 16; (with_reducible refine (awake6_any _ (by repeat (first | exact HT3.out | apply MonT.drewN))).mono ?_); rintro e w7 ⟨rfl, g7⟩)
            | fail)
          go_ret
          exact ⟨rfl, ccall2 (by repeat (first | exact G3.out | apply below_drewN)) g7 (by have := G3.out.size; simp at *; omega)⟩
    · have hq := hlast hin2
      obtain rfl : Y = 2100 := by rw [← HY, hq.1]
      obtain rfl : M = 12 := by rw [← HM, hq.2.1]; rfl
      obtain rfl : D = 31 := by rw [← HD, hq.2.2]
      have hp3 := fun w hT => (hp3 w hT).mono fun _ _ h => h.none hin2
      clear n1 n2 n3 hlast hin2 hq hI hN HY HM HD m1 m2
      go_enter Tryd.func4, Tryd.ntmps4
      go_wp2_with (first
        | (go_at_call_of 12 (Value.int IntKind.i64 t); (with_reducible refine hp2.mono ?_); rintro e w1 ⟨rfl, g1⟩; have HT1 := Lib.hid ((hT.below g1 (Nat.le_refl _)).box (.cells #[Value.int IntKind.i64 2100, Value.int IntKind.i64 12, Value.int IntKind.i64 31] 23)); have HB1 := Lib.hid (box_new w1 (2100) (12) (31) 23); have G1 := Lib.hid (g1.alloc g1.size (.cells #[Value.int IntKind.i64 2100, Value.int IntKind.i64 12, Value.int IntKind.i64 31] 23)); clear g1)
        | (go_at_call 10; (with_reducible refine (hp1 _ HT1.out).mono ?_); rintro e w2 ⟨rfl, g2⟩; have HT2 := Lib.hid (HT1.out.below g2 (Nat.le_refl _)); have HB2 := Lib.hid (HB1.out.below g2 (by simp)); have G2 := Lib.hid (ccall2 G1.out g2 G1.out.size); have L2 := Lib.hid g2.size; clear g2)
        | (go_at_call 12; (with_reducible refine (hp3 _ HT2.out).mono ?_); rintro e w3 ⟨rfl, g3⟩; have HT3 := Lib.hid ((HT2.out.below g3 (Nat.le_refl _)).box (.cells #[Value.int IntKind.i64 0, Value.int IntKind.i64 0, Value.int IntKind.i64 0] 23)); obtain ⟨a0, a1, a2⟩ := (HB2.out.below g3 (by have := L2.out; simp at this; omega)).alloc (by have := L2.out; have := g3.size; simp at *; omega) (.cells #[Value.int IntKind.i64 0, Value.int IntKind.i64 0, Value.int IntKind.i64 0] 23); obtain ⟨b0, b1, b2⟩ := box_new w3 (0) (0) (0) 23; have G3 := Lib.hid ((ccall2 G2.out g3 G2.out.size).alloc (ccall2 G2.out g3 G2.out.size).size (.cells #[Value.int IntKind.i64 0, Value.int IntKind.i64 0, Value.int IntKind.i64 0] 23)); clear g3)
        | (go_at_call 14; first | ((with_reducible refine (hw0 _).mono ?_); rintro e w5 ⟨rfl, k5, rfl⟩) | ((with_reducible refine (hw1 _).mono ?_); rintro e w5 ⟨rfl, k5, rfl⟩) | ((with_reducible refine (hw7 _).mono ?_); rintro e w5 ⟨rfl, k5, rfl⟩))
        | (go_at_call 16; (with_reducible refine (awake6_any _ (by repeat (first | exact HT3.out | apply MonT.drewN))).mono ?_); rintro e w7 ⟨rfl, g7⟩)
        | fail)
      go_ret
      exact ⟨rfl, ccall2 (by repeat (first | exact G3.out | apply below_drewN)) g7 (by have := G3.out.size; simp at *; omega)⟩
  · have hp2 := hp2.mono fun _ _ h => h.none hin
    clear hin
    go_enter Tryd.func4, Tryd.ntmps4
    go_wp2_with (first
      | (go_at_call_of 12 (Value.int IntKind.i64 t); (with_reducible refine hp2.mono ?_); rintro e w1 ⟨rfl, g1⟩; have HT1 := Lib.hid ((hT.below g1 (Nat.le_refl _)).box (.cells #[Value.int IntKind.i64 0, Value.int IntKind.i64 0, Value.int IntKind.i64 0] 23)); have HB1 := Lib.hid (box_new w1 (0) (0) (0) 23); have G1 := Lib.hid (g1.alloc g1.size (.cells #[Value.int IntKind.i64 0, Value.int IntKind.i64 0, Value.int IntKind.i64 0] 23)); clear g1)
      | (go_at_call 16; (with_reducible refine (awake6_any _ HT1.out).mono ?_); rintro e w7 ⟨rfl, g7⟩)
      | fail)
    go_ret
    exact ⟨rfl, ccall2 G1.out g7 (by have := G1.out.size; simp at *; omega)⟩
end Go.Proofs.YtpcagheghmbjfaaDoor

