/-
  Calendar: the program's small functions: division, years, months, the length of a month, the days before a year, weekdays, minutes.
-/
import Derived.Test.YtpcagheghmbjfaaDoorCaA
set_option linter.unusedVariables false
set_option linter.unusedSimpArgs false
namespace Go.Proofs.YtpcagheghmbjfaaDoor
open Go.RowKit

theorem tm_zero (y k : Int) : y.tmod k = 0 ↔ y % k = 0 := by
  rw [← Int.dvd_iff_tmod_eq_zero, ← Int.dvd_iff_emod_eq_zero]
theorem floor_of {n b q r : Int} (hb : 0 < b) (hq : n.tdiv b = q) (hr : n.tmod b = r) : (r < 0 → n / b = q - 1 ∧ n % b = r + b) ∧ (¬ r < 0 → n / b = q ∧ n % b = r) ∧ -b < r ∧ r < b := by
  have h1 := Int.tmod_add_mul_tdiv n b
  rw [hq, hr] at h1
  have h2 : -b < r ∧ r < b := by
    have h := Int.natAbs_tmod n b
    rw [hr] at h
    have := Nat.mod_lt n.natAbs (show 0 < b.natAbs by omega)
    omega
  refine ⟨fun h => ?_, fun h => ?_, h2⟩
  · have e : n = (r + b) + b * (q - 1) := by rw [Int.mul_sub]; omega
    constructor
    · rw [e, Int.add_mul_ediv_left _ _ (by omega), Int.ediv_eq_zero_of_lt (by omega) (by omega)]; omega
    · rw [e, Int.add_mul_emod_self_left, Int.emod_eq_of_lt (by omega) (by omega)]
  · constructor
    · rw [← h1, Int.add_mul_ediv_left _ _ (by omega), Int.ediv_eq_zero_of_lt (by omega) (by omega)]; omega
    · rw [← h1, Int.add_mul_emod_self_left, Int.emod_eq_of_lt (by omega) (by omega)]
theorem tdiv_in {n b : Int} (hb : 1 < b) (h0 : -9223372036854775808 ≤ n) (h1 : n ≤ 9223372036854775807) : -9223372036854775807 ≤ n.tdiv b ∧ n.tdiv b ≤ 9223372036854775807 := by
  have h : (n.tdiv b).natAbs = n.natAbs / b.natAbs := Int.natAbs_tdiv n b
  have h2 : n.natAbs / b.natAbs ≤ n.natAbs / 2 := Nat.div_le_div_left (by omega) (by omega)
  omega
def RetDM (w : World) (q r : Int) (e : Ending) (w' : World) : Prop := e = .returned (.tuple #[.int .i64 q, .int .i64 r]) ∧ ∃ k, w' = w.drewN k
def RetI2 (w : World) (z : Int) (e : Ending) (w' : World) : Prop := e = .returned (.int .i64 z) ∧ ∃ k, w' = w.drewN k
theorem MonT.drewN {w : World} (h : MonT w) (k : Nat) : MonT (w.drewN k) := h.below (below_drewN (Below.refl w.heap.size w) k) (Nat.le_refl _)

set_option maxHeartbeats 2000000 in
set_option maxRecDepth 100000 in
theorem divide_any (n b : Int) (hb : 1 < b) (hb2 : b ≤ 1000000) (h0 : -9223372036854775808 ≤ n) (h1 : n ≤ 9223372036854775807) (w : World) : Calls Tryd.prog 45 #[.int .i64 n, .int .i64 b] w (RetDM w (n / b) (n % b)) := by
  obtain ⟨q, hq⟩ : ∃ v, n.tdiv b = v := ⟨_, rfl⟩
  obtain ⟨r, hr⟩ : ∃ v, n.tmod b = v := ⟨_, rfl⟩
  obtain ⟨f1, f2, f3, f4⟩ := floor_of (by omega) hq hr
  have hqb := tdiv_in hb h0 h1
  rw [hq] at hqb
  obtain ⟨Q, HQ⟩ : ∃ v, Hid (n / b = v) := ⟨_, rfl⟩
  obtain ⟨R, HR⟩ : ∃ v, Hid (n % b = v) := ⟨_, rfl⟩
  rw [HQ.out, HR.out] at f1 f2 ⊢
  have b0 : (b == 0) = false := by simp; omega
  have b1 : ¬ b = 0 := by omega
  have b2 : ¬ b = -1 := by omega
  have b3 : (b == -1) = false := by simp; omega
  by_cases hneg : r < 0
  · obtain ⟨e1, e2⟩ := f1 hneg
    subst e1 e2
    clear f1 f2
    go_enter Tryd.func45, Tryd.ntmps45
    go_wp2_with fail
    go_quiet (fail)
    go_wp2_with fail
    go_ret2
    exact ⟨rfl, _, rfl⟩
  · obtain ⟨e1, e2⟩ := f2 hneg
    subst e1 e2
    have hn2 : decide (R < 0) = false := by simpa using hneg
    clear f1 f2
    go_enter Tryd.func45, Tryd.ntmps45
    go_wp2_with fail
    go_quiet (fail)
    go_wp2_with fail
    go_ret2
    exact ⟨rfl, _, rfl⟩
set_option maxHeartbeats 2000000 in
theorem isYear_any (y : Int) (w : World) : Calls Tryd.prog 44 #[.int .i64 y] w (RetQ w (decide (1999 ≤ y ∧ y ≤ 2100))) := by
  obtain ⟨B, HB⟩ : ∃ v, Hid (decide (1999 ≤ y ∧ y ≤ 2100) = v) := ⟨_, rfl⟩
  rw [HB.out]
  by_cases h1 : 1999 ≤ y
  · by_cases h2 : y ≤ 2100
    · obtain rfl : B = true := by rw [← HB.out]; simp [h1, h2]
      go_enter Tryd.func44, Tryd.ntmps44
      go_wp2
      go_ret
      exact ⟨rfl, rfl⟩
    · obtain rfl : B = false := by rw [← HB.out]; simp [h2]
      go_enter Tryd.func44, Tryd.ntmps44
      go_wp2
      go_ret
      exact ⟨rfl, rfl⟩
  · obtain rfl : B = false := by rw [← HB.out]; simp [h1]
    go_enter Tryd.func44, Tryd.ntmps44
    go_wp2
    go_ret
    exact ⟨rfl, rfl⟩
set_option maxHeartbeats 2000000 in
theorem isMonth_any (y : Int) (w : World) : Calls Tryd.prog 46 #[.int .i64 y] w (RetQ w (decide (1 ≤ y ∧ y ≤ 12))) := by
  obtain ⟨B, HB⟩ : ∃ v, Hid (decide (1 ≤ y ∧ y ≤ 12) = v) := ⟨_, rfl⟩
  rw [HB.out]
  by_cases h1 : 1 ≤ y
  · by_cases h2 : y ≤ 12
    · obtain rfl : B = true := by rw [← HB.out]; simp [h1, h2]
      go_enter Tryd.func46, Tryd.ntmps46
      go_wp2
      go_ret
      exact ⟨rfl, rfl⟩
    · obtain rfl : B = false := by rw [← HB.out]; simp [h2]
      go_enter Tryd.func46, Tryd.ntmps46
      go_wp2
      go_ret
      exact ⟨rfl, rfl⟩
  · obtain rfl : B = false := by rw [← HB.out]; simp [h1]
    go_enter Tryd.func46, Tryd.ntmps46
    go_wp2
    go_ret
    exact ⟨rfl, rfl⟩

theorem leap_tests (y : Int) : ∃ a b c : Int, y.tmod 4 = a ∧ y.tmod 100 = b ∧ y.tmod 400 = c ∧ leapB y = ((decide (a = 0) && decide (b ≠ 0)) || decide (c = 0)) := by
  refine ⟨_, _, _, rfl, rfl, rfl, ?_⟩
  unfold leapB
  congr 1
  · congr 1
    · exact decide_eq_decide.2 (tm_zero y 4).symm
    · exact decide_eq_decide.2 (not_congr (tm_zero y 100).symm)
  · exact decide_eq_decide.2 (tm_zero y 400).symm
set_option maxHeartbeats 2000000 in
set_option maxRecDepth 100000 in
theorem isLeap_any (y : Int) (h0 : -9223372036854775808 ≤ y) (h1 : y ≤ 9223372036854775807) (w : World) : Calls Tryd.prog 64 #[.int .i64 y] w (RetQ w (leapB y)) := by
  obtain ⟨a, b, c, ha, hb, hc, hl⟩ := leap_tests y
  obtain ⟨L, HL⟩ : ∃ v, Hid (leapB y = v) := ⟨_, rfl⟩
  rw [HL.out] at hl ⊢
  by_cases c4 : a = 0
  · subst c4
    by_cases c100 : b = 0
    · subst c100
      by_cases c400 : c = 0
      · subst c400
        obtain rfl : L = true := by rw [hl]; simp
        clear hl
        go_enter Tryd.func64, Tryd.ntmps64
        go_wp2
        go_ret
        exact ⟨rfl, rfl⟩
      · have c4' : (c == 0) = false := by simpa using c400
        obtain rfl : L = false := by rw [hl]; simp [c400]
        clear hl
        go_enter Tryd.func64, Tryd.ntmps64
        go_wp2
        go_ret
        exact ⟨rfl, rfl⟩
    · have c1' : (b == 0) = false := by simpa using c100
      have c2' : (b != 0) = true := by rw [bne, c1']; rfl
      obtain rfl : L = true := by rw [hl]; simp [c100]
      clear hl
      go_enter Tryd.func64, Tryd.ntmps64
      go_wp2
      go_ret
      exact ⟨rfl, rfl⟩
  · have c4' : (a == 0) = false := by simpa using c4
    by_cases c400 : c = 0
    · subst c400
      obtain rfl : L = true := by rw [hl]; simp
      clear hl
      go_enter Tryd.func64, Tryd.ntmps64
      go_wp2
      go_ret
      exact ⟨rfl, rfl⟩
    · have c5' : (c == 0) = false := by simpa using c400
      obtain rfl : L = false := by rw [hl]; simp [c400, c4]
      clear hl
      go_enter Tryd.func64, Tryd.ntmps64
      go_wp2
      go_ret
      exact ⟨rfl, rfl⟩

set_option maxHeartbeats 2000000 in
set_option maxRecDepth 100000 in
theorem monthLength_any (y : Int) (m : Nat) (m1 : 1 ≤ m) (m2 : m ≤ 12) (h0 : -9223372036854775808 ≤ y) (h1 : y ≤ 9223372036854775807) (w : World) (hT : MonT w) : Calls Tryd.prog 47 #[.int .i64 y, .int .i64 (m : Int)] w (RetI0 w (mlB (leapB y) m)) := by
  have hp := ml_pos (b := leapB y) m1 m2
  have hp2 := ml_pos (b := false) m1 m2
  have hl := isLeap_any y h0 h1 w
  have hc := hT (m - 1) (by omega)
  rw [show m - 1 + 1 = m by omega] at hc
  have hadd : m = 2 → leapB y = true → mlB (leapB y) m = mlB false m + 1 := by
    rintro rfl h; rw [h]; rfl
  have hsame := ml_false (b := leapB y) (m := m)
  obtain ⟨L, HL⟩ : ∃ v, Hid (leapB y = v) := ⟨_, rfl⟩
  obtain ⟨R, HR⟩ : ∃ v, Hid (mlB (leapB y) m = v) := ⟨_, rfl⟩
  obtain ⟨Z, HZ⟩ : ∃ v, Hid (mlB false m = v) := ⟨_, rfl⟩
  rw [HR.out, HZ.out, HL.out] at hadd
  rw [HR.out, HZ.out, HL.out] at hsame
  rw [HR.out] at hp ⊢
  rw [HZ.out] at hc hp2
  rw [HL.out] at hl
  clear hT
  have i0 : (0 : Int) ≤ (m : Int) - 1 := by omega
  have i1 : (m : Int) - 1 < 12 := by omega
  have i2 : ((m : Int) - 1).toNat = m - 1 := by omega
  by_cases c2 : m = 2
  · subst c2
    cases L with
    | true =>
      obtain rfl := hadd rfl rfl
      clear hadd hsame
      go_enter Tryd.func47, Tryd.ntmps47
      go_wp2_with (first | (go_at_call 64; (with_reducible refine hl.mono ?_); rintro e w1 ⟨rfl, rfl⟩) | fail)
      go_ret
      exact ⟨rfl, rfl⟩
    | false =>
      obtain rfl := hsame (.inr rfl)
      clear hadd hsame
      go_enter Tryd.func47, Tryd.ntmps47
      go_wp2_with (first | (go_at_call 64; (with_reducible refine hl.mono ?_); rintro e w1 ⟨rfl, rfl⟩) | fail)
      go_ret
      exact ⟨rfl, rfl⟩
  · obtain rfl := hsame (.inl c2)
    have c3 : ((m : Int) == 2) = false := by simp; omega
    have c4 : ¬ (m : Int) = 2 := by omega
    clear hadd hsame
    go_enter Tryd.func47, Tryd.ntmps47
    go_wp2_with (first | (go_at_call 64; (with_reducible refine hl.mono ?_); rintro e w1 ⟨rfl, rfl⟩) | fail)
    go_ret
    exact ⟨rfl, rfl⟩
set_option maxHeartbeats 2000000 in
set_option maxRecDepth 100000 in
theorem daysBefore_any (r : Int) (h0 : 0 ≤ r) (h1 : r ≤ 100000) (w : World) : Calls Tryd.prog 63 #[.int .i64 r] w (RetI0 w (yrd r)) := by
  have hd : yrd r = r * 365 + (r + 3) / 4 - (r + 99) / 100 + (r + 399) / 400 := rfl
  obtain ⟨Y, HY⟩ : ∃ v, Hid (yrd r = v) := ⟨_, rfl⟩
  rw [HY.out] at hd ⊢
  subst hd
  go_enter Tryd.func63, Tryd.ntmps63
  go_wp2
  go_ret
  exact ⟨rfl, rfl⟩
def wdayN (d : Int) : Int := (5 + d % 7) % 7
set_option maxHeartbeats 2000000 in
set_option maxRecDepth 100000 in
theorem weekday_any (d : Int) (h0 : -9223372036854775808 ≤ d) (h1 : d ≤ 9223372036854775807) (w : World) : Calls Tryd.prog 14 #[.int .i64 d] w (RetI2 w (wdayN d)) := by
  have hd := divide_any d 7 (by omega) (by omega) h0 h1 w
  unfold wdayN
  have r0 : 0 ≤ d % 7 := Int.emod_nonneg _ (by omega)
  have r1 : d % 7 < 7 := Int.emod_lt_of_pos _ (by omega)
  obtain ⟨q, Hq⟩ : ∃ v, Hid (d / 7 = v) := ⟨_, rfl⟩
  obtain ⟨r, Hr⟩ : ∃ v, Hid (d % 7 = v) := ⟨_, rfl⟩
  rw [Hq.out, Hr.out] at hd
  rw [Hr.out] at r0 r1 ⊢
  go_enter Tryd.func14, Tryd.ntmps14
  go_wp2_with (first | (go_at_call 45; (with_reducible refine hd.mono ?_); rintro e w1 ⟨rfl, k1, rfl⟩) | fail)
  go_ret
  exact ⟨rfl, _, rfl⟩
set_option maxHeartbeats 2000000 in
set_option maxRecDepth 100000 in
theorem splitMinute_any (d : Int) (h0 : -9223372036854775808 ≤ d) (h1 : d ≤ 9223372036854775807) (w : World) : Calls Tryd.prog 21 #[.int .i64 d] w (RetDM w (d / 1440) (d % 1440)) := by
  have hd := divide_any d 1440 (by omega) (by omega) h0 h1 w
  obtain ⟨q, Hq⟩ : ∃ v, Hid (d / 1440 = v) := ⟨_, rfl⟩
  obtain ⟨r, Hr⟩ : ∃ v, Hid (d % 1440 = v) := ⟨_, rfl⟩
  rw [Hq.out, Hr.out] at hd ⊢
  go_enter Tryd.func21, Tryd.ntmps21
  go_wp2_with (first | (go_at_call 45; (with_reducible refine hd.mono ?_); rintro e w1 ⟨rfl, k1, rfl⟩) | fail)
  go_ret2
  exact ⟨rfl, _, rfl⟩
end Go.Proofs.YtpcagheghmbjfaaDoor

