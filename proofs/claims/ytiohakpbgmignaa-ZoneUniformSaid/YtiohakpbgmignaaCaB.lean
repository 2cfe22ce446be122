/-
  Calendar: the program's small functions: division, years, months, the length of a month, the days before a year, weekdays, minutes.
-/
import Derived.Test.YtiohakpbgmignaaCaA
set_option linter.unusedVariables false
set_option linter.unusedSimpArgs false
namespace Go.Proofs.Ytiohakpbgmignaa
open Go.RowKit

theorem tm_zero (y k : Int) : y.tmod k = 0 ↔ y % k = 0 := by
  rw [← Int.dvd_iff_tmod_eq_zero, ← Int.dvd_iff_emod_eq_zero]
theorem floor_of {n b q r : Int} (hb : 0 < b) (hq : n.tdiv b = q) (hr : n.tmod b = r) : (r < 0 → n / b = q - 1 ∧ n % b = r + b) ∧ (¬ r < 0 → n / b = q ∧ n % b = r) ∧ -b < r ∧ r < b := by
  have h1 := Int.tmod_add_mul_tdiv n b
  rw [hq, hr] at h1
  have h2 : -b < r ∧ r < b := by
    have h := Int.natAbs_tmod n b
    rw [hr] at h
    have := Nat.mod_lt n.natAbs (show 0 < b.natAbs by omega)
    omega
  refine ⟨fun h => ?_, fun h => ?_, h2⟩
  · have e : n = (r + b) + b * (q - 1) := by rw [Int.mul_sub]; omega
    constructor
    · rw [e, Int.add_mul_ediv_left _ _ (by omega), Int.ediv_eq_zero_of_lt (by omega) (by omega)]; omega
    · rw [e, Int.add_mul_emod_self_left, Int.emod_eq_of_lt (by omega) (by omega)]
  · constructor
    · rw [← h1, Int.add_mul_ediv_left _ _ (by omega), Int.ediv_eq_zero_of_lt (by omega) (by omega)]; omega
    · rw [← h1, Int.add_mul_emod_self_left, Int.emod_eq_of_lt (by omega) (by omega)]
theorem tdiv_in {n b : Int} (hb : 1 < b) (h0 : -9223372036854775808 ≤ n) (h1 : n ≤ 9223372036854775807) : -9223372036854775807 ≤ n.tdiv b ∧ n.tdiv b ≤ 9223372036854775807 := by
  have h : (n.tdiv b).natAbs = n.natAbs / b.natAbs := Int.natAbs_tdiv n b
  have h2 : n.natAbs / b.natAbs ≤ n.natAbs / 2 := Nat.div_le_div_left (by omega) (by omega)
  omega
def RetDM (w : World) (q r : Int) (e : Ending) (w' : World) : Prop := e = .returned (.tuple #[.int .i64 q, .int .i64 r]) ∧ ∃ k, w' = w.drewN k
def RetI2 (w : World) (z : Int) (e : Ending) (w' : World) : Prop := e = .returned (.int .i64 z) ∧ ∃ k, w' = w.drewN k
set_option maxHeartbeats 2000000 in
set_option maxRecDepth 100000 in
theorem divide_any (n b : Int) (hb : 1 < b) (hb2 : b ≤ 1000000) (h0 : -9223372036854775808 ≤ n) (h1 : n ≤ 9223372036854775807) (w : World) : Calls Try.prog 49 #[.int .i64 n, .int .i64 b] w (RetDM w (n / b) (n % b)) := by
  obtain ⟨q, hq⟩ : ∃ v, n.tdiv b = v := ⟨_, rfl⟩
  obtain ⟨r, hr⟩ : ∃ v, n.tmod b = v := ⟨_, rfl⟩
  obtain ⟨f1, f2, f3, f4⟩ := floor_of (by omega) hq hr
  have hqb := tdiv_in hb h0 h1
  rw [hq] at hqb
  obtain ⟨Q, HQ⟩ : ∃ v, Hid (n / b = v) := ⟨_, rfl⟩
  obtain ⟨R, HR⟩ : ∃ v, Hid (n % b = v) := ⟨_, rfl⟩
  rw [HQ.out, HR.out] at f1 f2 ⊢
  have b0 : (b == 0) = false := by simp; omega
  have b1 : ¬ b = 0 := by omega
  have b2 : ¬ b = -1 := by omega
  have b3 : (b == -1) = false := by simp; omega
  by_cases hneg : r < 0
  · obtain ⟨e1, e2⟩ := f1 hneg
    subst e1 e2
    clear f1 f2
    go_enter Try.func49, Try.ntmps49
    go_wp2_with fail
    go_quiet (fail)
    go_wp2_with fail
    go_ret2
    exact ⟨rfl, _, rfl⟩
  · obtain ⟨e1, e2⟩ := f2 hneg
    subst e1 e2
    have hn2 : decide (R < 0) = false := by simpa using hneg
    clear f1 f2
    go_enter Try.func49, Try.ntmps49
    go_wp2_with fail
    go_quiet (fail)
    go_wp2_with fail
    go_ret2
    exact ⟨rfl, _, rfl⟩
theorem leap_tests (y : Int) : ∃ a b c : Int, y.tmod 4 = a ∧ y.tmod 100 = b ∧ y.tmod 400 = c ∧ leapB y = ((decide (a = 0) && decide (b ≠ 0)) || decide (c = 0)) := by
  refine ⟨_, _, _, rfl, rfl, rfl, ?_⟩
  unfold leapB
  congr 1
  · congr 1
    · exact decide_eq_decide.2 (tm_zero y 4).symm
    · exact decide_eq_decide.2 (not_congr (tm_zero y 100).symm)
  · exact decide_eq_decide.2 (tm_zero y 400).symm
def wdayN (d : Int) : Int := (5 + d % 7) % 7
set_option maxHeartbeats 2000000 in
set_option maxRecDepth 100000 in
theorem splitMinute_any (d : Int) (h0 : -9223372036854775808 ≤ d) (h1 : d ≤ 9223372036854775807) (w : World) : Calls Try.prog 30 #[.int .i64 d] w (RetDM w (d / 1440) (d % 1440)) := by
  have hd := divide_any d 1440 (by omega) (by omega) h0 h1 w
  obtain ⟨q, Hq⟩ : ∃ v, Hid (d / 1440 = v) := ⟨_, rfl⟩
  obtain ⟨r, Hr⟩ : ∃ v, Hid (d % 1440 = v) := ⟨_, rfl⟩
  rw [Hq.out, Hr.out] at hd ⊢
  go_enter Try.func30, Try.ntmps30
  go_wp2_with (first | (go_at_call 49; (with_reducible refine hd.mono ?_); rintro e w1 ⟨rfl, k1, rfl⟩) | fail)
  go_ret2
  exact ⟨rfl, _, rfl⟩
end Go.Proofs.Ytiohakpbgmignaa

