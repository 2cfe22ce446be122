/-
  Calendar: the reference's small functions; what is a date, on both sides.
-/
import Derived.Test.YtpcagheghmbjfaaDoorCaB
set_option linter.unusedVariables false
set_option linter.unusedSimpArgs false
namespace Go.Proofs.YtpcagheghmbjfaaDoor
open Go.RowKit

set_option maxHeartbeats 2000000 in
set_option maxRecDepth 100000 in
theorem rfloor_any (n b : Int) (hb : 1 < b) (hb2 : b ≤ 1000000) (h0 : -9223372036854775808 ≤ n) (h1 : n ≤ 9223372036854775807) (w : World) : Calls Tryd.prog 48 #[.int .i64 n, .int .i64 b] w (RetI0 w (n / b)) := by
  obtain ⟨q, hq⟩ : ∃ v, n.tdiv b = v := ⟨_, rfl⟩
  obtain ⟨r, hr⟩ : ∃ v, n.tmod b = v := ⟨_, rfl⟩
  obtain ⟨f1, f2, f3, f4⟩ := floor_of (by omega) hq hr
  have hqb := tdiv_in hb h0 h1
  rw [hq] at hqb
  obtain ⟨Q, HQ⟩ : ∃ v, Hid (n / b = v) := ⟨_, rfl⟩
  rw [HQ.out] at f1 f2 ⊢
  have b0 : (b == 0) = false := by simp; omega
  have b1 : ¬ b = 0 := by omega
  have b2 : ¬ b = -1 := by omega
  have b3 : (b == -1) = false := by simp; omega
  by_cases hneg : r < 0
  · obtain ⟨e1, e2⟩ := f1 hneg
    subst e1
    clear f1 f2 e2
    go_enter Tryd.func48, Tryd.ntmps48
    go_wp2_with fail
    go_ret
    exact ⟨rfl, rfl⟩
  · obtain ⟨e1, e2⟩ := f2 hneg
    subst e1
    have hn2 : decide (r < 0) = false := by simpa using hneg
    clear f1 f2 e2
    go_enter Tryd.func48, Tryd.ntmps48
    go_wp2_with fail
    go_ret
    exact ⟨rfl, rfl⟩
set_option maxHeartbeats 2000000 in
set_option maxRecDepth 100000 in
theorem rleap_any (y : Int) (h0 : -9223372036854775808 ≤ y) (h1 : y ≤ 9223372036854775807) (w : World) : Calls Tryd.prog 42 #[.int .i64 y] w (RetQ w (leapB y)) := by
  obtain ⟨a, b, c, ha, hb, hc, hl⟩ := leap_tests y
  obtain ⟨L, HL⟩ : ∃ v, Hid (leapB y = v) := ⟨_, rfl⟩
  rw [HL.out] at hl ⊢
  by_cases c4 : a = 0
  · subst c4
    by_cases c100 : b = 0
    · subst c100
      by_cases c400 : c = 0
      · subst c400
        obtain rfl : L = true := by rw [hl]; simp
        clear hl
        go_enter Tryd.func42, Tryd.ntmps42
        go_wp2
        go_ret
        exact ⟨rfl, rfl⟩
      · have c4' : (c == 0) = false := by simpa using c400
        obtain rfl : L = false := by rw [hl]; simp [c400]
        clear hl
        go_enter Tryd.func42, Tryd.ntmps42
        go_wp2
        go_ret
        exact ⟨rfl, rfl⟩
    · have c1' : (b == 0) = false := by simpa using c100
      have c2' : (b != 0) = true := by rw [bne, c1']; rfl
      obtain rfl : L = true := by rw [hl]; simp [c100]
      clear hl
      go_enter Tryd.func42, Tryd.ntmps42
      go_wp2
      go_ret
      exact ⟨rfl, rfl⟩
  · have c4' : (a == 0) = false := by simpa using c4
    by_cases c400 : c = 0
    · subst c400
      obtain rfl : L = true := by rw [hl]; simp
      clear hl
      go_enter Tryd.func42, Tryd.ntmps42
      go_wp2
      go_ret
      exact ⟨rfl, rfl⟩
    · have c5' : (c == 0) = false := by simpa using c400
      obtain rfl : L = false := by rw [hl]; simp [c400, c4]
      clear hl
      go_enter Tryd.func42, Tryd.ntmps42
      go_wp2
      go_ret
      exact ⟨rfl, rfl⟩

def RetDE (w : World) (z e : Int) (en : Ending) (w' : World) : Prop := en = .returned (.tuple #[.int .i64 z, .int .i64 e]) ∧ w = w'
set_option maxHeartbeats 4000000 in
set_option maxRecDepth 100000 in
theorem rdim_in (y : Int) (m : Nat) (y1 : 1999 ≤ y) (y2 : y ≤ 2100) (m1 : 1 ≤ m) (m2 : m ≤ 12) (w : World) : Calls Tryd.prog 18 #[.int .i64 y, .int .i64 (m : Int)] w (RetDE w (mlB (leapB y) m) 0) := by
  have hl := rleap_any y (by omega) (by omega) w
  obtain ⟨L, HL⟩ : ∃ v, Hid (leapB y = v) := ⟨_, rfl⟩
  rw [HL.out] at hl ⊢
  have hm : m = 1 ∨ m = 2 ∨ m = 3 ∨ m = 4 ∨ m = 5 ∨ m = 6 ∨ m = 7 ∨ m = 8 ∨ m = 9 ∨ m = 10 ∨ m = 11 ∨ m = 12 := by omega
  have q1 : decide (y < 1999) = false := by simp; omega
  have q2 : decide (2100 < y) = false := by simp; omega
  rcases hm with rfl | rfl | rfl | rfl | rfl | rfl | rfl | rfl | rfl | rfl | rfl | rfl
  · clear hl
    go_enter Tryd.func18, Tryd.ntmps18
    go_wp2_with fail
    go_ret2
    exact ⟨rfl, rfl⟩
  · cases L with
    | true =>
      go_enter Tryd.func18, Tryd.ntmps18
      go_wp2_with (first | (go_at_call 42; (with_reducible refine hl.mono ?_); rintro e w1 ⟨rfl, rfl⟩) | fail)
      go_ret2
      exact ⟨rfl, rfl⟩
    | false =>
      go_enter Tryd.func18, Tryd.ntmps18
      go_wp2_with (first | (go_at_call 42; (with_reducible refine hl.mono ?_); rintro e w1 ⟨rfl, rfl⟩) | fail)
      go_ret2
      exact ⟨rfl, rfl⟩
  · clear hl
    go_enter Tryd.func18, Tryd.ntmps18
    go_wp2_with fail
    go_ret2
    exact ⟨rfl, rfl⟩
  · clear hl
    go_enter Tryd.func18, Tryd.ntmps18
    go_wp2_with fail
    go_ret2
    exact ⟨rfl, rfl⟩
  · clear hl
    go_enter Tryd.func18, Tryd.ntmps18
    go_wp2_with fail
    go_ret2
    exact ⟨rfl, rfl⟩
  · clear hl
    go_enter Tryd.func18, Tryd.ntmps18
    go_wp2_with fail
    go_ret2
    exact ⟨rfl, rfl⟩
  · clear hl
    go_enter Tryd.func18, Tryd.ntmps18
    go_wp2_with fail
    go_ret2
    exact ⟨rfl, rfl⟩
  · clear hl
    go_enter Tryd.func18, Tryd.ntmps18
    go_wp2_with fail
    go_ret2
    exact ⟨rfl, rfl⟩
  · clear hl
    go_enter Tryd.func18, Tryd.ntmps18
    go_wp2_with fail
    go_ret2
    exact ⟨rfl, rfl⟩
  · clear hl
    go_enter Tryd.func18, Tryd.ntmps18
    go_wp2_with fail
    go_ret2
    exact ⟨rfl, rfl⟩
  · clear hl
    go_enter Tryd.func18, Tryd.ntmps18
    go_wp2_with fail
    go_ret2
    exact ⟨rfl, rfl⟩
  · clear hl
    go_enter Tryd.func18, Tryd.ntmps18
    go_wp2_with fail
    go_ret2
    exact ⟨rfl, rfl⟩
set_option maxHeartbeats 4000000 in
set_option maxRecDepth 100000 in
theorem rdim_out (y m : Int) (h : ¬ ((1999 ≤ y ∧ y ≤ 2100) ∧ 1 ≤ m ∧ m ≤ 12)) (w : World) : Calls Tryd.prog 18 #[.int .i64 y, .int .i64 m] w (RetDE w 0 5) := by
  by_cases a1 : y < 1999
  · clear h
    go_enter Tryd.func18, Tryd.ntmps18
    go_wp2_with fail
    go_ret2
    exact ⟨rfl, rfl⟩
  have q1 : decide (y < 1999) = false := by simpa using a1
  by_cases a2 : 2100 < y
  · clear h
    go_enter Tryd.func18, Tryd.ntmps18
    go_wp2_with fail
    go_ret2
    exact ⟨rfl, rfl⟩
  have q2 : decide (2100 < y) = false := by simpa using a2
  by_cases a3 : m < 1
  · clear h
    go_enter Tryd.func18, Tryd.ntmps18
    go_wp2_with fail
    go_ret2
    exact ⟨rfl, rfl⟩
  have q3 : decide (m < 1) = false := by simpa using a3
  have a4 : 12 < m := by omega
  clear h
  go_enter Tryd.func18, Tryd.ntmps18
  go_wp2_with fail
  go_ret2
  exact ⟨rfl, rfl⟩

/-- A date in a box. -/
def dateV (y m d : Int) : Value := .agg #[.int .i64 y, .int .i64 m, .int .i64 d]
set_option maxHeartbeats 4000000 in
set_option maxRecDepth 100000 in
theorem risDate_any (y m d : Int) (w : World) : Calls Tryd.prog 41 #[dateV y m d] w (RetB1 w (dateB y m d)) := by
  have hdef : dateB y m d = (decide (1999 ≤ y ∧ y ≤ 2100) && (decide (1 ≤ m ∧ m ≤ 12) && (decide (1 ≤ d) && decide (d ≤ mlB (leapB y) m.toNat)))) := rfl
  obtain ⟨B, HB⟩ : ∃ v, Hid (dateB y m d = v) := ⟨_, rfl⟩
  rw [HB.out] at hdef ⊢
  unfold dateV
  by_cases h : ((1999 ≤ y ∧ y ≤ 2100) ∧ 1 ≤ m ∧ m ≤ 12)
  · obtain ⟨k, rfl⟩ : ∃ k : Nat, m = (k : Int) := ⟨m.toNat, by omega⟩
    obtain ⟨⟨y1, y2⟩, m1, m2⟩ := h
    have hd := rdim_in y k y1 y2 (by omega) (by omega)
    rw [show ((k : Int)).toNat = k from rfl, decide_eq_true (p := 1999 ≤ y ∧ y ≤ 2100) ⟨y1, y2⟩, decide_eq_true (p := 1 ≤ (k : Int) ∧ (k : Int) ≤ 12) ⟨m1, m2⟩, Bool.true_and, Bool.true_and] at hdef
    obtain ⟨M, HM⟩ : ∃ v, Hid (mlB (leapB y) k = v) := ⟨_, rfl⟩
    rw [HM.out] at hd hdef
    by_cases d1 : 1 ≤ d
    · by_cases d2 : d ≤ M
      · obtain rfl : B = true := by rw [hdef]; simp [d1, d2]
        clear hdef
        go_enter Tryd.func41, Tryd.ntmps41
        go_wp2_with (first | (go_at_call 18; (with_reducible refine (hd _).mono ?_); rintro e w1 ⟨rfl, rfl⟩) | fail)
        go_ret
        exact ⟨rfl, cnew _ _⟩
      · obtain rfl : B = false := by rw [hdef]; simp [d2]
        have d3 : decide (d ≤ M) = false := by simpa using d2
        clear hdef
        go_enter Tryd.func41, Tryd.ntmps41
        go_wp2_with (first | (go_at_call 18; (with_reducible refine (hd _).mono ?_); rintro e w1 ⟨rfl, rfl⟩) | fail)
        go_ret
        exact ⟨rfl, cnew _ _⟩
    · obtain rfl : B = false := by rw [hdef]; simp [d1]
      clear hdef
      go_enter Tryd.func41, Tryd.ntmps41
      go_wp2_with (first | (go_at_call 18; (with_reducible refine (hd _).mono ?_); rintro e w1 ⟨rfl, rfl⟩) | fail)
      go_ret
      exact ⟨rfl, cnew _ _⟩
  · have hd := rdim_out y m h
    obtain rfl : B = false := by
      rw [hdef, Bool.eq_false_iff]
      intro hc
      simp only [Bool.and_eq_true, decide_eq_true_eq] at hc
      exact h ⟨hc.1, hc.2.1⟩
    clear hdef h
    go_enter Tryd.func41, Tryd.ntmps41
    go_wp2_with (first | (go_at_call 18; (with_reducible refine (hd _).mono ?_); rintro e w1 ⟨rfl, rfl⟩) | fail)
    go_ret
    exact ⟨rfl, cnew _ _⟩
end Go.Proofs.YtpcagheghmbjfaaDoor

