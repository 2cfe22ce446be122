/-
  Calendar: the reference's small functions; what is a date, on both sides.
-/
import Derived.Test.YtiohakpbgmignaaCaB
set_option linter.unusedVariables false
set_option linter.unusedSimpArgs false
namespace Go.Proofs.Ytiohakpbgmignaa
open Go.RowKit

set_option maxHeartbeats 2000000 in
set_option maxRecDepth 100000 in
theorem rfloor_any (n b : Int) (hb : 1 < b) (hb2 : b ≤ 1000000) (h0 : -9223372036854775808 ≤ n) (h1 : n ≤ 9223372036854775807) (w : World) : Calls Try.prog 53 #[.int .i64 n, .int .i64 b] w (RetI0 w (n / b)) := by
  obtain ⟨q, hq⟩ : ∃ v, n.tdiv b = v := ⟨_, rfl⟩
  obtain ⟨r, hr⟩ : ∃ v, n.tmod b = v := ⟨_, rfl⟩
  obtain ⟨f1, f2, f3, f4⟩ := floor_of (by omega) hq hr
  have hqb := tdiv_in hb h0 h1
  rw [hq] at hqb
  obtain ⟨Q, HQ⟩ : ∃ v, Hid (n / b = v) := ⟨_, rfl⟩
  rw [HQ.out] at f1 f2 ⊢
  have b0 : (b == 0) = false := by simp; omega
  have b1 : ¬ b = 0 := by omega
  have b2 : ¬ b = -1 := by omega
  have b3 : (b == -1) = false := by simp; omega
  by_cases hneg : r < 0
  · obtain ⟨e1, e2⟩ := f1 hneg
    subst e1
    clear f1 f2 e2
    go_enter Try.func53, Try.ntmps53
    go_wp2_with fail
    go_ret
    exact ⟨rfl, rfl⟩
  · obtain ⟨e1, e2⟩ := f2 hneg
    subst e1
    have hn2 : decide (r < 0) = false := by simpa using hneg
    clear f1 f2 e2
    go_enter Try.func53, Try.ntmps53
    go_wp2_with fail
    go_ret
    exact ⟨rfl, rfl⟩
def RetDE (w : World) (z e : Int) (en : Ending) (w' : World) : Prop := en = .returned (.tuple #[.int .i64 z, .int .i64 e]) ∧ w = w'
/-- A date in a box. -/
def dateV (y m d : Int) : Value := .agg #[.int .i64 y, .int .i64 m, .int .i64 d]
end Go.Proofs.Ytiohakpbgmignaa

