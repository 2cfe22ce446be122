/-
  The program: arithmetic of fractions; its check.
-/
import Derived.Test.YtkhficmehjglmaaFrcB
import Derived.Test.YtkhficmehjglmaaFrM
set_option linter.unusedVariables false
set_option linter.unusedSimpArgs false
namespace Go.Proofs.Ytkhficmehjglmaa
section
open Go.RowKit

theorem sz_rn {z d : Int} {k : Nat} (h : Sz z k) : Sz (rn z d) k := h.le (rn_abs z d)
theorem sz_ud {z d : Int} {k : Nat} (h : Sz d k) (hk : 0 < k) : Sz (ud z d) (k + 1) := by
  have h3 := ud_abs z d
  have h4 : Sz ((d.natAbs : Int) + 1) (k + 1) := Sz.add (x := (d.natAbs : Int)) (by show (d.natAbs : Int).natAbs < _; rw [Int.natAbs_natCast]; exact h) (Sz.mono (k := 1) (by show (1 : Int).natAbs < BB ^ 1; rw [BB_eq]; decide) (by omega))
  exact h4.le (by omega)
theorem sz_rd {z d : Int} {k : Nat} (h : Sz d k) (hk : 0 < k) : Sz (rd z d) (k + 1) := (sz_ud h hk).le (rd_abs z d)
theorem sz_un {z d : Int} {k : Nat} (h : Sz z k) : Sz (un z d) k := h.le (un_abs z d)

end
section
open Go.RowKit

theorem formatInt_at {w : World} {s : Bool} {A : Option Addr} {n c : Nat} {x : Int} (h : IntAt w s A n c x) (hn : n ≤ 100000) : Calls Try.prog 6 #[.agg #[.bool s, .slice A n c]] w (RetS w (decZ x)) := by
  obtain ⟨ds, h1, h2, h3, rfl, h5⟩ := h
  exact format_any s A n c ds w h1 h2 h3 hn
theorem fmt5 : decZ 5 = [53] := by unfold decZ; rw [if_neg (by decide), decs_small (by decide)]; rfl
theorem fmt6 : decZ 6 = [54] := by unfold decZ; rw [if_neg (by decide), decs_small (by decide)]; rfl
theorem half_third : (nwN 1 2 = 1 ∧ nwD 1 2 = 2 ∧ nwE 2 = 0) ∧ (nwN 1 3 = 1 ∧ nwD 1 3 = 3 ∧ nwE 3 = 0) ∧ (aN 1 2 1 3 = 5 ∧ aD 1 2 1 3 = 6) ∧ (rn 5 6 = 5 ∧ rd 5 6 = 6) := by decide +kernel

theorem sz_small {x : Int} (h1 : 0 ≤ x) (h2 : x ≤ 100) (k : Nat) (hk : 1 ≤ k) : Sz x k := Sz.mono (k := 1) (by unfold Sz; rw [Nat.pow_one, BB_eq]; omega) hk

end
section
open Go.RowKit

theorem IntAt.flip {w : World} {s : Bool} {A : Option Addr} {n c : Nat} {x : Int} (h : IntAt w s A n c x) : IntAt w (!s) A n c (-x) := by
  obtain ⟨ds, h1, h2, h3, rfl, h5⟩ := h
  exact ⟨ds, h1, h2, h3, zOf_not s _, h5⟩

/-- What Div returns: the zero value with the error 11 if the divisor is 0. -/
def dvN (a b c d : Int) : Int := if c = 0 ∨ d = 0 then 0 else rn (a * d) (b * c)
def dvD (a b c d : Int) : Int := if c = 0 ∨ d = 0 then 0 else rd (a * d) (b * c)
def dvE (c d : Int) : Int := if c = 0 ∨ d = 0 then 11 else 0
theorem sgn_eq_zero {x : Int} : sgn x = 0 ↔ x = 0 := by
  constructor
  · intro h; unfold sgn cmpI at h; split at h <;> (try split at h) <;> omega
  · rintro rfl; rfl
end
end Go.Proofs.Ytkhficmehjglmaa

