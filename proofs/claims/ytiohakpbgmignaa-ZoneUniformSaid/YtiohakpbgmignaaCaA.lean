/-
  Calendar: mathematics of dates; the table of the months.
-/
import Derived.Test.YtiohakpbgmignaaTbG
import Derived.Lib.LaidTab
set_option linter.unusedVariables false
set_option linter.unusedSimpArgs false
namespace Go.Proofs.Ytiohakpbgmignaa
open Go.RowKit

def leapB (y : Int) : Bool := (decide (y % 4 = 0) && decide (y % 100 ≠ 0)) || decide (y % 400 = 0)
def mlB (b : Bool) : Nat → Int
  | 1 => 31 | 2 => if b then 29 else 28 | 3 => 31 | 4 => 30 | 5 => 31 | 6 => 30 | 7 => 31 | 8 => 31 | 9 => 30 | 10 => 31 | 11 => 30 | 12 => 31
  | _ => 0
def mdB (b : Bool) : Nat → Int
  | 0 => 0
  | k + 1 => mdB b k + mlB b (k + 1)
def yday (y : Int) : Int := 365 * (y - 2000) + (y - 2000 + 3) / 4 - (y - 2000 + 99) / 100 + (y - 2000 + 399) / 400
def yrd (r : Int) : Int := r * 365 + (r + 3) / 4 - (r + 99) / 100 + (r + 399) / 400
def oneL (b : Bool) : Int := if b then 1 else 0
theorem leap_true {y : Int} : leapB y = true ↔ (y % 4 = 0 ∧ y % 100 ≠ 0) ∨ y % 400 = 0 := by simp [leapB]
theorem leap_one (y : Int) : (leapB y = true ∧ ((y % 4 = 0 ∧ y % 100 ≠ 0) ∨ y % 400 = 0)) ∨ (leapB y = false ∧ ¬ ((y % 4 = 0 ∧ y % 100 ≠ 0) ∨ y % 400 = 0)) := by
  cases h : leapB y with
  | true => exact .inl ⟨rfl, leap_true.1 h⟩
  | false => exact .inr ⟨rfl, fun h2 => by rw [leap_true.2 h2] at h; exact Bool.noConfusion h⟩
theorem yd_succ (y : Int) : yday (y + 1) = yday y + 365 + oneL (leapB y) := by
  unfold yday oneL
  rcases leap_one y with ⟨h, h2⟩ | ⟨h, h2⟩ <;> rw [h] <;> simp <;> omega
theorem yd_cycle {c r : Int} (h0 : 0 ≤ r) (h1 : r ≤ 400) : yday (2000 + 400 * c + r) = 146097 * c + yrd r := by
  unfold yday yrd; omega
theorem yr_succ {r : Int} (h0 : 0 ≤ r) : yrd r + 365 ≤ yrd (r + 1) := by unfold yrd; omega
theorem yr_lo {r : Int} (h0 : 0 ≤ r) (h1 : r ≤ 400) : yrd r ≤ 366 * r := by unfold yrd; omega
theorem yr_400 : yrd 400 = 146097 := by decide
theorem yr_0 : yrd 0 = 0 := by decide
theorem yr_big {r : Int} (h : 400 ≤ r) : 146097 ≤ yrd r := by unfold yrd; omega
theorem yd_mono {y z : Int} (h : y < z) : yday (y + 1) ≤ yday z := by unfold yday; omega
theorem md_12 (b : Bool) : mdB b 12 = 365 + oneL b := by cases b <;> rfl
theorem ml_pos {b : Bool} {m : Nat} (h1 : 1 ≤ m) (h2 : m ≤ 12) : 28 ≤ mlB b m ∧ mlB b m ≤ 31 := by
  have : m = 1 ∨ m = 2 ∨ m = 3 ∨ m = 4 ∨ m = 5 ∨ m = 6 ∨ m = 7 ∨ m = 8 ∨ m = 9 ∨ m = 10 ∨ m = 11 ∨ m = 12 := by omega
  rcases this with rfl | rfl | rfl | rfl | rfl | rfl | rfl | rfl | rfl | rfl | rfl | rfl <;> cases b <;> decide
theorem md_succ (b : Bool) (k : Nat) : mdB b (k + 1) = mdB b k + mlB b (k + 1) := rfl
theorem md_mono {b : Bool} : ∀ {j k : Nat}, j ≤ k → k ≤ 12 → mdB b j ≤ mdB b k := by
  intro j k h hk
  induction k with
  | zero => have : j = 0 := by omega
            subst this; exact Int.le_refl _
  | succ k ih =>
    by_cases hj : j = k + 1
    · subst hj; exact Int.le_refl _
    · have h1 := ih (by omega) (by omega)
      have h2 := ml_pos (b := b) (m := k + 1) (by omega) hk
      rw [md_succ]; omega
theorem md_nn (b : Bool) {k : Nat} (hk : k ≤ 12) : 0 ≤ mdB b k := md_mono (j := 0) (by omega) hk
theorem md_bd (b : Bool) {k : Nat} (hk : k ≤ 12) : mdB b k ≤ 366 := by
  have h := md_mono (b := b) hk (Nat.le_refl 12)
  rw [md_12] at h; unfold oneL at h; split at h <;> omega
/-- The number of a day. -/
def dayN (y : Int) (m : Nat) (d : Int) : Int := yday y + mdB (leapB y) (m - 1) + d - 1
structure IsD (y : Int) (m : Nat) (d : Int) : Prop where
  m1 : 1 ≤ m
  m2 : m ≤ 12
  d1 : 1 ≤ d
  d2 : d ≤ mlB (leapB y) m
theorem IsD.lo {y d : Int} {m : Nat} (h : IsD y m d) : yday y ≤ dayN y m d := by
  have := md_nn (leapB y) (k := m - 1) (by have := h.m2; omega)
  have := h.d1
  unfold dayN; omega
theorem IsD.hi {y d : Int} {m : Nat} (h : IsD y m d) : dayN y m d < yday (y + 1) := by
  have h1 := h.m1
  have h2 := h.m2
  have h3 := h.d2
  have h4 := md_mono (b := leapB y) (j := m) (k := 12) h2 (Nat.le_refl _)
  rw [md_12] at h4
  have h5 := md_succ (leapB y) (m - 1)
  rw [show m - 1 + 1 = m by omega] at h5
  rw [yd_succ]; unfold dayN; omega
theorem IsD.unique {y z d e : Int} {m n : Nat} (h : IsD y m d) (g : IsD z n e) (hq : dayN y m d = dayN z n e) : y = z ∧ m = n ∧ d = e := by
  have hy : y = z := by
    have a1 := h.lo; have a2 := h.hi; have b1 := g.lo; have b2 := g.hi
    rcases Int.lt_trichotomy y z with hl | he | hl
    · have := yd_mono hl; omega
    · exact he
    · have := yd_mono hl; omega
  subst hy
  have h1 := h.m1; have h2 := h.m2; have h3 := h.d1; have h4 := h.d2
  have g1 := g.m1; have g2 := g.m2; have g3 := g.d1; have g4 := g.d2
  unfold dayN at hq
  have hm : m = n := by
    rcases Nat.lt_trichotomy m n with hl | he | hl
    · have := md_mono (b := leapB y) (j := m) (k := n - 1) (by omega) (by omega)
      have h5 := md_succ (leapB y) (m - 1)
      rw [show m - 1 + 1 = m by omega] at h5
      omega
    · exact he
    · have := md_mono (b := leapB y) (j := n) (k := m - 1) (by omega) (by omega)
      have h5 := md_succ (leapB y) (n - 1)
      rw [show n - 1 + 1 = n by omega] at h5
      omega
  subst hm
  exact ⟨rfl, rfl, by omega⟩
theorem IsD.years {y d : Int} {m : Nat} (h : IsD y m d) : (1999 ≤ y ∧ y ≤ 2100) ↔ (-365 ≤ dayN y m d ∧ dayN y m d ≤ 36889) := by
  have a1 := h.lo; have a2 := h.hi
  have e1 : yday 1999 = -365 := by decide
  have e2 : yday 2101 = 36890 := by decide
  constructor
  · rintro ⟨c1, c2⟩
    have b1 : yday 1999 ≤ yday y := by
      by_cases c : y = 1999
      · rw [c]; exact Int.le_refl _
      · have := yd_mono (y := 1998) (z := y) (by omega); exact this
    have b2 : yday (y + 1) ≤ yday 2101 := by
      have := yd_mono (y := y) (z := 2101) (by omega); exact this
    omega
  · rintro ⟨c1, c2⟩
    constructor
    · apply Classical.byContradiction; intro hc
      have := yd_mono (y := y) (z := 1999) (by omega); omega
    · apply Classical.byContradiction; intro hc
      by_cases c : y = 2101
      · subst c; omega
      · have := yd_mono (y := 2100) (z := y) (by omega)
        rw [show (2100 : Int) + 1 = 2101 from rfl] at this; omega
/-- The next day. -/
theorem IsD.next1 {y d : Int} {m : Nat} (h : IsD y m d) (hd : d < mlB (leapB y) m) : IsD y m (d + 1) ∧ dayN y m (d + 1) = dayN y m d + 1 :=
  ⟨⟨h.m1, h.m2, by have := h.d1; omega, by omega⟩, by unfold dayN; omega⟩
theorem IsD.next2 {y d : Int} {m : Nat} (h : IsD y m d) (hd : d = mlB (leapB y) m) (hm : m < 12) : IsD y (m + 1) 1 ∧ dayN y (m + 1) 1 = dayN y m d + 1 := by
  have p := ml_pos (b := leapB y) (m := m + 1) (by omega) (by omega)
  refine ⟨⟨by omega, by omega, by omega, by omega⟩, ?_⟩
  have h5 := md_succ (leapB y) (m - 1)
  have h1 := h.m1
  rw [show m - 1 + 1 = m by omega] at h5
  unfold dayN
  rw [show m + 1 - 1 = m by omega]
  omega
theorem IsD.next3 {y d : Int} {m : Nat} (h : IsD y m d) (hd : d = mlB (leapB y) m) (hm : m = 12) : IsD (y + 1) 1 1 ∧ dayN (y + 1) 1 1 = dayN y m d + 1 := by
  have p := ml_pos (b := leapB (y + 1)) (m := 1) (by omega) (by omega)
  subst hm
  refine ⟨⟨by omega, by omega, by omega, by omega⟩, ?_⟩
  have h6 := md_12 (leapB y)
  have h5 := md_succ (leapB y) 11
  unfold dayN
  rw [yd_succ]
  show yday y + 365 + oneL (leapB y) + 0 + 1 - 1 = yday y + mdB (leapB y) 11 + d - 1 + 1
  have h7 : mdB (leapB y) (11 + 1) = mdB (leapB y) 12 := rfl
  rw [h7] at h5
  have h8 : mlB (leapB y) (11 + 1) = mlB (leapB y) 12 := rfl
  omega

def dateB (y m d : Int) : Bool := decide (1999 ≤ y ∧ y ≤ 2100) && (decide (1 ≤ m ∧ m ≤ 12) && (decide (1 ≤ d) && decide (d ≤ mlB (leapB y) m.toNat)))
theorem date_true {y m d : Int} (h : dateB y m d = true) : 1999 ≤ y ∧ y ≤ 2100 ∧ ∃ k : Nat, m = (k : Int) ∧ IsD y k d := by
  simp only [dateB, Bool.and_eq_true, decide_eq_true_eq] at h
  obtain ⟨⟨h1, h2⟩, ⟨h3, h4⟩, h5, h6⟩ := h
  exact ⟨h1, h2, m.toNat, by omega, by omega, by omega, h5, h6⟩
theorem date_of {y d : Int} {k : Nat} (h : IsD y k d) (h1 : 1999 ≤ y) (h2 : y ≤ 2100) : dateB y (k : Int) d = true := by
  have := h.m1; have := h.m2; have := h.d1; have := h.d2
  simp only [dateB, Bool.and_eq_true, decide_eq_true_eq]
  exact ⟨⟨h1, h2⟩, ⟨by omega, by omega⟩, by omega, by simpa using h.d2⟩

theorem cnew (w : World) (o : Obj) : Below w.heap.size w (w.alloc o) := (Below.refl _ _).alloc (Nat.le_refl _) _
def monTab : List Int := [31, 28, 31, 30, 31, 30, 31, 31, 30, 31, 30, 31]
theorem ml_false {b : Bool} {m : Nat} (h : m ≠ 2 ∨ b = false) : mlB b m = mlB false m := by
  rcases h with h | h
  · unfold mlB
    split <;> first | rfl | exact absurd rfl h
  · rw [h]
end Go.Proofs.Ytiohakpbgmignaa

