/-
  The program's divide, with a contract over integers in variables.
  The program's solve: Euclid's loop with one factor.
  The program's ExtendedGCD.
-/
import Derived.Test.YtgjkgmlcfieodaaLongB
import Derived.Test.YtgjkgmlcfieodaaSt
import Derived.RegionTactic
import Derived.BigRegion
import Derived.Test.YtgjkgmlcfieodaaEucl
import Derived.Deep.RegionHeld3
import Derived.Deep.DeepCutAuto
import Derived.Deep.LoopGhost
set_option linter.unusedVariables false
set_option linter.unusedSimpArgs false
namespace Go.Proofs.Ytgjkgmlcfieodaa
open Go.RowKit

/-- Two canonical integers are handed back; what was there is as it was. -/
def RetP (w : World) (q r : Int) (e : Ending) (w' : World) : Prop :=
  ∃ A n c A' n' c', e = .returned (.tuple #[.agg #[.bool (decide (q < 0)), .slice A n c], .agg #[.bool (decide (r < 0)), .slice A' n' c']]) ∧
    CanAt w' (decide (q < 0)) A n c q ∧ CanAt w' (decide (r < 0)) A' n' c' r ∧ Below w.heap.size w w'
theorem RetP.mk_ {w0 w : World} {l : List (Nat × TypeId × List Value)} {k : List (Bool × Option Addr × Nat × Nat × Int × Bool)} {A A' : Option Addr} {n c n' c' : Nat} {q r : Int}
    (h : St w0 w l ((decide (r < 0), A', n', c', r, true) :: (decide (q < 0), A, n, c, q, true) :: k)) :
    RetP w0 q r (.returned (.tuple #[.agg #[.bool (decide (q < 0)), .slice A n c], .agg #[.bool (decide (r < 0)), .slice A' n' c']])) w :=
  ⟨A, n, c, A', n', c', rfl, h.ints.2.1.c, h.ints.1.c, h.below⟩

theorem fromInt64_at (z : Int) (h1 : -9223372036854775808 ≤ z) (h2 : z ≤ 9223372036854775807) (w : World) : Calls Try.prog 12 #[.int .i64 z] w (RetZ w z) := fromInt64_any z h1 h2 w

/-- The divisor and the factor are handed back. -/
def RetSol (w : World) (a m : Int) (e : Ending) (w' : World) : Prop :=
  ∃ g x : Int, g = Int.gcd a m ∧ (∃ k, a * x = g + k * m) ∧ x.natAbs ≤ m.natAbs ∧ RetP w g x e w'

/-- A list entry for a variable that holds an integer. -/
abbrev vi (g : Nat) (s : Bool) (A : Option Addr) (n c : Nat) : Nat × TypeId × List Value := (g, 24, [.bool s, .slice A n c])

/-- The head of the loop. -/
def SolI (w wr : World) (h7 h8 : Nat) (a m : Int) (k : Nat) : Prop :=
  ∃ (g r x n : Int) (Aa Am Ag Ar Ax An : Option Addr) (na ca nm cm ng cg nr cr nx cx nn cn : Nat), k = r.natAbs ∧ Sol a m g r x n ∧
    St w wr [vi h8 (decide (n < 0)) An nn cn, vi h7 (decide (r < 0)) Ar nr cr, vi (w.heap.size + 1 + 1 + 1) (decide (x < 0)) Ax nx cx, vi (w.heap.size + 1 + 1) (decide (g < 0)) Ag ng cg, vi (w.heap.size + 1) (decide (m < 0)) Am nm cm, vi w.heap.size (decide (a < 0)) Aa na ca]
      [(decide (n < 0), An, nn, cn, n, true), (decide (r < 0), Ar, nr, cr, r, true), (decide (x < 0), Ax, nx, cx, x, true), (decide (g < 0), Ag, ng, cg, g, true), (decide (m < 0), Am, nm, cm, m, true), (decide (a < 0), Aa, na, ca, a, true)]

theorem CanAt.zero_ (w : World) : CanAt w false none 0 0 0 := ⟨rfl, by simp [digs_zero]; exact Dgs.none_, Nat.le_refl _, Nat.zero_le _⟩
theorem digs_len0 {w : World} {s : Bool} {A : Option Addr} {n c : Nat} {z : Int} (h : CanAt w s A n c z) (hz : z = 0) : n = 0 := by
  have := h.2.1.len
  subst hz
  simp [digs_zero] at this
  omega
theorem digs_lenp {w : World} {s : Bool} {A : Option Addr} {n c : Nat} {z : Int} (h : CanAt w s A n c z) (hz : z ≠ 0) : 0 < n := by
  have := h.2.1.len
  have := digs_pos_len (v := z.natAbs) (by omega)
  omega
theorem Sz.le {x y : Int} {k : Nat} (h : Sz y k) (hxy : x.natAbs ≤ y.natAbs) : Sz x k := Nat.lt_of_le_of_lt hxy h

theorem canonical_at {w : World} {s : Bool} {A : Option Addr} {n c : Nat} {x : Int} (h : IntAt w s A n c x) : Calls Try.prog 35 #[.agg #[.bool s, .slice A n c]] w (RetZ w x) := by
  obtain ⟨ds, h1, h2, h3, rfl, h5⟩ := h
  exact canonical_any s A n c ds w h1 h2 h3

/-- What ExtendedGCD returns. -/
def EgP (a b g x y : Int) : Prop := g = (Int.gcd a b : Nat) ∧ (b = 0 → x = sgn a ∧ y = 0) ∧ (b ≠ 0 → 0 ≤ x ∧ x < ((b.natAbs : Nat) : Int) / g ∧ a * x + b * y = g)

theorem Sz.zero (k : Nat) : Sz 0 k := Nat.pow_pos BB_pos
theorem sgn_cases (a : Int) : sgn a = -1 ∨ sgn a = 0 ∨ sgn a = 1 := by
  rcases Int.lt_trichotomy a 0 with h | h | h
  · left; rw [sgn, cmpI_lt h]
  · right; left; rw [sgn, cmpI_eq h]
  · right; right; rw [sgn, cmpI_gt h]

theorem gcd_abs (a b : Int) : Int.gcd a ((b.natAbs : Nat) : Int) = Int.gcd a b := by simp [Int.gcd]

theorem dm_exact {x b : Int} (hb : b ≠ 0) (h : b ∣ x) : dmQ x b * b = x ∧ dmR x b = 0 := by
  have h1 := euclid_sum x hb
  have h2 := (euclid_rest x hb).2
  have h3 : b ∣ dmR x b := by
    have : dmR x b = x - dmQ x b * b := by omega
    rw [this]
    exact Int.dvd_sub h (Int.dvd_mul_left _ _)
  have h4 : dmR x b = 0 := by
    by_cases h0 : dmR x b = 0
    · exact h0
    · have := Int.natAbs_dvd_natAbs.2 h3
      have := Nat.le_of_dvd (by omega) this
      omega
  exact ⟨by omega, h4⟩

/-- The last steps of ExtendedGCD. -/
theorem eg_end {a b g x0 p x y : Int} (hb : b ≠ 0) (hg : g = (Int.gcd a ((b.natAbs : Nat) : Int) : Nat)) (hk : ∃ k, a * x0 = g + k * ((b.natAbs : Nat) : Int))
    (hp : dmQ ((b.natAbs : Nat) : Int) g = p) (hx : dmR x0 p = x) (hy : dmQ (g - a * x) b = y) :
    EgP a b g x y ∧ 0 < g ∧ 0 < p ∧ g.natAbs ≤ b.natAbs ∧ p.natAbs ≤ b.natAbs ∧ x.natAbs ≤ b.natAbs := by
  have hm : 0 < ((b.natAbs : Nat) : Int) := by omega
  generalize hM : ((b.natAbs : Nat) : Int) = m at *
  have hg0 : 0 < g := by rw [hg]; have := Int.gcd_pos_of_ne_zero_right a (b := m) (by omega); omega
  have hpq : m / g = p := by rw [← hp]; unfold dmQ; rw [if_neg (by omega), if_pos hg0]
  rw [hg] at hpq hk
  obtain ⟨s1, s2, k, s3⟩ := eg_small hm hk
  rw [hpq] at s1 s2 s3
  have hxe : x0 % p = x := by rw [← hx]; unfold dmR; rw [if_neg (by omega), if_pos s1]
  rw [hxe] at s3
  have h1 := Int.emod_nonneg x0 (show p ≠ 0 by omega)
  have h2 := Int.emod_lt_of_pos x0 s1
  rw [hxe] at h1 h2
  rw [← hg] at hpq s3
  have hdv : b ∣ g - a * x := by
    have : b ∣ m := by rw [← hM]; exact Int.dvd_natAbs.2 (Int.dvd_refl b)
    have h4 : g - a * x = -(k * m) := by omega
    rw [h4]
    exact Int.dvd_neg.2 (Int.dvd_trans this (Int.dvd_mul_left _ _))
  have h5 := (dm_exact hb hdv).1
  rw [hy] at h5
  have hgle : g ≤ m := by
    obtain ⟨g', u, p', e1, e2, e3, e4, e5, e6, e7⟩ := eg_parts (a := a) hm
    rw [hg, ← e1, e4]
    have : g' * 1 ≤ g' * p' := Int.mul_le_mul_of_nonneg_left (by omega) (by omega)
    omega
  refine ⟨⟨?_, fun h => absurd h hb, fun _ => ⟨h1, by rw [hM, hpq]; exact h2, by rw [Int.mul_comm b]; omega⟩⟩, hg0, s1, by omega, by omega, by omega⟩
  rw [hg, ← hM, gcd_abs]

/-- Three canonical integers are handed back. -/
def RetE (w : World) (a b : Int) (e : Ending) (w' : World) : Prop :=
  ∃ (g x y : Int) (A1 : Option Addr) (n1 c1 : Nat) (A2 : Option Addr) (n2 c2 : Nat) (A3 : Option Addr) (n3 c3 : Nat), EgP a b g x y ∧ Sz g 500 ∧ Sz x 500 ∧ Sz y 500 ∧
    e = .returned (.tuple #[.agg #[.bool (decide (g < 0)), .slice A1 n1 c1], .agg #[.bool (decide (x < 0)), .slice A2 n2 c2], .agg #[.bool (decide (y < 0)), .slice A3 n3 c3]]) ∧
    CanAt w' (decide (g < 0)) A1 n1 c1 g ∧ CanAt w' (decide (x < 0)) A2 n2 c2 x ∧ CanAt w' (decide (y < 0)) A3 n3 c3 y ∧ Below w.heap.size w w'

/-- Behind the first statement. -/
def EgC (w wx : World) (a b : Int) : Prop :=
  ∃ (A1 : Option Addr) (n1 c1 : Nat) (A2 : Option Addr) (n2 c2 : Nat),
    St w wx [vi (w.heap.size + 1 + 1 + 1 + 1) false none 0 0, vi (w.heap.size + 1 + 1 + 1) false none 0 0, vi (w.heap.size + 1 + 1) false none 0 0, vi (w.heap.size + 1) (decide (b < 0)) A2 n2 c2, vi w.heap.size (decide (a < 0)) A1 n1 c1]
      [(decide (b < 0), A2, n2, c2, b, true), (decide (a < 0), A1, n1, c1, a, true)]

end Go.Proofs.Ytgjkgmlcfieodaa

