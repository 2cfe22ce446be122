/-
  Fractions in memory, of machine words, canonical, made by New, FromInts and FromInt.
-/
import Derived.Test.YtkhficmehjglmaaFrM
import Derived.Test.YtkhficmehjglmaaGcd
import Derived.Deep.RegionWith
import Derived.Deep.RegionHeld3
set_option linter.unusedVariables false
set_option linter.unusedSimpArgs false
namespace Go.Proofs.Ytkhficmehjglmaa
section
open Go.RowKit
/-- A canonical pair is returned, in new memory. -/
def RetFr (w : World) (x y : Int) (e : Ending) (w' : World) : Prop :=
  ∃ A n c A' n' c', e = .returned (.agg #[.bool (decide (x < 0)), .slice A n c, .bool (decide (y < 0)), .slice A' n' c']) ∧
    CanAt w' (decide (x < 0)) A n c x ∧ CanAt w' (decide (y < 0)) A' n' c' y ∧ Below w.heap.size w w'
section
variable {w0 w : World} {l : List (Nat × TypeId × List Value)} {k : List (Bool × Option Addr × Nat × Nat × Int × Bool)}
theorem St.putA (h : St w0 w l k) (i : Nat) {g : Nat} {t : TypeId} {a b x y : Value} (hi : l[i]? = some (g, t, [a, b, x, y])) (s : Bool) (A : Option Addr) (n c : Nat) :
    St w0 ((w.setCell ⟨g, 0, none⟩ (.bool s)).setCell ⟨g, 1, none⟩ (.slice A n c)) (l.set i (g, t, [.bool s, .slice A n c, x, y])) k := by
  have hlt : i < l.length := by
    rcases Nat.lt_or_ge i l.length with h2 | h2
    · exact h2
    · rw [List.getElem?_eq_none h2] at hi; cases hi
  have h1 := h.set hi 0 (Plain.bool s)
  have h2 := h1.set (i := i) (g := g) (t := t) (vs := [.bool s, b, x, y]) (by simp [hlt]) 1 (Plain.slice A n c)
  simpa using h2
theorem St.putB (h : St w0 w l k) (i : Nat) {g : Nat} {t : TypeId} {a b x y : Value} (hi : l[i]? = some (g, t, [a, b, x, y])) (s : Bool) (A : Option Addr) (n c : Nat) :
    St w0 ((w.setCell ⟨g, 2, none⟩ (.bool s)).setCell ⟨g, 3, none⟩ (.slice A n c)) (l.set i (g, t, [a, b, .bool s, .slice A n c])) k := by
  have hlt : i < l.length := by
    rcases Nat.lt_or_ge i l.length with h2 | h2
    · exact h2
    · rw [List.getElem?_eq_none h2] at hi; cases hi
  have h1 := h.set hi 2 (Plain.bool s)
  have h2 := h1.set (i := i) (g := g) (t := t) (vs := [a, b, .bool s, y]) (by simp [hlt]) 3 (Plain.slice A n c)
  simpa using h2
/-- A fraction is stored into a variable of four cells. -/
theorem St.put4 (h : St w0 w l k) (i : Nat) {g : Nat} {t : TypeId} {a b x y : Value} (hi : l[i]? = some (g, t, [a, b, x, y])) (s : Bool) (A : Option Addr) (n c : Nat) (s' : Bool) (A' : Option Addr) (n' c' : Nat) :
    St w0 ((((w.setCell ⟨g, 0, none⟩ (.bool s)).setCell ⟨g, 1, none⟩ (.slice A n c)).setCell ⟨g, 2, none⟩ (.bool s')).setCell ⟨g, 3, none⟩ (.slice A' n' c')) (l.set i (g, t, [.bool s, .slice A n c, .bool s', .slice A' n' c'])) k := by
  have hlt : i < l.length := by
    rcases Nat.lt_or_ge i l.length with h2 | h2
    · exact h2
    · rw [List.getElem?_eq_none h2] at hi; cases hi
  have h1 := h.putA i hi s A n c
  have h2 := h1.putB i (g := g) (t := t) (a := .bool s) (b := .slice A n c) (x := x) (y := y) (by simp [hlt]) s' A' n' c'
  simpa using h2
end
def withinB (n M : Int) : Bool := decide (-M ≤ n ∧ n ≤ M)
theorem tmod_lt {a b : Int} (hb : b ≠ 0) : (a.tmod b).natAbs < b.natAbs := by
  rw [Int.natAbs_tmod]; exact Nat.mod_lt _ (by omega)
theorem tmod_in {a b M : Int} (hb : b ≠ 0) (h1 : -M ≤ b) (h2 : b ≤ M) : -M ≤ a.tmod b ∧ a.tmod b ≤ M := by
  have := tmod_lt (a := a) hb; omega
theorem tdiv_dvd {a g : Int} (hg : g ∣ a) : a.tdiv g = a / g := by
  by_cases h0 : g = 0
  · simp [h0]
  · obtain ⟨k, rfl⟩ := hg
    rw [Int.mul_tdiv_cancel_left _ h0, Int.mul_ediv_cancel_left _ h0]
theorem ediv_abs_le {a g : Int} (hg : 0 < g) (hd : g ∣ a) : (a / g).natAbs ≤ a.natAbs := by
  obtain ⟨k, rfl⟩ := hd
  rw [Int.mul_ediv_cancel_left _ (by omega), Int.natAbs_mul]
  exact Nat.le_mul_of_pos_left _ (by omega)

end
section
open Go.RowKit

def RetT2 (w : World) (f e0 : Int) (e : Ending) (w' : World) : Prop := e = .returned (.tuple #[.int .i64 f, .int .i64 e0]) ∧ Below w.heap.size w w'
/-- Beyond the bound. -/
def Out (x M : Int) : Prop := x < -M ∨ M < x
/-- What words returns. -/
def RetWd (w : World) (x y : Int) (b : Bool) (e : Ending) (w' : World) : Prop := e = .returned (.tuple #[.int .i64 x, .int .i64 y, .bool b]) ∧ Below w.heap.size w w'
end
section
open Go.RowKit

/-- A fraction with a positive denominator of the same value, which may share memory. -/
def RetUp (w : World) (x y : Int) (e : Ending) (w' : World) : Prop :=
  ∃ s A n c s' A' n' c', e = .returned (.agg #[.bool s, .slice A n c, .bool s', .slice A' n' c']) ∧ IntAt w' s A n c x ∧ IntAt w' s' A' n' c' y ∧ Below w.heap.size w w'
theorem IntAt.nul (w : World) : IntAt w false none 0 0 0 := IntAt.zero (by simp [digs_zero]; exact Dgs.none_) (Nat.le_refl _) (Nat.zero_le _)
end
section
open Go.RowKit

theorem RetFr.of_st {w0 w : World} {l : List (Nat × TypeId × List Value)} {k : List (Bool × Option Addr × Nat × Nat × Int × Bool)} {A A' : Option Addr} {n c n' c' : Nat} {x y : Int}
    (h : St w0 w l ((decide (x < 0), A, n, c, x, true) :: (decide (y < 0), A', n', c', y, true) :: k)) : RetFr w0 x y (.returned (.agg #[.bool (decide (x < 0)), .slice A n c, .bool (decide (y < 0)), .slice A' n' c'])) w :=
  ⟨A, n, c, A', n', c', rfl, h.ints.1.c, h.ints.2.1.c, h.below⟩

end
section
open Go.RowKit

/-- A canonical pair and an error number. -/
def RetFE (w : World) (x y err : Int) (e : Ending) (w' : World) : Prop :=
  ∃ A n c A' n' c', e = .returned (.tuple #[.agg #[.bool (decide (x < 0)), .slice A n c, .bool (decide (y < 0)), .slice A' n' c'], .int .i64 err]) ∧
    CanAt w' (decide (x < 0)) A n c x ∧ CanAt w' (decide (y < 0)) A' n' c' y ∧ Below w.heap.size w w'
theorem RetFE.of_st {w0 w : World} {l : List (Nat × TypeId × List Value)} {k : List (Bool × Option Addr × Nat × Nat × Int × Bool)} {A A' : Option Addr} {n c n' c' : Nat} {x y err : Int}
    (h : St w0 w l ((decide (x < 0), A, n, c, x, true) :: (decide (y < 0), A', n', c', y, true) :: k)) : RetFE w0 x y err (.returned (.tuple #[.agg #[.bool (decide (x < 0)), .slice A n c, .bool (decide (y < 0)), .slice A' n' c'], .int .i64 err])) w :=
  ⟨A, n, c, A', n', c', rfl, h.ints.1.c, h.ints.2.1.c, h.below⟩
/-- What New returns: the zero value with the error 11 if the denominator is 0. -/
def nwN (z d : Int) : Int := if d = 0 then 0 else rn z d
def nwD (z d : Int) : Int := if d = 0 then 0 else rd z d
def nwE (d : Int) : Int := if d = 0 then 11 else 0

theorem sz_i64 {x : Int} (h1 : -9223372036854775808 ≤ x) (h2 : x ≤ 9223372036854775807) : Sz x 2 := by
  unfold Sz
  rw [show BB ^ 2 = 18446744073709551616 from by rw [BB_eq]]
  omega
end
end Go.Proofs.Ytkhficmehjglmaa

