/-
  The reference's DivMod.
-/
import Derived.Test.YtkhficmehjglmaaRdiv
import Derived.Test.YtkhficmehjglmaaEgcd
import Derived.Test.YtkhficmehjglmaaSt
set_option linter.unusedVariables false
set_option linter.unusedSimpArgs false
namespace Go.Proofs.Ytkhficmehjglmaa
open Go.RowKit

theorem canon_at {w : World} {s : Bool} {A : Option Addr} {n c : Nat} {x : Int} (h : IntAt w s A n c x) : Calls Try.prog 11 #[.agg #[.bool s, .slice A n c]] w (RetZ w x) := by
  obtain ⟨ds, h1, h2, h3, rfl, h5⟩ := h
  exact canon_any s A n c ds w h1 h2 h3 h5
/-- Digits as an integer. -/
theorem CanAt.nat {w : World} {A : Option Addr} {n c v : Nat} (h : Dgs w w.heap.size A n (digs v)) (hc : n ≤ c) (hm : c ≤ maxLen) : CanAt w false A n c (v : Int) :=
  ⟨by simp, by simpa using h, hc, hm⟩
theorem make_at {w : World} {s : Bool} {A : Option Addr} {n c v : Nat} (h : CanAt w false A n c (v : Int)) (hz : (digs v).length ≤ 1000000) : Calls Try.prog 21 #[.bool s, .slice A n c] w (RetZ w (zOf s v)) := by
  obtain ⟨_, h1, h2, h3⟩ := h
  rw [Int.natAbs_natCast] at h1
  have := make_any s A n c (digs v) w h1 h2 h3 (by rw [← h1.len]; exact hz)
  rwa [val_digs] at this
/-- The reference's way to quotient and remainder. -/
theorem rdm_num {x y q r : Int} (hy : y ≠ 0) (hq : zOf (!(decide (x < 0) == decide (y < 0))) (x.natAbs / y.natAbs) = q) (hr : zOf (decide (x < 0)) (x.natAbs % y.natAbs) = r) :
    ((r = 0 ∨ (decide (x < 0) == decide (y < 0)) = true) → dmQ x y = q ∧ dmR x y = r) ∧ (r ≠ 0 → (decide (x < 0) == decide (y < 0)) = false → dmQ x y = q - 1 ∧ dmR x y = r + y) := by
  obtain ⟨h1, h2⟩ := dm_nat x y hy
  generalize x.natAbs / y.natAbs = Q at *
  generalize x.natAbs % y.natAbs = R at *
  by_cases hx0 : x < 0 <;> by_cases hy0 : y < 0 <;> simp only [hx0, hy0, decide_true, decide_false, beq_self_eq_true, Bool.true_beq, Bool.false_beq, Bool.not_false, Bool.not_true, Bool.not_not, zOf, if_true, if_false, Bool.false_eq_true] at hq hr ⊢
  · refine ⟨fun _ => dm_unique ?_ (by omega), fun _ h => by simp at h⟩
    rw [← hq, ← hr, show y = -((y.natAbs : Nat) : Int) by omega, Int.mul_neg]; omega
  · refine ⟨fun h => dm_unique ?_ (by rcases h with h | h; omega; simp at h), fun h _ => dm_unique ?_ (by omega)⟩
    · rw [← hq, ← hr, show y = ((y.natAbs : Nat) : Int) by omega, Int.neg_mul]; omega
    · rw [← hq, ← hr, Int.sub_mul, Int.neg_mul]
      rw [show ((y.natAbs : Nat) : Int) = y by omega] at h1; omega
  · refine ⟨fun h => dm_unique ?_ (by rcases h with h | h; omega; simp at h), fun h _ => dm_unique ?_ (by omega)⟩
    · rw [← hq, ← hr, show y = -((y.natAbs : Nat) : Int) by omega, Int.neg_mul, Int.mul_neg]; omega
    · rw [← hq, ← hr, Int.sub_mul, Int.neg_mul]
      rw [show ((y.natAbs : Nat) : Int) = -y by omega, Int.mul_neg] at h1; omega
  · refine ⟨fun _ => dm_unique ?_ (by omega), fun _ h => by simp at h⟩
    rw [← hq, ← hr, show y = ((y.natAbs : Nat) : Int) by omega]; omega

/-- Behind the first statement: both are canonical. -/
def RdC (w wx : World) (x y : Int) : Prop :=
  ∃ (A1 : Option Addr) (n1 c1 : Nat) (A2 : Option Addr) (n2 c2 : Nat),
    St w wx [vi (w.heap.size + 1 + 1 + 1) false none 0 0, vi (w.heap.size + 1 + 1) false none 0 0, vi (w.heap.size + 1) (decide (y < 0)) A2 n2 c2, vi w.heap.size (decide (x < 0)) A1 n1 c1]
      [(decide (y < 0), A2, n2, c2, y, true), (decide (x < 0), A1, n1, c1, x, true)]
theorem RetM.of_st {w0 w : World} {l : List (Nat × TypeId × List Value)} {k : List (Bool × Option Addr × Nat × Nat × Int × Bool)} {A A' : Option Addr} {n c n' c' : Nat} {q r err : Int}
    (h : St w0 w l ((decide (r < 0), A', n', c', r, true) :: (decide (q < 0), A, n, c, q, true) :: k)) :
    RetM w0 q r err (.returned (.tuple #[.agg #[.bool (decide (q < 0)), .slice A n c], .agg #[.bool (decide (r < 0)), .slice A' n' c'], .int .i64 err])) w :=
  have h1 := h.ints.2.1.c
  have h2 := h.ints.1.c
  ⟨A, n, c, A', n', c', rfl, h1.2.1, h1.2.2.1, h1.2.2.2, h2.2.1, h2.2.2.1, h2.2.2.2, h.below⟩

end Go.Proofs.Ytkhficmehjglmaa

