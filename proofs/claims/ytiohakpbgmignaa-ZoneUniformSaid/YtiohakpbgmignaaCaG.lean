/-
  Calendar: the number of a date and the date of a number, by the program; weekdays and minutes of the reference; the check of all laws.
-/
import Derived.Test.YtiohakpbgmignaaCaD
import Derived.Test.YtiohakpbgmignaaCaF
set_option linter.unusedVariables false
set_option linter.unusedSimpArgs false
namespace Go.Proofs.Ytiohakpbgmignaa
open Go.RowKit

/-- A date in memory. -/
def BoxD (w : World) (b : Nat) (y m d : Int) : Prop := w.cell? ⟨b, 0, none⟩ = some (.int .i64 y) ∧ w.cell? ⟨b, 1, none⟩ = some (.int .i64 m) ∧ w.cell? ⟨b, 2, none⟩ = some (.int .i64 d)
theorem box_new (w : World) (y m d : Int) (t : TypeId) : BoxD (w.alloc (.cells #[.int .i64 y, .int .i64 m, .int .i64 d] t)) w.heap.size y m d := ⟨by simp, by simp, by simp⟩
theorem BoxD.below {w w' : World} {b B : Nat} {y m d : Int} (h : BoxD w b y m d) (hb : Below B w w') (hB : b < B) : BoxD w' b y m d :=
  ⟨(hb.cell (p := ⟨b, 0, none⟩) hB).trans h.1, (hb.cell (p := ⟨b, 1, none⟩) hB).trans h.2.1, (hb.cell (p := ⟨b, 2, none⟩) hB).trans h.2.2⟩
/-- A date in memory that is not shared with a string. -/
def BoxF (w : World) (b : Nat) : Prop := w.frozen? ⟨b, 0, none⟩ = false ∧ w.frozen? ⟨b, 1, none⟩ = false ∧ w.frozen? ⟨b, 2, none⟩ = false
theorem boxF_new (w : World) (y m d : Int) (t : TypeId) : BoxF (w.alloc (.cells #[.int .i64 y, .int .i64 m, .int .i64 d] t)) w.heap.size := ⟨by simp, by simp, by simp⟩
theorem BoxF.below {w w' : World} {b B : Nat} (h : BoxF w b) (hb : Below B w w') (hB : b < B) : BoxF w' b :=
  ⟨(hb.frozen (p := ⟨b, 0, none⟩) hB).trans h.1, (hb.frozen (p := ⟨b, 1, none⟩) hB).trans h.2.1, (hb.frozen (p := ⟨b, 2, none⟩) hB).trans h.2.2⟩
theorem BoxD.store {w : World} {b : Nat} {x0 x1 x2 : Int} (h : BoxD w b x0 x1 x2) (y m d : Int) : BoxD (((w.setCell ⟨b, 0, none⟩ (.int .i64 y)).setCell ⟨b, 1, none⟩ (.int .i64 m)).setCell ⟨b, 2, none⟩ (.int .i64 d)) b y m d := by
  obtain ⟨h0, h1, h2⟩ := h
  refine ⟨?_, ?_, ?_⟩
  · rw [World.cell?_setCell_other _ _ _ _ (by intro h; simp only [Addr.mk.injEq] at h; omega), World.cell?_setCell_other _ _ _ _ (by intro h; simp only [Addr.mk.injEq] at h; omega), World.cell?_setCell_same _ _ _ h0]
  · rw [World.cell?_setCell_other _ _ _ _ (by intro h; simp only [Addr.mk.injEq] at h; omega), World.cell?_setCell_same _ _ _ ((World.cell?_setCell_other _ _ _ _ (by intro h; simp only [Addr.mk.injEq] at h; omega)).trans h1)]
  · rw [World.cell?_setCell_same _ _ _ ((World.cell?_setCell_other _ _ _ _ (by intro h; simp only [Addr.mk.injEq] at h; omega)).trans ((World.cell?_setCell_other _ _ _ _ (by intro h; simp only [Addr.mk.injEq] at h; omega)).trans h2))]
theorem BoxD.alloc {w : World} {b : Nat} {y m d : Int} (h : BoxD w b y m d) (hb : b < w.heap.size) (o : Obj) : BoxD (w.alloc o) b y m d := h.below (cnew w o) hb
theorem ccall {w w1 : World} {o : Obj} (h : Below (w.alloc o).heap.size (w.alloc o) w1) : Below w.heap.size w w1 := (cnew w o).trans (h.mono (by simp))
theorem ccall2 {B : Nat} {w w1 w2 : World} (h : Below B w w1) (h2 : Below w1.heap.size w1 w2) (hB : B ≤ w1.heap.size) : Below B w w2 := h.trans (h2.mono hB)
def numV (y m d : Int) : Int := if dateB y m d = true then dayN y m.toNat d else 0
def numE (y m d : Int) : Int := if dateB y m d = true then 0 else 5
def RetNE (w : World) (z e : Int) (en : Ending) (w' : World) : Prop := en = .returned (.tuple #[.int .i64 z, .int .i64 e]) ∧ Below w.heap.size w w'
def RetDD (w : World) (day : Int) (en : Ending) (w' : World) : Prop :=
  (∃ (y d : Int) (m : Nat), en = .returned (.tuple #[dateV y m d, .int .i64 0]) ∧ IsD y m d ∧ 1999 ≤ y ∧ y ≤ 2100 ∧ dayN y m d = day ∧ Below w.heap.size w w') ∨
  (¬ (-365 ≤ day ∧ day ≤ 36889) ∧ en = .returned (.tuple #[dateV 0 0 0, .int .i64 5]) ∧ Below w.heap.size w w')
theorem stores3 {w w1 : World} (h : Below w.heap.size w w1) (y m d : Value) (k : Nat) (hk : w.heap.size ≤ k) : Below w.heap.size w (((w1.setCell ⟨k, 0, none⟩ y).setCell ⟨k, 1, none⟩ m).setCell ⟨k, 2, none⟩ d) :=
  ((h.setCell hk _).setCell hk _).setCell hk _
end Go.Proofs.Ytiohakpbgmignaa

