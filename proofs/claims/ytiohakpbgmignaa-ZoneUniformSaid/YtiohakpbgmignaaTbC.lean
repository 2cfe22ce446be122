/-
  The library's iterator over the parts of a text of bytes between the places of one byte.
-/
import Derived.Test.YtiohakpbgmignaaTbB
import Derived.Test.YtiohakpbgmignaaIter
import Derived.Shelf.Abstract
import Derived.Shelf.RegionOpen
import Derived.OwnWalkIn
import Derived.TacticsInMore
import Derived.LoopNIn
import Derived.LoopIn
import Derived.RangeFuncBox
set_option linter.unusedVariables false
set_option linter.unusedSimpArgs false
namespace Go.Proofs.Ytiohakpbgmignaa
open Go.RowKit Go.Shelf
attribute [local go_sem] Oper.semAt_some

/-- The parts of l between the bytes b. -/
def pieces (b : UInt8) : List UInt8 → List (List UInt8)
  | [] => [[]]
  | c :: l => if (c == b) = true then [] :: pieces b l else match pieces b l with
    | [] => [[c]]
    | p :: ps => (c :: p) :: ps
theorem pieces_ne (b : UInt8) : ∀ l, pieces b l ≠ []
  | [] => by simp [pieces]
  | c :: l => by
    unfold pieces
    split
    · simp
    · split <;> simp
theorem idx_cons (c : UInt8) (l : List UInt8) (b : UInt8) : idx (c :: l) b = if (c == b) = true then 0 else if (idx l b == -1) = true then -1 else idx l b + 1 := by
  unfold idx
  conv => lhs; unfold Lib.indexByte
theorem pieces_none (b : UInt8) : ∀ l, idx l b = -1 → pieces b l = [l]
  | [], _ => rfl
  | c :: l, h => by
    rw [idx_cons] at h
    have h0 := idx_lo l b
    unfold pieces
    by_cases hc : (c == b) = true
    · rw [if_pos hc] at h; omega
    · rw [if_neg hc] at h ⊢
      by_cases h1 : idx l b = -1
      · rw [pieces_none b l h1]
      · rw [if_neg (by simpa using h1)] at h; omega
theorem pieces_some (b : UInt8) : ∀ (l : List UInt8) (i : Nat), idx l b = (i : Int) → pieces b l = l.take i :: pieces b (l.drop (i + 1))
  | [], i, h => by
    have : idx [] b = -1 := by simp [idx, Lib.indexByte]
    rw [this] at h; omega
  | c :: l, i, h => by
    rw [idx_cons] at h
    have h0 := idx_lo l b
    conv => lhs; unfold pieces
    by_cases hc : (c == b) = true
    · rw [if_pos hc] at h
      rw [if_pos hc]
      obtain rfl : i = 0 := by omega
      simp
    · rw [if_neg hc] at h ⊢
      by_cases h1 : idx l b = -1
      · rw [if_pos (by simpa using h1)] at h; omega
      · rw [if_neg (by simpa using h1)] at h
        obtain ⟨j, rfl⟩ : ∃ j, i = j + 1 := ⟨i - 1, by omega⟩
        rw [pieces_some b l j (by omega)]
        simp

/-- How many bytes the slice in the box b has: what a round makes less. -/
def lenAt (b : Nat) (w : World) : Nat := match w.cell? ⟨b, 0, none⟩ with
  | some (.slice _ n _) => n
  | _ => 0
theorem lenAt_box {b n c : Nat} {w : World} {t : TypeId} {a : Option Addr} (h : Boxed w b t (.slice a n c)) : lenAt b w = n := by
  unfold lenAt; rw [h.cell]
/-- What a round that goes on keeps. -/
def KeepS (S : Nat → Prop) (bs : Nat) (W W' : World) : Prop := ∀ k, (S k ∨ k = bs) → W'.heap[k]? = W.heap[k]?
def encP (p : Option Addr) (x : List UInt8) : Array Value := #[.slice p x.length x.length]

/-- The state of the iterator between two rounds. -/
structure SpI (S : Nat → Prop) (w wr : World) (bs : Nat) (cv : UInt8) (l : List UInt8) (J : List (List UInt8) → World → Prop) (pre : List (List UInt8)) (a : Option Addr) (r : List UInt8) (n c : Nat) : Prop where
  j : J pre wr
  ps : pieces cv l = pre ++ pieces cv r
  box : Boxed wr bs 70 (.slice a n c)
  inn : BIn S wr a r
  len : r.length = n
  cap : n ≤ c
  max : c ≤ 9223372036854775807
  old : ∀ k, S k → wr.heap[k]? = w.heap[k]?

end Go.Proofs.Ytiohakpbgmignaa

