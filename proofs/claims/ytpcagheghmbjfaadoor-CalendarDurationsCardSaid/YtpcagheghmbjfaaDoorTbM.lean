/-
  The library's lines of a text of bytes: the iterator, and a line without its end.
-/
import Derived.Test.YtpcagheghmbjfaaDoorTbE
import Derived.BigRegionIn
set_option linter.unusedVariables false
set_option linter.unusedSimpArgs false
namespace Go.Proofs.YtpcagheghmbjfaaDoor
open Go.RowKit Go.Shelf
attribute [local go_sem] Oper.semAt_some

/-- The lines of a text, each with its end. -/
def lp : List UInt8 → List (List UInt8)
  | [] => []
  | c :: r => if (c == 10) = true then [c] :: lp r else match lp r with
    | [] => [[c]]
    | p :: ps => (c :: p) :: ps
theorem lp_none : ∀ l, 0 < l.length → idx l 10 = -1 → lp l = [l]
  | [c], _, h => by
    rw [idx_cons] at h
    unfold lp
    by_cases hc : (c == 10) = true
    · rw [if_pos hc] at h; omega
    · rw [if_neg hc]; simp [lp]
  | c :: d :: r, _, h => by
    rw [idx_cons] at h
    have h0 := idx_lo (d :: r) 10
    unfold lp
    by_cases hc : (c == 10) = true
    · rw [if_pos hc] at h; omega
    · rw [if_neg hc] at h ⊢
      by_cases h1 : idx (d :: r) 10 = -1
      · rw [lp_none (d :: r) (by simp) h1]
      · rw [if_neg (by simpa using h1)] at h; omega
theorem lp_some : ∀ (l : List UInt8) (i : Nat), idx l 10 = (i : Int) → lp l = l.take (i + 1) :: lp (l.drop (i + 1))
  | [], i, h => by
    have : idx [] 10 = -1 := by simp [idx, Lib.indexByte]
    rw [this] at h; omega
  | c :: l, i, h => by
    rw [idx_cons] at h
    have h0 := idx_lo l 10
    conv => lhs; unfold lp
    by_cases hc : (c == 10) = true
    · rw [if_pos hc] at h
      rw [if_pos hc]
      obtain rfl : i = 0 := by omega
      simp
    · rw [if_neg hc] at h ⊢
      by_cases h1 : idx l 10 = -1
      · rw [if_pos (by simpa using h1)] at h; omega
      · rw [if_neg (by simpa using h1)] at h
        obtain ⟨j, rfl⟩ : ∃ j, i = j + 1 := ⟨i - 1, by omega⟩
        rw [lp_some l j (by omega)]
        simp
/-- A line without its end. -/
def trim (l : List UInt8) : List UInt8 := if 0 < l.length ∧ (bAt l (l.length - 1)).toNat = 10 then l.take (l.length - 1) else l

theorem BIn.cell_any {S : Nat → Prop} {w : World} {a : Option Addr} {l : List UInt8} (h : BIn S w a l) {i : Nat} (hi : i < l.length) : ∃ g o, a = some ⟨g, o, none⟩ ∧ w.cell? ⟨g, o + i, none⟩ = some (.int .u8 ((bAt l i).toNat : Int)) := by
  rcases h with h | ⟨g, o, _, h1, h2⟩
  · subst h; simp at hi
  · exact ⟨g, o, h1, h2 i hi⟩
def RetV (w : World) (v : Value) (e : Ending) (w' : World) : Prop := e = .returned v ∧ w = w'
def hasEnd (l : List UInt8) : Bool := decide (0 < l.length ∧ (bAt l (l.length - 1)).toNat = 10)
end Go.Proofs.YtpcagheghmbjfaaDoor

