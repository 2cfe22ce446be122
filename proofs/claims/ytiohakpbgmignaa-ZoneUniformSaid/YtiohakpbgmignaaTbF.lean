/-
  Lists of texts in memory; when two of them are the same; the check that each law makes.
-/
import Derived.Test.YtiohakpbgmignaaTbE
set_option linter.unusedVariables false
set_option linter.unusedSimpArgs false
namespace Go.Proofs.Ytiohakpbgmignaa
open Go.RowKit

def sAt (ls : List (List UInt8)) (k : Nat) : List UInt8 := ls.getD k []
/-- The slice value v reads as the texts ls. -/
def SIn (w : World) (a : Option Addr) (n : Nat) (ls : List (List UInt8)) : Prop :=
  ls.length = n ∧ (n = 0 ∨ ∃ g o, a = some ⟨g, o, none⟩ ∧ ∀ i, i < n → w.cell? ⟨g, o + i, none⟩ = some (strV (sAt ls i)))
theorem SIn.of_owns {W : World} {base : Nat} {v : Value} {k : Nat} {ls : List (List UInt8)} (h : W.ownsRow base 9 1 v k (ls.map strV)) : ∃ a c, v = .slice a k c ∧ k ≤ c ∧ c ≤ 9223372036854775807 ∧ SIn W a k ls ∧ ∀ x, a = some x → base ≤ x.block := by
  obtain ⟨hl, h⟩ := h
  simp only [List.length_map, Nat.mul_one] at hl
  rcases h with ⟨rfl, rfl⟩ | ⟨g, cap, cur, rfl, h1, h2, h3, h4, h5, h6⟩
  · exact ⟨none, 0, rfl, Nat.le_refl _, by omega, ⟨hl, .inl rfl⟩, fun x hx => by cases hx⟩
  · refine ⟨_, cap, rfl, h3, by unfold maxLen at h4; omega, ⟨hl, .inr ⟨g, 0, rfl, fun i hi => ?_⟩⟩, fun x hx => by cases hx; exact h1⟩
    have hc : cur[i]? = some (strV (sAt ls i)) := by
      have e1 : (cur.toList.take (k * 1))[i]? = some (strV (sAt ls i)) := by
        rw [h6, List.getElem?_map, List.getElem?_eq_getElem (by omega)]
        simp [sAt, List.getD, List.getElem?_eq_getElem (show i < ls.length by omega)]
      rw [List.getElem?_take_of_lt (by omega)] at e1
      simpa using e1
    unfold World.cell?
    rw [h2]
    simpa using hc

def RetB1 (w : World) (b : Bool) (e : Ending) (w' : World) : Prop := e = .returned (.bool b) ∧ Below w.heap.size w w'
def RetB0 (w : World) (b : Bool) (e : Ending) (w' : World) : Prop := e = .returned (.bool b) ∧ ∃ q, w' = w.drewN q

theorem fields_const : fieldsV [32, 102, 108, 105, 103, 104, 116, 32, 65, 66, 49, 32, 35, 32, 108, 97, 116, 101] = [[102, 108, 105, 103, 104, 116], [65, 66, 49]] := by decide
theorem take_sAt {x y : List (List UInt8)} {k : Nat} (hx : k < x.length) (hy : k < y.length) : x.take (k + 1) = y.take (k + 1) ↔ x.take k = y.take k ∧ sAt x k = sAt y k := by
  have e1 : x.take (k + 1) = x.take k ++ [sAt x k] := by rw [List.take_succ_eq_append_getElem hx]; simp [sAt, List.getD, List.getElem?_eq_getElem hx]
  have e2 : y.take (k + 1) = y.take k ++ [sAt y k] := by rw [List.take_succ_eq_append_getElem hy]; simp [sAt, List.getD, List.getElem?_eq_getElem hy]
  rw [e1, e2]
  constructor
  · intro h
    have := List.append_inj h (by simp; omega)
    exact ⟨this.1, List.cons.inj this.2 |>.1⟩
  · rintro ⟨h1, h2⟩; rw [h1, h2]
end Go.Proofs.Ytiohakpbgmignaa

