/-
  The law TextFields walked: the program's Fields agrees with the reference's at every string of at most 5000 bytes.
-/
import Derived.Test.YtpcagheghmbjfaaDoorTbK
set_option linter.unusedVariables false
set_option linter.unusedSimpArgs false
namespace Go.Proofs.YtpcagheghmbjfaaDoor
open Go.RowKit

/-- What a call returns: a slice that reads as these texts, in memory that exists. -/
def RetS (w : World) (fs : List (List UInt8)) (e : Ending) (w' : World) : Prop := ∃ a n c, e = .returned (.slice a n c) ∧ SIn w' a n fs ∧ n ≤ c ∧ c ≤ 9223372036854775807 ∧ (∀ x, a = some x → x.block < w'.heap.size) ∧ Below w.heap.size w w'
theorem RetStrs.toS {w : World} {fs : List (List UInt8)} {e : Ending} {w' : World} (h : RetStrs w fs e w') : RetS w fs e w' := by
  obtain ⟨v, rfl, ho, hb⟩ := h
  obtain ⟨a, c, rfl, h1, h2, h3, h4⟩ := SIn.of_owns ho
  refine ⟨a, _, c, rfl, h3, h1, h2, fun x hx => ?_, hb⟩
  subst hx
  obtain ⟨_, o, h5, _⟩ := ownsRow_block ho x.block rfl
  exact (Array.getElem?_eq_some_iff.1 h5).1
theorem SIn.below {w w' : World} {a : Option Addr} {n : Nat} {ls : List (List UInt8)} (h : SIn w a n ls) (ha : ∀ x, a = some x → x.block < w.heap.size) (hb : Below w.heap.size w w') : SIn w' a n ls := by
  obtain ⟨h1, h2⟩ := h
  refine ⟨h1, ?_⟩
  rcases h2 with h2 | ⟨g, o, h2, h3⟩
  · exact .inl h2
  · refine .inr ⟨g, o, h2, fun i hi => ?_⟩
    have hg : g < w.heap.size := ha _ h2
    exact (hb.cell (p := ⟨g, o + i, none⟩) hg).trans (h3 i hi)
theorem fieldsV_len (l : List UInt8) : (fieldsV l).length ≤ l.length + 1 := by
  have h1 := ne_len (pieces 32 (bef 35 l))
  have h2 := pieces_len 32 (bef 35 l)
  have h3 := bef_len 35 l
  unfold fieldsV; omega
end Go.Proofs.YtpcagheghmbjfaaDoor

