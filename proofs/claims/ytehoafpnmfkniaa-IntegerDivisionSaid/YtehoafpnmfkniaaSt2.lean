/-
  Two variables exchanged in the list of what a call holds.
-/
import Derived.Test.YtehoafpnmfkniaaSt
set_option linter.unusedVariables false
set_option linter.unusedSimpArgs false
namespace Go.Proofs.Ytehoafpnmfkniaa
open Go.RowKit
theorem St.swap {w0 w : World} {l : List (Nat × TypeId × List Value)} {k : List (Bool × Option Addr × Nat × Nat × Int × Bool)} {a b : Nat × TypeId × List Value} (h : St w0 w (a :: b :: l) k) : St w0 w (b :: a :: l) k := by
  obtain ⟨⟨⟨h1, h2, h3, h4⟩, ⟨h5, h6, h7, h8⟩, h9⟩, h10⟩ := h
  refine ⟨⟨⟨h5, h6, h7, fun p hp => ?_⟩, ⟨h1, h2, h3, fun p hp => h4 p (by simp [hp])⟩, h9⟩, h10⟩
  rcases List.mem_cons.1 hp with rfl | hp
  · exact fun e => h4 b (by simp) e.symm
  · exact h8 p hp
end Go.Proofs.Ytehoafpnmfkniaa
