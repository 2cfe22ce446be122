/-
  The reference's IsName, IsCode and IsAirport, at every string.
-/
import Derived.Test.YtpcagheghmbjfaaDoorTbH
set_option linter.unusedVariables false
set_option linter.unusedSimpArgs false
namespace Go.Proofs.YtpcagheghmbjfaaDoor
open Go.RowKit

def lowB (n : Nat) : Bool := decide (97 ≤ n ∧ n ≤ 122)
def upB (n : Nat) : Bool := decide (65 ≤ n ∧ n ≤ 90)
def numB (n : Nat) : Bool := decide (48 ≤ n ∧ n ≤ 57)
theorem numB_any (n : Nat) (hn : n < 256) (w : World) : Calls Tryd.prog 66 #[.int .u8 (n : Int)] w (RetQ w (numB n)) := number_any n hn w
theorem cls_lowB (n : Nat) : decide (cls n = 1) = lowB n := by
  unfold lowB
  rcases cls_cases n with ⟨h, h1, h2⟩ | ⟨h, h1, h2⟩ | ⟨h, h1, h2⟩ | ⟨h, h1, h2, h3⟩ <;> rw [h] <;> simp <;> omega
theorem cls_upB (n : Nat) : decide (cls n = 2) = upB n := by
  unfold upB
  rcases cls_cases n with ⟨h, h1, h2⟩ | ⟨h, h1, h2⟩ | ⟨h, h1, h2⟩ | ⟨h, h1, h2, h3⟩ <;> rw [h] <;> simp <;> omega
theorem cls_numB (n : Nat) : decide (cls n = 3) = numB n := by
  unfold numB
  rcases cls_cases n with ⟨h, h1, h2⟩ | ⟨h, h1, h2⟩ | ⟨h, h1, h2⟩ | ⟨h, h1, h2, h3⟩ <;> rw [h] <;> simp <;> omega
end Go.Proofs.YtpcagheghmbjfaaDoor

