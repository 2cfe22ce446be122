/-
  Light of fractions.
-/
import Derived.Test.YtkhficmehjglmaaFrcC
import Derived.Deep.LoopGhost
set_option linter.unusedVariables false
set_option linter.unusedSimpArgs false
namespace Go.Proofs.Ytkhficmehjglmaa
section
open Go.RowKit

/-- The integers' Light in a region that draws. -/
theorem light2W (x1 x2 : Bool) (A1 A2 : Option Addr) (n1 c1 n2 c2 : Nat) (h1 : n1 ≤ 140737488351232) (h2 : n2 ≤ 140737488351232) (b : Bool) (hb : b = decide (n1 + n2 ≤ 60)) (w : World) (g : Nat) (hg : g = w.heap.size) :
    Calls Try.prog 4 #[.slice (some ⟨g, 0, none⟩) 2 2] (w.alloc (.cells #[.bool x1, .slice A1 n1 c1, .bool x2, .slice A2 n2 c2] 24)).drew fun e w' => e = .returned (.bool b) ∧ (w.alloc (.cells #[.bool x1, .slice A1 n1 c1, .bool x2, .slice A2 n2 c2] 24)).drew = w' := by
  subst hg hb
  have hh := Go.Deep.blk_alloc_new w (.cells #[.bool x1, .slice A1 n1 c1, .bool x2, .slice A2 n2 c2] 24)
  have hd : ∀ p : Addr, (w.alloc (.cells #[.bool x1, .slice A1 n1 c1, .bool x2, .slice A2 n2 c2] 24)).drew.cell? p = (w.alloc (.cells #[.bool x1, .slice A1 n1 c1, .bool x2, .slice A2 n2 c2] 24)).cell? p := fun p => rfl
  have := light_any w.heap.size 2 2 (fun i => if i = 0 then A1 else A2) (fun i => if i = 0 then n1 else n2) (fun i => if i = 0 then c1 else c2) (w.alloc (.cells #[.bool x1, .slice A1 n1 c1, .bool x2, .slice A2 n2 c2] 24)).drew (by omega)
    (fun i _ => by by_cases e0 : i = 0 <;> simp [e0] <;> omega)
    (fun i hi => by
      rw [hd]
      obtain rfl | rfl : i = 0 ∨ i = 1 := by omega
      · unfold World.cell?; rw [hh]; rfl
      · unfold World.cell?; rw [hh]; rfl)
  have e : sumN (fun i => if i = 0 then n1 else n2) 2 = n1 + n2 := by simp [sumN]
  rw [e] at this
  exact this

/-- The digits of all fractions are few enough. -/
def FewD (N N' : Nat → Nat) (l : Nat) : Prop := ∀ i, i < l → N i ≤ 12 ∧ N' i ≤ 12
def RetB1 (w : World) (b : Bool) (e : Ending) (w' : World) : Prop := e = .returned (.bool b) ∧ Below w.heap.size w w'

end
section
open Go.RowKit
end
end Go.Proofs.Ytkhficmehjglmaa

