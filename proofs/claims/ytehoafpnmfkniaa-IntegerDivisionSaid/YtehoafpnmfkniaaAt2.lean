/-
  All operations on integers, handed from call to call; two integers in the call's own variables.
-/
import Derived.Test.YtehoafpnmfkniaaAt
import Derived.Test.YtehoafpnmfkniaaRops
import Derived.Test.YtehoafpnmfkniaaCompare
import Derived.Deep.DeepCutAuto
set_option linter.unusedVariables false
set_option linter.unusedSimpArgs false
namespace Go.Proofs.Ytehoafpnmfkniaa
open Go.RowKit

section
variable {w w' w'' : World} {neg neg' : Bool} {A A' : Option Addr} {n c n' c' : Nat} {x y : Int}
theorem compare_at (h : IntAt w neg A n c x) (h' : IntAt w neg' A' n' c' y) : Calls Try.prog 24 #[.agg #[.bool neg, .slice A n c], .agg #[.bool neg', .slice A' n' c']] w (RetN w (cmpI x y)) := by
  obtain ⟨ds, h1, h2, h3, rfl, h5⟩ := h
  obtain ⟨ds', h1', h2', h3', rfl, h5'⟩ := h'
  exact compare_any neg neg' A A' n n' c c' ds ds' w h1 h1' h2 h3 h2' h3'
theorem rcompare_at (h : IntAt w neg A n c x) (h' : IntAt w neg' A' n' c' y) : Calls Try.prog 106 #[.agg #[.bool neg, .slice A n c], .agg #[.bool neg', .slice A' n' c']] w (RetN w (cmpI x y)) := by
  obtain ⟨ds, h1, h2, h3, rfl, h5⟩ := h
  obtain ⟨ds', h1', h2', h3', rfl, h5'⟩ := h'
  exact rcompare_any neg neg' A A' n n' c c' ds ds' w h1 h1' h2 h3 h2' h3' h5 h5'
theorem rsign_at (h : IntAt w neg A n c x) : Calls Try.prog 95 #[.agg #[.bool neg, .slice A n c]] w (RetN w (sgn x)) := by
  obtain ⟨ds, h1, h2, h3, rfl, h5⟩ := h
  exact rsign_any neg A n c ds w h1 h2 h3 h5
theorem negate_at (h : IntAt w neg A n c x) : Calls Try.prog 119 #[.agg #[.bool neg, .slice A n c]] w (RetZ w (-x)) := by
  obtain ⟨ds, h1, h2, h3, rfl, h5⟩ := h
  exact negate_any neg A n c ds w h1 h2 h3 h5
theorem rnegate_at (h : IntAt w neg A n c x) : Calls Try.prog 120 #[.agg #[.bool neg, .slice A n c]] w (RetZ w (-x)) := by
  obtain ⟨ds, h1, h2, h3, rfl, h5⟩ := h
  exact rnegate_any neg A n c ds w h1 h2 h3 h5
theorem abs_at (h : IntAt w neg A n c x) : Calls Try.prog 25 #[.agg #[.bool neg, .slice A n c]] w (RetZ w (x.natAbs : Nat)) := by
  obtain ⟨ds, h1, h2, h3, rfl, h5⟩ := h
  rw [zOf_natAbs]
  exact abs_any neg A n c ds w h1 h2 h3 h5
theorem rabs_at (h : IntAt w neg A n c x) : Calls Try.prog 96 #[.agg #[.bool neg, .slice A n c]] w (RetZ w (x.natAbs : Nat)) := by
  obtain ⟨ds, h1, h2, h3, rfl, h5⟩ := h
  rw [zOf_natAbs]
  exact rabs_any neg A n c ds w h1 h2 h3 h5
theorem radd_at (h : IntAt w neg A n c x) (h' : IntAt w neg' A' n' c' y) (k : n ≤ 100000) (k' : n' ≤ 100000) : Calls Try.prog 87 #[.agg #[.bool neg, .slice A n c], .agg #[.bool neg', .slice A' n' c']] w (RetZ w (x + y)) := by
  obtain ⟨ds, h1, h2, h3, rfl, h5⟩ := h
  obtain ⟨ds', h1', h2', h3', rfl, h5'⟩ := h'
  exact radd_any neg neg' A A' n n' c c' ds ds' w h1 h1' h2 h3 h2' h3' k k'
theorem rsub_at (h : IntAt w neg A n c x) (h' : IntAt w neg' A' n' c' y) (k : n ≤ 100000) (k' : n' ≤ 100000) : Calls Try.prog 85 #[.agg #[.bool neg, .slice A n c], .agg #[.bool neg', .slice A' n' c']] w (RetZ w (x - y)) := by
  obtain ⟨ds, h1, h2, h3, rfl, h5⟩ := h
  obtain ⟨ds', h1', h2', h3', rfl, h5'⟩ := h'
  exact rsub_any neg neg' A A' n n' c c' ds ds' w h1 h1' h2 h3 h2' h3' k k'
theorem rmul_at (h : IntAt w neg A n c x) (h' : IntAt w neg' A' n' c' y) (k : n ≤ 100000) (k' : n' ≤ 100000) : Calls Try.prog 97 #[.agg #[.bool neg, .slice A n c], .agg #[.bool neg', .slice A' n' c']] w (RetZ w (x * y)) := by
  obtain ⟨ds, h1, h2, h3, rfl, h5⟩ := h
  obtain ⟨ds', h1', h2', h3', rfl, h5'⟩ := h'
  exact rmul_any neg neg' A A' n n' c c' ds ds' w h1 h1' h2 h3 h2' h3' k k'

/-- The two arguments in the call's own variables. -/
def Env2 (w w' : World) (x1 x2 : Bool) (A1 A2 : Option Addr) (n1 c1 n2 c2 : Nat) (a b : Int) : Prop :=
  Own w' w.heap.size 24 (.bool x1) (.slice A1 n1 c1) ∧ Own w' (w.heap.size + 1) 24 (.bool x2) (.slice A2 n2 c2) ∧ IntAt w' x1 A1 n1 c1 a ∧ IntAt w' x2 A2 n2 c2 b ∧ Below w.heap.size w w'
variable {x1 x2 : Bool} {A1 A2 : Option Addr} {n1 c1 n2 c2 : Nat} {a b : Int}
theorem Env2.call (h : Env2 w w' x1 x2 A1 A2 n1 c1 n2 c2 a b) (hb : Below w'.heap.size w' w'') : Env2 w w'' x1 x2 A1 A2 n1 c1 n2 c2 a b := by
  obtain ⟨h1, h2, h4, h5, h7⟩ := h
  exact ⟨h1.below hb, h2.below hb, h4.call hb, h5.call hb, bcall h7 hb⟩
theorem Env2.drew (h : Env2 w w' x1 x2 A1 A2 n1 c1 n2 c2 a b) : Env2 w w'.drew x1 x2 A1 A2 n1 c1 n2 c2 a b := by
  obtain ⟨h1, h2, h4, h5, h7⟩ := h
  exact ⟨h1, h2, h4, h5, h7.drew⟩
theorem Env2.ia (h : Env2 w w' x1 x2 A1 A2 n1 c1 n2 c2 a b) : IntAt w' x1 A1 n1 c1 a := h.2.2.1
theorem Env2.ib (h : Env2 w w' x1 x2 A1 A2 n1 c1 n2 c2 a b) : IntAt w' x2 A2 n2 c2 b := h.2.2.2.1
theorem Env2.below (h : Env2 w w' x1 x2 A1 A2 n1 c1 n2 c2 a b) : Below w.heap.size w w' := h.2.2.2.2
theorem Env2.facts (h : Env2 w w' x1 x2 A1 A2 n1 c1 n2 c2 a b) :
    w'.cell? ⟨w.heap.size, 0, none⟩ = some (.bool x1) ∧ w'.cell? ⟨w.heap.size, 1, none⟩ = some (.slice A1 n1 c1) ∧ w'.cell? ⟨w.heap.size + 1, 0, none⟩ = some (.bool x2) ∧ w'.cell? ⟨w.heap.size + 1, 1, none⟩ = some (.slice A2 n2 c2) := by
  obtain ⟨h1, h2, _⟩ := h
  exact ⟨h1.facts.1, h1.facts.2.1, h2.facts.1, h2.facts.2.1⟩
end

theorem light2 {w : World} {x1 x2 : Bool} {A1 A2 : Option Addr} {n1 c1 n2 c2 g : Nat} (hg : g = w.heap.size) (h1 : n1 ≤ 140737488351232) (h2 : n2 ≤ 140737488351232) (b : Bool) (hb : b = decide (n1 + n2 ≤ 60)) :
    Calls Try.prog 16 #[.slice (some ⟨g, 0, none⟩) 2 2] (w.alloc (.cells #[.bool x1, .slice A1 n1 c1, .bool x2, .slice A2 n2 c2] 24)) fun e w' => e = .returned (.bool b) ∧ (w.alloc (.cells #[.bool x1, .slice A1 n1 c1, .bool x2, .slice A2 n2 c2] 24)) = w' := by
  subst hg hb
  have hh := Go.Deep.blk_alloc_new w (.cells #[.bool x1, .slice A1 n1 c1, .bool x2, .slice A2 n2 c2] 24)
  have := light_any w.heap.size 2 2 (fun i => if i = 0 then A1 else A2) (fun i => if i = 0 then n1 else n2) (fun i => if i = 0 then c1 else c2) (w.alloc (.cells #[.bool x1, .slice A1 n1 c1, .bool x2, .slice A2 n2 c2] 24)) (by omega)
    (fun i _ => by by_cases e0 : i = 0 <;> simp [e0] <;> omega)
    (fun i hi => by
      obtain rfl | rfl : i = 0 ∨ i = 1 := by omega
      · unfold World.cell?; rw [hh]; rfl
      · unfold World.cell?; rw [hh]; rfl)
  have e : sumN (fun i => if i = 0 then n1 else n2) 2 = n1 + n2 := by simp [sumN]
  rw [e] at this
  exact this
end Go.Proofs.Ytehoafpnmfkniaa
