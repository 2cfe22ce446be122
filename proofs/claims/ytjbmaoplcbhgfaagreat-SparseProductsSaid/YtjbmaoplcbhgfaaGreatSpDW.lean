/-
  The walk of the law SparseDense.
-/
import Derived.Test.YtjbmaoplcbhgfaaGreatSpD
import Derived.Test.YtjbmaoplcbhgfaaGreatSpS
import Derived.Test.YtjbmaoplcbhgfaaGreatDotA
set_option linter.unusedVariables false
set_option linter.unusedSimpArgs false
namespace Go.Proofs.YtjbmaoplcbhgfaaGreat
open Go.RowKit

theorem small_any (n : Int) (w : World) : Calls Tryz.prog 7 #[.int .i64 n] w (RetB1 w (decide (n ≤ 60 ∨ 4096 < n))) := by
  go_enter Tryz.func7, Tryz.ntmps7
  by_cases h1 : n ≤ 60
  · have e : decide (n ≤ 60 ∨ 4096 < n) = true := by simp [h1]
    rw [e]
    go_wp2_with fail
    go_ret
    exact ⟨rfl, Below.refl _ _⟩
  · by_cases h2 : 4096 < n
    · have e : decide (n ≤ 60 ∨ 4096 < n) = true := by simp [h2]
      rw [e]
      go_wp2_with fail
      go_ret
      exact ⟨rfl, Below.refl _ _⟩
    · have e : decide (n ≤ 60 ∨ 4096 < n) = false := by simp [h1, h2]
      rw [e]
      go_wp2_with fail
      go_ret
      exact ⟨rfl, Below.refl _ _⟩
theorem same3_at {w : World} {A B : Option Addr} {c d : Nat} {l m : List VE} (hA : VC w A l) (hB : VC w B m) (h : l.map VE.v = m.map VE.v) (hl : l.length ≤ 1000000) :
    Calls Tryz.prog 16 #[.slice A l.length c, .slice B m.length d] w (RetT1 w) := by
  have hs := sameV_at (c := c) (d := d) hA hB h hl
  clear hA hB
  go_enter Tryz.func16, Tryz.ntmps16
  go_wp2_with (first
    | (go_at_call 37; (with_reducible refine hs.mono ?_); rintro e w1 ⟨rfl, g1⟩)
    | fail)
  go_ret
  exact ⟨rfl, g1⟩
/-- A slice of fractions of a parameter. -/
def FP (w : World) (A : Option Addr) (l : List FE) : Prop :=
  (∀ e ∈ l, FE.P w e) ∧ l.length ≤ 140737488351232 ∧ (0 < l.length → ∃ g o, A = some ⟨g, o, none⟩ ∧ g < w.heap.size ∧ ∀ k e, l[k]? = some e → FE.In w g (o + k * 4) e)
theorem FP.light {w w' : World} {A : Option Addr} {c : Nat} {l : List FE} (h : FP w A l) (hb : Below w.heap.size w w') (b : Bool) (hbb : b = true ↔ (∀ e ∈ l, e.n ≤ 12 ∧ e.m ≤ 12) ∧ l.length < 20) :
    Calls Tryz.prog 6 #[.slice A l.length c] w' (RetB1 w' b) := by
  refine lightL (fun e he => ?_) h.2.1 (fun hl => ?_) b hbb
  · obtain ⟨da, db, h1, h2, _, _⟩ := h.1 e he
    exact ⟨h1.2.2.2, h2.2.2.2⟩
  · obtain ⟨g, o, e1, e2, e3⟩ := h.2.2 hl
    exact ⟨g, o, e1, Nat.lt_of_lt_of_le e2 hb.size, fun k e hk => (e3 k e hk).call e2 hb⟩
theorem FP.fl {w : World} {A : Option Addr} {l : List FE} (h : FP w A l) (hl : ∀ e ∈ l, e.n ≤ 12 ∧ e.m ≤ 12) : FL w A l ∧ ∀ e ∈ l, FE.S 12 e := by
  have hA : ∀ e ∈ l, FE.At w e ∧ FE.S 12 e := fun e he => by
    obtain ⟨da, db, h1, h2, e1, e2⟩ := h.1 e he
    obtain ⟨n1, n2⟩ := hl e he
    unfold FE.At FE.S
    rw [e1, e2]
    exact ⟨⟨h1.i _ n1, h2.i _ n2⟩, h1.z _ n1, h2.z _ n2⟩
  exact ⟨⟨fun e he => (hA e he).1, h.2.2⟩, fun e he => (hA e he).2⟩

end Go.Proofs.YtjbmaoplcbhgfaaGreat

