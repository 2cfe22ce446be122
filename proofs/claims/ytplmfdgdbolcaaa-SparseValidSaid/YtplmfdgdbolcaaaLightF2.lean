/-
  Light of one, two, three fractions.
-/
import Derived.Test.YtplmfdgdbolcaaaLightF
set_option linter.unusedVariables false
set_option linter.unusedSimpArgs false
namespace Go.Proofs.Ytplmfdgdbolcaaa
open Go.RowKit

theorem lightF1 {w : World} {s0 t0 : Bool} {A0 B0 : Option Addr} {n0 c0 m0 d0 : Nat} {g : Nat} (hg : g = w.heap.size) (hn0 : n0 ≤ 140737488351232) (hm0 : m0 ≤ 140737488351232) (b : Bool) (hb : b = decide ((n0 ≤ 12 ∧ m0 ≤ 12))) :
    Calls Try.prog 31 #[.slice (some ⟨g, 0, none⟩) 1 1] (w.alloc (.cells #[.bool s0, .slice A0 n0 c0, .bool t0, .slice B0 m0 d0] 42)) (RetB1 (w.alloc (.cells #[.bool s0, .slice A0 n0 c0, .bool t0, .slice B0 m0 d0] 42)) b) := by
  subst hg
  have hh := Go.Deep.blk_alloc_new w (.cells #[.bool s0, .slice A0 n0 c0, .bool t0, .slice B0 m0 d0] 42)
  refine lightF_any w.heap.size 0 1 1 (fun i => s0) (fun i => t0) (fun i => A0) (fun i => B0) (fun i => n0) (fun i => c0) (fun i => m0) (fun i => d0) _ (by simp) (by omega) (fun i hi => ?_) (fun i hi => ?_) b ?_
  · obtain rfl : i = 0 := by omega
    all_goals exact ⟨by first | exact hn0, by first | exact hm0⟩
  · obtain rfl : i = 0 := by omega
    all_goals (refine ⟨?_, ?_, ?_, ?_⟩ <;> (unfold World.cell?; rw [hh]; rfl))
  · subst hb
    rw [decide_eq_true_iff]
    constructor
    · intro h
      refine ⟨fun i hi => ?_, by omega⟩
      obtain rfl : i = 0 := by omega
      · exact h
    · intro h
      have h := h.1
      exact h 0 (by omega)
theorem lightF2 {w : World} {s0 t0 : Bool} {A0 B0 : Option Addr} {n0 c0 m0 d0 : Nat} {s1 t1 : Bool} {A1 B1 : Option Addr} {n1 c1 m1 d1 : Nat} {g : Nat} (hg : g = w.heap.size) (hn0 : n0 ≤ 140737488351232) (hm0 : m0 ≤ 140737488351232) (hn1 : n1 ≤ 140737488351232) (hm1 : m1 ≤ 140737488351232) (b : Bool) (hb : b = decide ((n0 ≤ 12 ∧ m0 ≤ 12) ∧ (n1 ≤ 12 ∧ m1 ≤ 12))) :
    Calls Try.prog 31 #[.slice (some ⟨g, 0, none⟩) 2 2] (w.alloc (.cells #[.bool s0, .slice A0 n0 c0, .bool t0, .slice B0 m0 d0, .bool s1, .slice A1 n1 c1, .bool t1, .slice B1 m1 d1] 42)) (RetB1 (w.alloc (.cells #[.bool s0, .slice A0 n0 c0, .bool t0, .slice B0 m0 d0, .bool s1, .slice A1 n1 c1, .bool t1, .slice B1 m1 d1] 42)) b) := by
  subst hg
  have hh := Go.Deep.blk_alloc_new w (.cells #[.bool s0, .slice A0 n0 c0, .bool t0, .slice B0 m0 d0, .bool s1, .slice A1 n1 c1, .bool t1, .slice B1 m1 d1] 42)
  refine lightF_any w.heap.size 0 2 2 (fun i => if i = 0 then s0 else s1) (fun i => if i = 0 then t0 else t1) (fun i => if i = 0 then A0 else A1) (fun i => if i = 0 then B0 else B1) (fun i => if i = 0 then n0 else n1) (fun i => if i = 0 then c0 else c1) (fun i => if i = 0 then m0 else m1) (fun i => if i = 0 then d0 else d1) _ (by simp) (by omega) (fun i hi => ?_) (fun i hi => ?_) b ?_
  · obtain rfl | rfl : i = 0 ∨ i = 1 := by omega
    all_goals exact ⟨by first | exact hn0 | exact hn1, by first | exact hm0 | exact hm1⟩
  · obtain rfl | rfl : i = 0 ∨ i = 1 := by omega
    all_goals (refine ⟨?_, ?_, ?_, ?_⟩ <;> (unfold World.cell?; rw [hh]; rfl))
  · subst hb
    rw [decide_eq_true_iff]
    constructor
    · intro h
      refine ⟨fun i hi => ?_, by omega⟩
      obtain rfl | rfl : i = 0 ∨ i = 1 := by omega
      · exact h.1
      · exact h.2
    · intro h
      have h := h.1
      exact ⟨h 0 (by omega), h 1 (by omega)⟩
theorem lightF3 {w : World} {s0 t0 : Bool} {A0 B0 : Option Addr} {n0 c0 m0 d0 : Nat} {s1 t1 : Bool} {A1 B1 : Option Addr} {n1 c1 m1 d1 : Nat} {s2 t2 : Bool} {A2 B2 : Option Addr} {n2 c2 m2 d2 : Nat} {g : Nat} (hg : g = w.heap.size) (hn0 : n0 ≤ 140737488351232) (hm0 : m0 ≤ 140737488351232) (hn1 : n1 ≤ 140737488351232) (hm1 : m1 ≤ 140737488351232) (hn2 : n2 ≤ 140737488351232) (hm2 : m2 ≤ 140737488351232) (b : Bool) (hb : b = decide ((n0 ≤ 12 ∧ m0 ≤ 12) ∧ (n1 ≤ 12 ∧ m1 ≤ 12) ∧ (n2 ≤ 12 ∧ m2 ≤ 12))) :
    Calls Try.prog 31 #[.slice (some ⟨g, 0, none⟩) 3 3] (w.alloc (.cells #[.bool s0, .slice A0 n0 c0, .bool t0, .slice B0 m0 d0, .bool s1, .slice A1 n1 c1, .bool t1, .slice B1 m1 d1, .bool s2, .slice A2 n2 c2, .bool t2, .slice B2 m2 d2] 42)) (RetB1 (w.alloc (.cells #[.bool s0, .slice A0 n0 c0, .bool t0, .slice B0 m0 d0, .bool s1, .slice A1 n1 c1, .bool t1, .slice B1 m1 d1, .bool s2, .slice A2 n2 c2, .bool t2, .slice B2 m2 d2] 42)) b) := by
  subst hg
  have hh := Go.Deep.blk_alloc_new w (.cells #[.bool s0, .slice A0 n0 c0, .bool t0, .slice B0 m0 d0, .bool s1, .slice A1 n1 c1, .bool t1, .slice B1 m1 d1, .bool s2, .slice A2 n2 c2, .bool t2, .slice B2 m2 d2] 42)
  refine lightF_any w.heap.size 0 3 3 (fun i => if i = 0 then s0 else if i = 1 then s1 else s2) (fun i => if i = 0 then t0 else if i = 1 then t1 else t2) (fun i => if i = 0 then A0 else if i = 1 then A1 else A2) (fun i => if i = 0 then B0 else if i = 1 then B1 else B2) (fun i => if i = 0 then n0 else if i = 1 then n1 else n2) (fun i => if i = 0 then c0 else if i = 1 then c1 else c2) (fun i => if i = 0 then m0 else if i = 1 then m1 else m2) (fun i => if i = 0 then d0 else if i = 1 then d1 else d2) _ (by simp) (by omega) (fun i hi => ?_) (fun i hi => ?_) b ?_
  · obtain rfl | rfl | rfl : i = 0 ∨ i = 1 ∨ i = 2 := by omega
    all_goals exact ⟨by first | exact hn0 | exact hn1 | exact hn2, by first | exact hm0 | exact hm1 | exact hm2⟩
  · obtain rfl | rfl | rfl : i = 0 ∨ i = 1 ∨ i = 2 := by omega
    all_goals (refine ⟨?_, ?_, ?_, ?_⟩ <;> (unfold World.cell?; rw [hh]; rfl))
  · subst hb
    rw [decide_eq_true_iff]
    constructor
    · intro h
      refine ⟨fun i hi => ?_, by omega⟩
      obtain rfl | rfl | rfl : i = 0 ∨ i = 1 ∨ i = 2 := by omega
      · exact h.1
      · exact h.2.1
      · exact h.2.2
    · intro h
      have h := h.1
      exact ⟨h 0 (by omega), h 1 (by omega), h 2 (by omega)⟩
end Go.Proofs.Ytplmfdgdbolcaaa
