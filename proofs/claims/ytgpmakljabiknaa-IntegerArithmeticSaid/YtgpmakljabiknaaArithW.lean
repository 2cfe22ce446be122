/-
  The walk of the law IntegerArithmetic.
-/
import Derived.Test.YtgpmakljabiknaaAt
import Derived.Test.YtgpmakljabiknaaRops
import Derived.Test.YtgpmakljabiknaaCompare
import Derived.Deep.DeepCutAuto
namespace Go.Proofs.Ytgpmakljabiknaa
open Go.RowKit

section
variable {w w' w'' : World} {neg neg' : Bool} {A A' : Option Addr} {n c n' c' : Nat} {x y : Int}
theorem compare_at (h : IntAt w neg A n c x) (h' : IntAt w neg' A' n' c' y) : Calls Try.prog 14 #[.agg #[.bool neg, .slice A n c], .agg #[.bool neg', .slice A' n' c']] w (RetN w (cmpI x y)) := by
  obtain ⟨ds, h1, h2, h3, rfl, h5⟩ := h
  obtain ⟨ds', h1', h2', h3', rfl, h5'⟩ := h'
  exact compare_any neg neg' A A' n n' c c' ds ds' w h1 h1' h2 h3 h2' h3'
theorem rcompare_at (h : IntAt w neg A n c x) (h' : IntAt w neg' A' n' c' y) : Calls Try.prog 15 #[.agg #[.bool neg, .slice A n c], .agg #[.bool neg', .slice A' n' c']] w (RetN w (cmpI x y)) := by
  obtain ⟨ds, h1, h2, h3, rfl, h5⟩ := h
  obtain ⟨ds', h1', h2', h3', rfl, h5'⟩ := h'
  exact rcompare_any neg neg' A A' n n' c c' ds ds' w h1 h1' h2 h3 h2' h3' h5 h5'
theorem rsign_at (h : IntAt w neg A n c x) : Calls Try.prog 17 #[.agg #[.bool neg, .slice A n c]] w (RetN w (sgn x)) := by
  obtain ⟨ds, h1, h2, h3, rfl, h5⟩ := h
  exact rsign_any neg A n c ds w h1 h2 h3 h5
theorem negate_at (h : IntAt w neg A n c x) : Calls Try.prog 19 #[.agg #[.bool neg, .slice A n c]] w (RetZ w (-x)) := by
  obtain ⟨ds, h1, h2, h3, rfl, h5⟩ := h
  exact negate_any neg A n c ds w h1 h2 h3 h5
theorem rnegate_at (h : IntAt w neg A n c x) : Calls Try.prog 20 #[.agg #[.bool neg, .slice A n c]] w (RetZ w (-x)) := by
  obtain ⟨ds, h1, h2, h3, rfl, h5⟩ := h
  exact rnegate_any neg A n c ds w h1 h2 h3 h5
theorem abs_at (h : IntAt w neg A n c x) : Calls Try.prog 21 #[.agg #[.bool neg, .slice A n c]] w (RetZ w (x.natAbs : Nat)) := by
  obtain ⟨ds, h1, h2, h3, rfl, h5⟩ := h
  rw [zOf_natAbs]
  exact abs_any neg A n c ds w h1 h2 h3 h5
theorem rabs_at (h : IntAt w neg A n c x) : Calls Try.prog 22 #[.agg #[.bool neg, .slice A n c]] w (RetZ w (x.natAbs : Nat)) := by
  obtain ⟨ds, h1, h2, h3, rfl, h5⟩ := h
  rw [zOf_natAbs]
  exact rabs_any neg A n c ds w h1 h2 h3 h5
theorem radd_at (h : IntAt w neg A n c x) (h' : IntAt w neg' A' n' c' y) (k : n ≤ 100000) (k' : n' ≤ 100000) : Calls Try.prog 24 #[.agg #[.bool neg, .slice A n c], .agg #[.bool neg', .slice A' n' c']] w (RetZ w (x + y)) := by
  obtain ⟨ds, h1, h2, h3, rfl, h5⟩ := h
  obtain ⟨ds', h1', h2', h3', rfl, h5'⟩ := h'
  exact radd_any neg neg' A A' n n' c c' ds ds' w h1 h1' h2 h3 h2' h3' k k'
theorem rsub_at (h : IntAt w neg A n c x) (h' : IntAt w neg' A' n' c' y) (k : n ≤ 100000) (k' : n' ≤ 100000) : Calls Try.prog 26 #[.agg #[.bool neg, .slice A n c], .agg #[.bool neg', .slice A' n' c']] w (RetZ w (x - y)) := by
  obtain ⟨ds, h1, h2, h3, rfl, h5⟩ := h
  obtain ⟨ds', h1', h2', h3', rfl, h5'⟩ := h'
  exact rsub_any neg neg' A A' n n' c c' ds ds' w h1 h1' h2 h3 h2' h3' k k'
theorem rmul_at (h : IntAt w neg A n c x) (h' : IntAt w neg' A' n' c' y) (k : n ≤ 100000) (k' : n' ≤ 100000) : Calls Try.prog 28 #[.agg #[.bool neg, .slice A n c], .agg #[.bool neg', .slice A' n' c']] w (RetZ w (x * y)) := by
  obtain ⟨ds, h1, h2, h3, rfl, h5⟩ := h
  obtain ⟨ds', h1', h2', h3', rfl, h5'⟩ := h'
  exact rmul_any neg neg' A A' n n' c c' ds ds' w h1 h1' h2 h3 h2' h3' k k'

/-- The two arguments in the call's own variables. -/
def Env2 (w w' : World) (x1 x2 : Bool) (A1 A2 : Option Addr) (n1 c1 n2 c2 : Nat) (a b : Int) : Prop :=
  Own w' w.heap.size 24 (.bool x1) (.slice A1 n1 c1) ∧ Own w' (w.heap.size + 1) 24 (.bool x2) (.slice A2 n2 c2) ∧ IntAt w' x1 A1 n1 c1 a ∧ IntAt w' x2 A2 n2 c2 b ∧ Below w.heap.size w w'
variable {x1 x2 : Bool} {A1 A2 : Option Addr} {n1 c1 n2 c2 : Nat} {a b : Int}
theorem Env2.call (h : Env2 w w' x1 x2 A1 A2 n1 c1 n2 c2 a b) (hb : Below w'.heap.size w' w'') : Env2 w w'' x1 x2 A1 A2 n1 c1 n2 c2 a b := by
  obtain ⟨h1, h2, h4, h5, h7⟩ := h
  exact ⟨h1.below hb, h2.below hb, h4.call hb, h5.call hb, bcall h7 hb⟩
theorem Env2.drew (h : Env2 w w' x1 x2 A1 A2 n1 c1 n2 c2 a b) : Env2 w w'.drew x1 x2 A1 A2 n1 c1 n2 c2 a b := by
  obtain ⟨h1, h2, h4, h5, h7⟩ := h
  exact ⟨h1, h2, h4, h5, h7.drew⟩
theorem Env2.ia (h : Env2 w w' x1 x2 A1 A2 n1 c1 n2 c2 a b) : IntAt w' x1 A1 n1 c1 a := h.2.2.1
theorem Env2.ib (h : Env2 w w' x1 x2 A1 A2 n1 c1 n2 c2 a b) : IntAt w' x2 A2 n2 c2 b := h.2.2.2.1
theorem Env2.below (h : Env2 w w' x1 x2 A1 A2 n1 c1 n2 c2 a b) : Below w.heap.size w w' := h.2.2.2.2
theorem Env2.facts (h : Env2 w w' x1 x2 A1 A2 n1 c1 n2 c2 a b) :
    w'.cell? ⟨w.heap.size, 0, none⟩ = some (.bool x1) ∧ w'.cell? ⟨w.heap.size, 1, none⟩ = some (.slice A1 n1 c1) ∧ w'.cell? ⟨w.heap.size + 1, 0, none⟩ = some (.bool x2) ∧ w'.cell? ⟨w.heap.size + 1, 1, none⟩ = some (.slice A2 n2 c2) := by
  obtain ⟨h1, h2, _⟩ := h
  exact ⟨h1.facts.1, h1.facts.2.1, h2.facts.1, h2.facts.2.1⟩
end

theorem light2 {w : World} {x1 x2 : Bool} {A1 A2 : Option Addr} {n1 c1 n2 c2 g : Nat} (hg : g = w.heap.size) (h1 : n1 ≤ 140737488351232) (h2 : n2 ≤ 140737488351232) (b : Bool) (hb : b = decide (n1 + n2 ≤ 60)) :
    Calls Try.prog 12 #[.slice (some ⟨g, 0, none⟩) 2 2] (w.alloc (.cells #[.bool x1, .slice A1 n1 c1, .bool x2, .slice A2 n2 c2] 24)) fun e w' => e = .returned (.bool b) ∧ (w.alloc (.cells #[.bool x1, .slice A1 n1 c1, .bool x2, .slice A2 n2 c2] 24)) = w' := by
  subst hg hb
  have hh := Go.Deep.blk_alloc_new w (.cells #[.bool x1, .slice A1 n1 c1, .bool x2, .slice A2 n2 c2] 24)
  have := light_any w.heap.size 2 2 (fun i => if i = 0 then A1 else A2) (fun i => if i = 0 then n1 else n2) (fun i => if i = 0 then c1 else c2) (w.alloc (.cells #[.bool x1, .slice A1 n1 c1, .bool x2, .slice A2 n2 c2] 24)) (by omega)
    (fun i _ => by by_cases e0 : i = 0 <;> simp [e0] <;> omega)
    (fun i hi => by
      obtain rfl | rfl : i = 0 ∨ i = 1 := by omega
      · unfold World.cell?; rw [hh]; rfl
      · unfold World.cell?; rw [hh]; rfl)
  have e : sumN (fun i => if i = 0 then n1 else n2) 2 = n1 + n2 := by simp [sumN]
  rw [e] at this
  exact this

set_option maxHeartbeats 8000000 in
set_option maxRecDepth 100000 in
theorem arith_law (x1 x2 : Bool) (A1 A2 : Option Addr) (n1 c1 n2 c2 : Nat) (d1 d2 : List Nat) (w : World) (h1 : Dgs w w.heap.size A1 n1 d1) (h2 : Dgs w w.heap.size A2 n2 d2)
    (hc1 : n1 ≤ c1) (hm1 : c1 ≤ maxLen) (hc2 : n2 ≤ c2) (hm2 : c2 ≤ maxLen) (hn1 : n1 ≤ 140737488351232) (hn2 : n2 ≤ 140737488351232) :
    Calls Try.prog 3 #[.agg #[.bool x1, .slice A1 n1 c1], .agg #[.bool x2, .slice A2 n2 c2]] w (RetT1 w) := by
  have hb3 : Below w.heap.size w (((w.alloc (.cells #[.bool x1, .slice A1 n1 c1] 24)).alloc (.cells #[.bool x2, .slice A2 n2 c2] 24)).alloc (.cells #[.bool x1, .slice A1 n1 c1, .bool x2, .slice A2 n2 c2] 24)) := (bnew2 _ _ _).alloc (by simp; omega) _
  by_cases hl : n1 + n2 ≤ 60
  · have hlight := light2 (w := ((w.alloc (.cells #[.bool x1, .slice A1 n1 c1] 24)).alloc (.cells #[.bool x2, .slice A2 n2 c2] 24))) (x1 := x1) (x2 := x2) (A1 := A1) (A2 := A2) (c1 := c1) (c2 := c2) (g := w.heap.size + 1 + 1) (by simp) hn1 hn2 true (by simp [hl])
    have E0 : Env2 w (((w.alloc (.cells #[.bool x1, .slice A1 n1 c1] 24)).alloc (.cells #[.bool x2, .slice A2 n2 c2] 24)).alloc (.cells #[.bool x1, .slice A1 n1 c1, .bool x2, .slice A2 n2 c2] 24)) x1 x2 A1 A2 n1 c1 n2 c2 (zOf x1 (val d1)) (zOf x2 (val d2)) := by
      have hT := Two.new w (.bool x1) (.slice A1 n1 c1) (.bool x2) (.slice A2 n2 c2)
      exact ⟨hT.2.1.alloc _, hT.2.2.1.alloc _, ⟨d1, (h1.below hb3).more hb3.size, hc1, hm1, rfl, by omega⟩, ⟨d2, (h2.below hb3).more hb3.size, hc2, hm2, rfl, by omega⟩, hb3⟩
    have ka : n1 ≤ 100000 := by omega
    have kb : n2 ≤ 100000 := by omega
    clear h1 h2 hb3 hl
    generalize zOf x1 (val d1) = a at *
    generalize zOf x2 (val d2) = b at *
    obtain ⟨vc, HC⟩ : ∃ v, Hid (cmpI a b = v) := ⟨_, rfl⟩
    obtain ⟨vs, HS⟩ : ∃ v, Hid (sgn a = v) := ⟨_, rfl⟩
    obtain ⟨Z10, H10⟩ : ∃ v, Hid (-a = v) := ⟨_, rfl⟩
    obtain ⟨Z20, H20⟩ : ∃ v, Hid (((a.natAbs : Nat) : Int) = v) := ⟨_, rfl⟩
    obtain ⟨Z30, H30⟩ : ∃ v, Hid (a + b = v) := ⟨_, rfl⟩
    obtain ⟨Z40, H40⟩ : ∃ v, Hid (a - b = v) := ⟨_, rfl⟩
    obtain ⟨Z50, H50⟩ : ∃ v, Hid (a * b = v) := ⟨_, rfl⟩
    have HE0 := Lib.hid E0
    clear E0
    go_enter Try.func3, Try.ntmps3
    go_wp2_with ((go_at_call 12; (with_reducible refine hlight.mono ?_); rintro e w' ⟨rfl, rfl⟩))
    have E0 := HE0.out
    clear HE0 hlight
    generalize (((w.alloc (.cells #[.bool x1, .slice A1 n1 c1] 24)).alloc (.cells #[.bool x2, .slice A2 n2 c2] 24)).alloc (.cells #[.bool x1, .slice A1 n1 c1, .bool x2, .slice A2 n2 c2] 24)) = wc at E0 ⊢
    have Ed := E0.drew
    obtain ⟨p0, p1, p2, p3⟩ := E0.facts
    go_region_held3 (fun w' => w'.cell? ⟨w.heap.size, 0, none⟩ = some (.bool x1) ∧ w'.cell? ⟨w.heap.size, 1, none⟩ = some (.slice A1 n1 c1) ∧ w'.cell? ⟨w.heap.size + 1, 0, none⟩ = some (.bool x2) ∧ w'.cell? ⟨w.heap.size + 1, 1, none⟩ = some (.slice A2 n2 c2))
      (go_keep)
      (first
        | (go_at_call 14; (with_reducible refine (compare_at (Env2.ia Ed) (Env2.ib Ed)).mono ?_); rw [HC.out]; rintro e y ⟨rfl, g⟩; replace Ed := Env2.call Ed g; clear p0 p1 p2 p3; obtain ⟨p0, p1, p2, p3⟩ := Env2.facts Ed)
        | (go_at_call 15; (with_reducible refine (rcompare_at (Env2.ia Ed) (Env2.ib Ed)).mono ?_); rw [HC.out]; rintro e y ⟨rfl, g⟩; replace Ed := Env2.call Ed g; clear p0 p1 p2 p3; obtain ⟨p0, p1, p2, p3⟩ := Env2.facts Ed)
        | (go_at_call 16; (with_reducible refine (sign_at (Env2.ia Ed)).mono ?_); rw [HS.out]; rintro e y ⟨rfl, g⟩; replace Ed := Env2.call Ed g; clear p0 p1 p2 p3; obtain ⟨p0, p1, p2, p3⟩ := Env2.facts Ed)
        | (go_at_call 17; (with_reducible refine (rsign_at (Env2.ia Ed)).mono ?_); rw [HS.out]; rintro e y ⟨rfl, g⟩; replace Ed := Env2.call Ed g; clear p0 p1 p2 p3; obtain ⟨p0, p1, p2, p3⟩ := Env2.facts Ed)
        | (go_at_call 19; (with_reducible refine (negate_at (Env2.ia Ed)).mono ?_); rw [H10.out]; rintro e y ⟨C10, N10, D10, rfl, e10, u10, v10, g⟩; have Q10 := CanAt.mk_ e10 u10 v10; replace Ed := Env2.call Ed g; clear p0 p1 p2 p3; obtain ⟨p0, p1, p2, p3⟩ := Env2.facts Ed)
        | (go_at_call 20; (with_reducible refine (rnegate_at (Env2.ia Ed)).mono ?_); rw [H10.out]; rintro e y ⟨C11, N11, D11, rfl, e11, u11, v11, g⟩; have Q11 := CanAt.mk_ e11 u11 v11; replace Q10 := CanAt.call Q10 g; replace Ed := Env2.call Ed g; clear p0 p1 p2 p3; obtain ⟨p0, p1, p2, p3⟩ := Env2.facts Ed)
        | (go_at_call 18; (with_reducible refine (same_at Q10 Q11 rfl).mono ?_); rintro e y ⟨rfl, g⟩; replace Ed := Env2.call Ed g; clear p0 p1 p2 p3; obtain ⟨p0, p1, p2, p3⟩ := Env2.facts Ed)
        | (go_at_call 21; (with_reducible refine (abs_at (Env2.ia Ed)).mono ?_); rw [H20.out]; rintro e y ⟨C20, N20, D20, rfl, e20, u20, v20, g⟩; have Q20 := CanAt.mk_ e20 u20 v20; replace Ed := Env2.call Ed g; clear p0 p1 p2 p3; obtain ⟨p0, p1, p2, p3⟩ := Env2.facts Ed)
        | (go_at_call 22; (with_reducible refine (rabs_at (Env2.ia Ed)).mono ?_); rw [H20.out]; rintro e y ⟨C21, N21, D21, rfl, e21, u21, v21, g⟩; have Q21 := CanAt.mk_ e21 u21 v21; replace Q20 := CanAt.call Q20 g; replace Ed := Env2.call Ed g; clear p0 p1 p2 p3; obtain ⟨p0, p1, p2, p3⟩ := Env2.facts Ed)
        | (go_at_call 18; (with_reducible refine (same_at Q20 Q21 rfl).mono ?_); rintro e y ⟨rfl, g⟩; replace Ed := Env2.call Ed g; clear p0 p1 p2 p3; obtain ⟨p0, p1, p2, p3⟩ := Env2.facts Ed)
        | (go_at_call 23; (with_reducible refine (add_at (Env2.ia Ed) (Env2.ib Ed)).mono ?_); rw [H30.out]; rintro e y ⟨C30, N30, D30, rfl, e30, u30, v30, g⟩; have Q30 := CanAt.mk_ e30 u30 v30; replace Ed := Env2.call Ed g; clear p0 p1 p2 p3; obtain ⟨p0, p1, p2, p3⟩ := Env2.facts Ed)
        | (go_at_call 24; (with_reducible refine (radd_at (Env2.ia Ed) (Env2.ib Ed) ka kb).mono ?_); rw [H30.out]; rintro e y ⟨C31, N31, D31, rfl, e31, u31, v31, g⟩; have Q31 := CanAt.mk_ e31 u31 v31; replace Q30 := CanAt.call Q30 g; replace Ed := Env2.call Ed g; clear p0 p1 p2 p3; obtain ⟨p0, p1, p2, p3⟩ := Env2.facts Ed)
        | (go_at_call 18; (with_reducible refine (same_at Q30 Q31 rfl).mono ?_); rintro e y ⟨rfl, g⟩; replace Ed := Env2.call Ed g; clear p0 p1 p2 p3; obtain ⟨p0, p1, p2, p3⟩ := Env2.facts Ed)
        | (go_at_call 25; (with_reducible refine (sub_at (Env2.ia Ed) (Env2.ib Ed)).mono ?_); rw [H40.out]; rintro e y ⟨C40, N40, D40, rfl, e40, u40, v40, g⟩; have Q40 := CanAt.mk_ e40 u40 v40; replace Ed := Env2.call Ed g; clear p0 p1 p2 p3; obtain ⟨p0, p1, p2, p3⟩ := Env2.facts Ed)
        | (go_at_call 26; (with_reducible refine (rsub_at (Env2.ia Ed) (Env2.ib Ed) ka kb).mono ?_); rw [H40.out]; rintro e y ⟨C41, N41, D41, rfl, e41, u41, v41, g⟩; have Q41 := CanAt.mk_ e41 u41 v41; replace Q40 := CanAt.call Q40 g; replace Ed := Env2.call Ed g; clear p0 p1 p2 p3; obtain ⟨p0, p1, p2, p3⟩ := Env2.facts Ed)
        | (go_at_call 18; (with_reducible refine (same_at Q40 Q41 rfl).mono ?_); rintro e y ⟨rfl, g⟩; replace Ed := Env2.call Ed g; clear p0 p1 p2 p3; obtain ⟨p0, p1, p2, p3⟩ := Env2.facts Ed)
        | (go_at_call 27; (with_reducible refine (mul_at (Env2.ia Ed) (Env2.ib Ed)).mono ?_); rw [H50.out]; rintro e y ⟨C50, N50, D50, rfl, e50, u50, v50, g⟩; have Q50 := CanAt.mk_ e50 u50 v50; replace Ed := Env2.call Ed g; clear p0 p1 p2 p3; obtain ⟨p0, p1, p2, p3⟩ := Env2.facts Ed)
        | (go_at_call 28; (with_reducible refine (rmul_at (Env2.ia Ed) (Env2.ib Ed) ka kb).mono ?_); rw [H50.out]; rintro e y ⟨C51, N51, D51, rfl, e51, u51, v51, g⟩; have Q51 := CanAt.mk_ e51 u51 v51; replace Q50 := CanAt.call Q50 g; replace Ed := Env2.call Ed g; clear p0 p1 p2 p3; obtain ⟨p0, p1, p2, p3⟩ := Env2.facts Ed)
        | (go_at_call 18; (with_reducible refine (same_at Q50 Q51 rfl).mono ?_); rintro e y ⟨rfl, g⟩; replace Ed := Env2.call Ed g; clear p0 p1 p2 p3; obtain ⟨p0, p1, p2, p3⟩ := Env2.facts Ed)
        | (go_at_call 13; (with_reducible refine (awake_any _).mono ?_); rintro e y ⟨rfl, g⟩; replace Ed := Env2.call Ed g; clear p0 p1 p2 p3; obtain ⟨p0, p1, p2, p3⟩ := Env2.facts Ed)
        | fail)
    go_wp2
    go_ret
    exact ⟨rfl, Env2.below Ed⟩
  · have hlight := light2 (w := ((w.alloc (.cells #[.bool x1, .slice A1 n1 c1] 24)).alloc (.cells #[.bool x2, .slice A2 n2 c2] 24))) (x1 := x1) (x2 := x2) (A1 := A1) (A2 := A2) (c1 := c1) (c2 := c2) (g := w.heap.size + 1 + 1) (by simp) hn1 hn2 false (by simp; omega)
    go_enter Try.func3, Try.ntmps3
    go_wp2_with (first
      | (go_at_call 12; (with_reducible refine hlight.mono ?_); rintro e w' ⟨rfl, rfl⟩)
      | (go_at_call 13; (with_reducible refine (awake_any _).mono ?_); rintro e w1 ⟨rfl, hb1⟩))
    go_ret
    exact ⟨rfl, bcall hb3 hb1⟩
end Go.Proofs.Ytgpmakljabiknaa
