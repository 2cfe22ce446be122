/-
  The order of integers, by the program and by the reference.
  The reference's negatives, absolute values, sums, differences and products of integers.
  All operations on integers, handed from call to call; two integers in the call's own variables.
-/
import Derived.Test.YtkhficmehjglmaaZops
import Derived.Test.YtkhficmehjglmaaRdig
import Derived.Deep.DeepCutAuto
set_option linter.unusedVariables false
set_option linter.unusedSimpArgs false
namespace Go.Proofs.Ytkhficmehjglmaa
open Go.RowKit

/-- Two integers in variables of the call's own. -/
def Two (w w' : World) (g : Nat) (a0 a1 b0 b1 : Value) : Prop :=
  w.heap.size ≤ g ∧ Own w' g 24 a0 a1 ∧ Own w' (g + 1) 24 b0 b1 ∧ Below w.heap.size w w'
section
variable {w w' w'' : World} {g : Nat} {a0 a1 b0 b1 : Value}
theorem Two.call (h : Two w w' g a0 a1 b0 b1) (hb : Below w'.heap.size w' w'') : Two w w'' g a0 a1 b0 b1 := by
  obtain ⟨h0, h1, h2, h5⟩ := h
  exact ⟨h0, h1.below hb, h2.below hb, bcall h5 hb⟩
theorem Two.alike (h : Two w w' g a0 a1 b0 b1) (hb : ∀ B, Below B w' w'') : Two w w'' g a0 a1 b0 b1 := h.call (hb _)
theorem Two.setA (h : Two w w' g a0 a1 b0 b1) (u v : Value) : Two w ((w'.setCell ⟨g, 0, none⟩ u).setCell ⟨g, 1, none⟩ v) g u v b0 b1 := by
  obtain ⟨h0, h1, h2, h5⟩ := h
  exact ⟨h0, h1.set2 u v, h2.far2 (by omega) u v, (h5.setCell h0 _).setCell h0 _⟩
theorem Two.setB (h : Two w w' g a0 a1 b0 b1) (u v : Value) : Two w ((w'.setCell ⟨g + 1, 0, none⟩ u).setCell ⟨g + 1, 1, none⟩ v) g a0 a1 u v := by
  obtain ⟨h0, h1, h2, h5⟩ := h
  exact ⟨h0, h1.far2 (by omega) u v, h2.set2 u v, (h5.setCell (p := ⟨g + 1, 0, none⟩) (by show _ ≤ g + 1; omega) _).setCell (p := ⟨g + 1, 1, none⟩) (by show _ ≤ g + 1; omega) _⟩
theorem Two.new (w : World) (a0 a1 b0 b1 : Value) :
    Two w ((w.alloc (.cells #[a0, a1] 24)).alloc (.cells #[b0, b1] 24)) w.heap.size a0 a1 b0 b1 := by
  refine ⟨Nat.le_refl _, (Own.new _ _ _ _).alloc _, ?_, bnew2 _ _ _⟩
  have := Own.new (w.alloc (.cells #[a0, a1] 24)) 24 b0 b1
  simpa using this
end

/-- Both integers are canonical. -/
def Can2 (w wx : World) (x y : Int) : Prop :=
  ∃ A1 n1 c1 A2 n2 c2, Two w wx w.heap.size (.bool (decide (x < 0))) (.slice A1 n1 c1) (.bool (decide (y < 0))) (.slice A2 n2 c2) ∧
    Dgs wx wx.heap.size A1 n1 (digs x.natAbs) ∧ n1 ≤ c1 ∧ c1 ≤ maxLen ∧ Dgs wx wx.heap.size A2 n2 (digs y.natAbs) ∧ n2 ≤ c2 ∧ c2 ≤ maxLen

theorem cmp_neg_neg {x y : Int} (hx : x < 0) (hy : y < 0) : cmpI x y = cmpI y.natAbs x.natAbs := cmpI_congr (fun h => by omega) (fun h => by omega) (fun h => by omega)
theorem cmp_pos_pos {x y : Int} (hx : ¬ x < 0) (hy : ¬ y < 0) : cmpI x y = cmpI x.natAbs y.natAbs := cmpI_congr (fun h => by omega) (fun h => by omega) (fun h => by omega)
theorem RetC.toN {w w' : World} {v v' : Int} {e : Ending} {w0 : World} (h : e = .returned (.int .i64 v)) (hv : v' = v) (hb : Below w0.heap.size w0 w') : RetN w0 v' e w' := ⟨by rw [h, hv], hb⟩

theorem zOf_false' (v : Nat) : ((v : Nat) : Int) = zOf false v := by simp [zOf]
theorem zOf_add_eq (b : Bool) (x y : Nat) : zOf b x + zOf b y = zOf b (x + y) := by cases b <;> simp [zOf] <;> omega
theorem zOf_add_ne {b b' : Bool} (h : b ≠ b') {x y : Nat} (hle : y ≤ x) : zOf b x + zOf b' y = zOf b (x - y) := by
  cases b <;> cases b' <;> simp_all [zOf] <;> omega
theorem zOf_self (z : Int) : zOf (decide (z < 0)) z.natAbs = z := by unfold zOf; by_cases h : z < 0 <;> simp [h] <;> omega
theorem zOf_mul_eq (b b' : Bool) (x y : Nat) : zOf b x * zOf b' y = zOf (!(b == b')) (x * y) := by
  cases b <;> cases b' <;> simp [zOf, Int.neg_mul, Int.mul_neg]
theorem digs_add_len {da db : List Nat} {n n' : Nat} (hd : Dig da) (hl : da.length = n) (hd' : Dig db) (hl' : db.length = n') : (digs (val da + val db)).length ≤ n + n' + 1 := by
  refine digs_length_le ?_
  have h1 := val_lt hd
  have h2 := val_lt hd'
  rw [hl] at h1
  rw [hl'] at h2
  have p1 : BB ^ n ≤ BB ^ (n + n') := Nat.pow_le_pow_right BB_pos (by omega)
  have p2 : BB ^ n' ≤ BB ^ (n + n') := Nat.pow_le_pow_right BB_pos (by omega)
  have p3 : BB ^ (n + n') * 2 ≤ BB ^ (n + n') * BB := Nat.mul_le_mul_left _ (by rw [BB_eq]; omega)
  rw [Nat.pow_succ]
  omega
theorem digs_mul_len {da db : List Nat} {n n' : Nat} (hd : Dig da) (hl : da.length = n) (hd' : Dig db) (hl' : db.length = n') : (digs (val da * val db)).length ≤ n + n' := by
  refine digs_length_le ?_
  have h1 := val_lt hd
  have h2 := val_lt hd'
  rw [hl] at h1
  rw [hl'] at h2
  rw [Nat.pow_add]
  exact Nat.mul_lt_mul'' h1 h2
theorem digs_sub_len {da : List Nat} {n : Nat} (y : Nat) (hd : Dig da) (hl : da.length = n) : (digs (val da - y)).length ≤ n := by
  refine digs_length_le ?_
  have h1 := val_lt hd
  rw [hl] at h1
  omega

section
variable {w w' w'' : World} {neg neg' : Bool} {A A' : Option Addr} {n c n' c' : Nat} {x y : Int}
/-- The two arguments in the call's own variables. -/
def Env2 (w w' : World) (x1 x2 : Bool) (A1 A2 : Option Addr) (n1 c1 n2 c2 : Nat) (a b : Int) : Prop :=
  Own w' w.heap.size 24 (.bool x1) (.slice A1 n1 c1) ∧ Own w' (w.heap.size + 1) 24 (.bool x2) (.slice A2 n2 c2) ∧ IntAt w' x1 A1 n1 c1 a ∧ IntAt w' x2 A2 n2 c2 b ∧ Below w.heap.size w w'
variable {x1 x2 : Bool} {A1 A2 : Option Addr} {n1 c1 n2 c2 : Nat} {a b : Int}
theorem Env2.call (h : Env2 w w' x1 x2 A1 A2 n1 c1 n2 c2 a b) (hb : Below w'.heap.size w' w'') : Env2 w w'' x1 x2 A1 A2 n1 c1 n2 c2 a b := by
  obtain ⟨h1, h2, h4, h5, h7⟩ := h
  exact ⟨h1.below hb, h2.below hb, h4.call hb, h5.call hb, bcall h7 hb⟩
theorem Env2.drew (h : Env2 w w' x1 x2 A1 A2 n1 c1 n2 c2 a b) : Env2 w w'.drew x1 x2 A1 A2 n1 c1 n2 c2 a b := by
  obtain ⟨h1, h2, h4, h5, h7⟩ := h
  exact ⟨h1, h2, h4, h5, h7.drew⟩
theorem Env2.ia (h : Env2 w w' x1 x2 A1 A2 n1 c1 n2 c2 a b) : IntAt w' x1 A1 n1 c1 a := h.2.2.1
theorem Env2.ib (h : Env2 w w' x1 x2 A1 A2 n1 c1 n2 c2 a b) : IntAt w' x2 A2 n2 c2 b := h.2.2.2.1
theorem Env2.below (h : Env2 w w' x1 x2 A1 A2 n1 c1 n2 c2 a b) : Below w.heap.size w w' := h.2.2.2.2
theorem Env2.facts (h : Env2 w w' x1 x2 A1 A2 n1 c1 n2 c2 a b) :
    w'.cell? ⟨w.heap.size, 0, none⟩ = some (.bool x1) ∧ w'.cell? ⟨w.heap.size, 1, none⟩ = some (.slice A1 n1 c1) ∧ w'.cell? ⟨w.heap.size + 1, 0, none⟩ = some (.bool x2) ∧ w'.cell? ⟨w.heap.size + 1, 1, none⟩ = some (.slice A2 n2 c2) := by
  obtain ⟨h1, h2, _⟩ := h
  exact ⟨h1.facts.1, h1.facts.2.1, h2.facts.1, h2.facts.2.1⟩
end

theorem light2 {w : World} {x1 x2 : Bool} {A1 A2 : Option Addr} {n1 c1 n2 c2 g : Nat} (hg : g = w.heap.size) (h1 : n1 ≤ 140737488351232) (h2 : n2 ≤ 140737488351232) (b : Bool) (hb : b = decide (n1 + n2 ≤ 60)) :
    Calls Try.prog 4 #[.slice (some ⟨g, 0, none⟩) 2 2] (w.alloc (.cells #[.bool x1, .slice A1 n1 c1, .bool x2, .slice A2 n2 c2] 24)) fun e w' => e = .returned (.bool b) ∧ (w.alloc (.cells #[.bool x1, .slice A1 n1 c1, .bool x2, .slice A2 n2 c2] 24)) = w' := by
  subst hg hb
  have hh := Go.Deep.blk_alloc_new w (.cells #[.bool x1, .slice A1 n1 c1, .bool x2, .slice A2 n2 c2] 24)
  have := light_any w.heap.size 2 2 (fun i => if i = 0 then A1 else A2) (fun i => if i = 0 then n1 else n2) (fun i => if i = 0 then c1 else c2) (w.alloc (.cells #[.bool x1, .slice A1 n1 c1, .bool x2, .slice A2 n2 c2] 24)) (by omega)
    (fun i _ => by by_cases e0 : i = 0 <;> simp [e0] <;> omega)
    (fun i hi => by
      obtain rfl | rfl : i = 0 ∨ i = 1 := by omega
      · unfold World.cell?; rw [hh]; rfl
      · unfold World.cell?; rw [hh]; rfl)
  have e : sumN (fun i => if i = 0 then n1 else n2) 2 = n1 + n2 := by simp [sumN]
  rw [e] at this
  exact this
end Go.Proofs.Ytkhficmehjglmaa

