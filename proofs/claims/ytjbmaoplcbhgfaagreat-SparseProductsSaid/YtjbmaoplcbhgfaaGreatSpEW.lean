/-
  The walk of the law SparseBack.
-/
import Derived.Test.YtjbmaoplcbhgfaaGreatSpDW
import Derived.Deep.RegionHeld3
set_option linter.unusedVariables false
set_option linter.unusedSimpArgs false
namespace Go.Proofs.YtjbmaoplcbhgfaaGreat
open Go.RowKit

/-- An entry with its canonical value. -/
def VE.cn (x : VE) : Int × Int × Int := (x.k, rn x.e.a x.e.b, rd x.e.a x.e.b)
/-- What FromDense answers, out of the values alone. -/
def fdP : Int → List (Int × Int) → List (Int × Int × Int)
  | _, [] => []
  | i, p :: l => (if sgn p.1 * sgn p.2 = 0 then [] else [(i, rn p.1 p.2, rd p.1 p.2)]) ++ fdP (i + 1) l
theorem fdV_P (i : Int) (l : List FE) : fdV i l = fdP i (l.map FE.v) := by
  induction l generalizing i with
  | nil => rfl
  | cons e l ih => unfold fdV; rw [ih, List.map_cons]; rfl
theorem sgn_zero {z : Int} : sgn z = 0 ↔ z = 0 := by
  unfold sgn cmpI
  constructor
  · intro h
    split at h
    · cases h
    · split at h
      · cases h
      · omega
  · rintro rfl; rfl
theorem atV_tail {x : VE} {l : List VE} {i : Int} (h : x.k ≠ i) : atV (x :: l) i = atV l i := by
  conv => lhs; unfold atV
  rw [if_neg h]
theorem atV_far {l : List VE} {i : Int} (h : ∀ x ∈ l, x.k ≠ i) : atV l i = (0, 1) := by
  induction l with
  | nil => rfl
  | cons x l ih => rw [atV_tail (h x (by simp))]; exact ih fun y hy => h y (by simp [hy])
theorem fd_dense (n : Nat) : ∀ (m j : Nat) (v : List VE) (b : Int), vrest n b v = 0 → (∀ x ∈ v, (j : Int) ≤ x.k) → j + m = n →
    fdP j ((List.range m).map fun i => atV v ((j + i : Nat) : Int)) = v.map VE.cn := by
  intro m
  induction m with
  | zero =>
    intro j v b h hj hm
    cases v with
    | nil => rfl
    | cons x v =>
      have h1 := vrest_zero h x (by simp)
      have h2 := hj x (by simp)
      omega
  | succ m ih =>
    intro j v b h hj hm
    rw [List.range_succ_eq_map, List.map_cons, List.map_map, Nat.add_zero]
    have hshift : ∀ u : List VE, ((fun i => atV u ((j + i : Nat) : Int)) ∘ Nat.succ) = fun i => atV u ((j + 1 + i : Nat) : Int) := by
      intro u
      funext i
      show atV u ((j + (i + 1) : Nat) : Int) = _
      rw [show j + (i + 1) = j + 1 + i by omega]
    rw [hshift]
    unfold fdP
    have hj1 : ((j : Int) + 1) = ((j + 1 : Nat) : Int) := by omega
    rw [hj1]
    by_cases hx : ∃ x v', v = x :: v' ∧ x.k = j
    · obtain ⟨x, v', rfl, hk⟩ := hx
      have ht := vrest_tail h
      have hgt := fun y hy => (vrest_zero ht y hy).1
      have h1 := vrest_zero h x (by simp)
      have hat : atV (x :: v') (j : Int) = (rn x.e.a x.e.b, rd x.e.a x.e.b) := by unfold atV; rw [if_pos hk]
      rw [hat]
      have hne : sgn (rn x.e.a x.e.b) * sgn (rd x.e.a x.e.b) ≠ 0 := by
        intro h0
        rcases Int.mul_eq_zero.1 h0 with h0 | h0
        · rw [sgn_rn] at h0; exact h1.2.2.2 h0
        · have := rd_pos x.e.a x.e.b
          rw [sgn_zero] at h0
          omega
      have hs := r_self (rd_pos x.e.a x.e.b) (rn_gcd x.e.a x.e.b)
      simp only [if_neg hne, hs.1, hs.2]
      rw [List.map_cons]
      have hfun : (fun i => atV (x :: v') ((j + 1 + i : Nat) : Int)) = fun i => atV v' ((j + 1 + i : Nat) : Int) := by
        funext i
        exact atV_tail (by omega)
      rw [hfun, ih (j + 1) v' x.k ht (fun y hy => by have := hgt y hy; omega) (by omega)]
      show [((j : Int), rn x.e.a x.e.b, rd x.e.a x.e.b)] ++ v'.map VE.cn = VE.cn x :: v'.map VE.cn
      unfold VE.cn
      rw [hk]
      rfl
    · have hgt : ∀ y ∈ v, ((j + 1 : Nat) : Int) ≤ y.k := by
        intro y hy
        cases v with
        | nil => cases hy
        | cons x v' =>
          have hxj : x.k ≠ j := fun e => hx ⟨x, v', rfl, e⟩
          have hx2 := hj x (by simp)
          rcases List.mem_cons.1 hy with rfl | hy
          · omega
          · have := (vrest_zero (vrest_tail h) y hy).1
            omega
      have hat : atV v (j : Int) = (0, 1) := atV_far fun y hy => by have := hgt y hy; omega
      rw [hat]
      rw [if_pos (by rfl), List.nil_append]
      exact ih (j + 1) v b h hgt (by omega)
theorem back_math {v : List VE} {n : Int} (h : valid v n = 0) {l : List FE} (hl : l.map FE.v = tdV v n) : fdV 0 l = v.map VE.cn := by
  obtain ⟨h0, h1, h2⟩ := valid_zero h
  obtain ⟨N, rfl⟩ : ∃ N : Nat, n = N := ⟨n.toNat, by omega⟩
  rw [fdV_P, hl]
  unfold tdV
  rw [if_pos h, Int.toNat_natCast]
  have := fd_dense N N 0 v (-1) h2 (fun x hx => by have := vrest_zero h2 x hx; omega) (by omega)
  unfold dnV
  simpa using this

end Go.Proofs.YtjbmaoplcbhgfaaGreat

