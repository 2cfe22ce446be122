/-
  Numbers as lists of digits in base 2^32: the value of a list, the digits of a number, and that both agree.
-/
import Derived.WalkKit
set_option linter.unusedVariables false
set_option linter.unusedSimpArgs false
namespace Go.Proofs.Ytehoafpnmfkniaa
def BB : Nat := 4294967296
theorem BB_eq : BB = 4294967296 := rfl
theorem BB_pos : 0 < BB := by rw [BB_eq]; omega

/-- The value of a list of digits, the lowest first. -/
def val : List Nat → Nat
  | [] => 0
  | d :: r => d + BB * val r

/-- All are digits. -/
def Dig (ds : List Nat) : Prop := ∀ d ∈ ds, d < BB

/-- The digits of a number, the lowest first, none for 0. -/
def digs (n : Nat) : List Nat := if _h : n = 0 then [] else n % BB :: digs (n / BB)
termination_by n
decreasing_by exact Nat.div_lt_self (by omega) (by rw [BB_eq]; omega)

theorem digs_zero : digs 0 = [] := by unfold digs; simp
theorem digs_pos {n : Nat} (h : n ≠ 0) : digs n = n % BB :: digs (n / BB) := by rw [digs]; simp [h]

theorem Dig.nil : Dig [] := by intro d h; simp at h
theorem Dig.cons {d : Nat} {r : List Nat} (h : d < BB) (hr : Dig r) : Dig (d :: r) := by
  intro x hx; rcases List.mem_cons.1 hx with rfl | hx
  · exact h
  · exact hr x hx
theorem Dig.head {d : Nat} {r : List Nat} (h : Dig (d :: r)) : d < BB := h d (by simp)
theorem Dig.tail {d : Nat} {r : List Nat} (h : Dig (d :: r)) : Dig r := fun x hx => h x (by simp [hx])
theorem Dig.append {a b : List Nat} (ha : Dig a) (hb : Dig b) : Dig (a ++ b) := by
  intro x hx; rcases List.mem_append.1 hx with h | h
  · exact ha x h
  · exact hb x h
theorem Dig.take {a : List Nat} (h : Dig a) (n : Nat) : Dig (a.take n) := fun x hx => h x (List.mem_of_mem_take hx)
theorem Dig.drop {a : List Nat} (h : Dig a) (n : Nat) : Dig (a.drop n) := fun x hx => h x (List.mem_of_mem_drop hx)
theorem Dig.getD {a : List Nat} (h : Dig a) (i : Nat) : a.getD i 0 < BB := by
  by_cases hi : i < a.length
  · simp [List.getD, hi]; exact h _ (List.getElem_mem hi)
  · simp [List.getD, Nat.not_lt.1 hi, BB_pos]

theorem dig_digs (n : Nat) : Dig (digs n) := by
  induction n using Nat.strongRecOn with
  | _ n ih =>
    by_cases h : n = 0
    · subst h; rw [digs_zero]; exact Dig.nil
    · rw [digs_pos h]
      exact Dig.cons (Nat.mod_lt _ BB_pos) (ih _ (Nat.div_lt_self (by omega) (by rw [BB_eq]; omega)))

theorem val_digs (n : Nat) : val (digs n) = n := by
  induction n using Nat.strongRecOn with
  | _ n ih =>
    by_cases h : n = 0
    · subst h; rw [digs_zero]; rfl
    · rw [digs_pos h, val, ih _ (Nat.div_lt_self (by omega) (by rw [BB_eq]; omega))]
      exact Nat.mod_add_div n BB

theorem val_append (a b : List Nat) : val (a ++ b) = val a + BB ^ a.length * val b := by
  induction a with
  | nil => simp [val]
  | cons d r ih => simp only [List.cons_append, val, ih, List.length_cons, Nat.pow_succ]; rw [Nat.mul_add, ← Nat.mul_assoc, Nat.mul_comm BB (BB ^ _)]; omega

theorem val_lt {a : List Nat} (h : Dig a) : val a < BB ^ a.length := by
  induction a with
  | nil => simp [val]
  | cons d r ih =>
    have h1 := ih h.tail
    have h2 := h.head
    simp only [val, List.length_cons, Nat.pow_succ]
    have : BB * (val r + 1) ≤ BB * BB ^ r.length := Nat.mul_le_mul_left _ h1
    rw [Nat.mul_add] at this
    rw [Nat.mul_comm (BB ^ r.length)]
    omega

/-- How many digits are left when the leading zero digits are cut off. -/
def trimLen : List Nat → Nat
  | [] => 0
  | d :: r => if trimLen r = 0 ∧ d = 0 then 0 else trimLen r + 1

theorem trimLen_le (a : List Nat) : trimLen a ≤ a.length := by
  induction a with
  | nil => simp [trimLen]
  | cons d r ih => simp only [trimLen, List.length_cons]; split <;> omega

theorem val_zero_of_trimLen {a : List Nat} (h : trimLen a = 0) : val a = 0 := by
  induction a with
  | nil => rfl
  | cons d r ih =>
    simp only [trimLen] at h
    split at h
    · rename_i h'; rw [val, ih h'.1, h'.2]; simp
    · omega

theorem trimLen_pos_val {a : List Nat} (h : trimLen a ≠ 0) : val a ≠ 0 := by
  induction a with
  | nil => simp [trimLen] at h
  | cons d r ih =>
    simp only [trimLen] at h
    rw [val]
    by_cases h1 : trimLen r = 0
    · have : d ≠ 0 := by intro hd; simp [h1, hd] at h
      omega
    · have := ih h1
      have hp : 0 < BB * val r := Nat.mul_pos BB_pos (by omega)
      omega

/-- CUTTING OFF THE LEADING ZEROS GIVES THE DIGITS OF THE VALUE. -/
theorem take_trimLen {a : List Nat} (h : Dig a) : a.take (trimLen a) = digs (val a) := by
  induction a with
  | nil => simp [trimLen, val, digs_zero]
  | cons d r ih =>
    have h1 := ih h.tail
    have h2 := h.head
    by_cases h0 : trimLen r = 0 ∧ d = 0
    · simp only [trimLen, h0, and_self, if_true, List.take_zero]
      rw [val, val_zero_of_trimLen h0.1]; simp [digs_zero]
    · have hv : val (d :: r) ≠ 0 := by
        apply trimLen_pos_val; simp only [trimLen]; rw [if_neg h0]; omega
      simp only [trimLen]
      rw [if_neg h0, digs_pos hv, List.take_succ_cons, h1]
      simp only [val]
      rw [Nat.add_mul_mod_self_left, Nat.mod_eq_of_lt h2, Nat.add_mul_div_left _ _ BB_pos, Nat.div_eq_of_lt h2, Nat.zero_add]

theorem trimLen_length {a : List Nat} (h : Dig a) : trimLen a = (digs (val a)).length := by
  have := congrArg List.length (take_trimLen h)
  rw [List.length_take, Nat.min_eq_left (trimLen_le a)] at this
  exact this

theorem trimLen_digs (n : Nat) : trimLen (digs n) = (digs n).length := by
  rw [trimLen_length (dig_digs n), val_digs]

theorem digs_inj {a b : Nat} (h : digs a = digs b) : a = b := by rw [← val_digs a, ← val_digs b, h]

/-- What one step of the loop that cuts off leading zeros sees. -/
theorem trimLen_snoc_zero (a : List Nat) : trimLen (a ++ [0]) = trimLen a := by
  induction a with
  | nil => simp [trimLen]
  | cons d r ih => simp only [List.cons_append, trimLen, ih]
theorem trimLen_snoc_pos (a : List Nat) {d : Nat} (h : d ≠ 0) : trimLen (a ++ [d]) = a.length + 1 := by
  induction a with
  | nil => simp [trimLen, h]
  | cons e r ih => simp only [List.cons_append, trimLen, ih, List.length_cons]; rw [if_neg (by omega)]
theorem take_snoc {a : List Nat} {k : Nat} (h : k < a.length) : a.take (k + 1) = a.take k ++ [a.getD k 0] := by
  rw [List.take_succ_eq_append_getElem h]; simp [List.getD, h]

theorem trimLen_take_zero {a : List Nat} {k : Nat} (h : k < a.length) (hz : a.getD k 0 = 0) : trimLen (a.take (k + 1)) = trimLen (a.take k) := by
  rw [take_snoc h, hz, trimLen_snoc_zero]
theorem trimLen_take_pos {a : List Nat} {k : Nat} (h : k < a.length) (hz : a.getD k 0 ≠ 0) : trimLen (a.take (k + 1)) = k + 1 := by
  rw [take_snoc h, trimLen_snoc_pos _ hz, List.length_take, Nat.min_eq_left (by omega)]

theorem digs_length_le {n k : Nat} (h : n < BB ^ k) : (digs n).length ≤ k := by
  induction k generalizing n with
  | zero => have : n = 0 := by simp at h; exact h
            subst this; simp [digs_zero]
  | succ k ih =>
    by_cases h0 : n = 0
    · subst h0; simp [digs_zero]
    · rw [digs_pos h0, List.length_cons]
      have : n / BB < BB ^ k := by rw [Nat.div_lt_iff_lt_mul BB_pos]; rw [Nat.pow_succ] at h; exact h
      have := ih this; omega

theorem lt_pow_digs (n : Nat) : n < BB ^ (digs n).length := by
  have := val_lt (dig_digs n); rwa [val_digs] at this

end Go.Proofs.Ytehoafpnmfkniaa
