/-
  The reference's division of digits, bit by bit.
-/
import Derived.Test.YtkhficmehjglmaaRsmall
import Derived.Test.YtkhficmehjglmaaLongB
set_option linter.unusedVariables false
set_option linter.unusedSimpArgs false
namespace Go.Proofs.Ytkhficmehjglmaa
open Go.RowKit

/-- Digits that lie outside of block g. -/
def DgA (w : World) (g : Nat) (A : Option Addr) (n : Nat) (ds : List Nat) : Prop := Dgs w w.heap.size A n ds ∧ (0 < n → ∀ a, A = some a → a.block ≠ g)
section
variable {w w' : World} {g n : Nat} {A : Option Addr} {ds : List Nat}
theorem DgA.call (h : DgA w g A n ds) (hb : Below w.heap.size w w') : DgA w' g A n ds := ⟨(h.1.below hb).more hb.size, h.2⟩
theorem DgA.only (h : DgA w g A n ds) (ho : Only g w w') : DgA w' g A n ds := by
  refine ⟨⟨h.1.1, h.1.2.1, fun hn => ?_⟩, h.2⟩
  obtain ⟨b, off, e, hb, hc⟩ := h.1.2.2 hn
  refine ⟨b, off, e, by rw [ho.size]; exact hb, fun j hj => ?_⟩
  rw [ho.cell (by have := h.2 hn _ e; exact this)]
  exact hc j hj
theorem DgA.new {b : Nat} (h : Dgs w w.heap.size (some ⟨b, 0, none⟩) n ds) (hb : b ≠ g) : DgA w g (some ⟨b, 0, none⟩) n ds :=
  ⟨h, fun _ a e => by cases e; exact hb⟩
end

/-- The numbers of the loop, k rounds being left. -/
def DvN (X Y k Q R D : Nat) : Prop := X = Q * Y + R ∧ R < Y * 2 ^ k ∧ 2 ^ k ∣ Q ∧ D = Y * 2 ^ k / 2

theorem DvN.start {X Y : Nat} (hY : Y ≠ 0) (h : bl Y ≤ bl X) : DvN X Y (bl X - bl Y + 1) 0 X (Y * 2 ^ (bl X - bl Y)) := by
  refine ⟨by omega, ?_, Nat.dvd_zero _, ?_⟩
  · have h1 := lt_bl X
    have h2 := bl_le hY
    have h3 := bl_pos hY
    have h4 : 2 ^ bl X = 2 ^ (bl Y - 1) * 2 ^ (bl X - bl Y + 1) := by rw [← Nat.pow_add]; congr 1; omega
    have := Nat.mul_le_mul_right (2 ^ (bl X - bl Y + 1)) h2
    omega
  · rw [Nat.pow_succ, ← Nat.mul_assoc, Nat.mul_div_cancel _ (by omega)]
theorem DvN.yes {X Y j Q R D : Nat} (h : DvN X Y (j + 1) Q R D) (hD : D ≤ R) : DvN X Y j (Q + 2 ^ j) (R - D) (D / 2) := by
  obtain ⟨h1, h2, h3, h4⟩ := h
  have e : D = Y * 2 ^ j := by rw [h4, Nat.pow_succ, ← Nat.mul_assoc, Nat.mul_div_cancel _ (by omega)]
  rw [Nat.pow_succ, ← Nat.mul_assoc, ← e] at h2
  refine ⟨?_, by rw [← e]; omega, ?_, by rw [e]⟩
  · rw [Nat.add_mul, Nat.mul_comm (2 ^ j), ← e]; omega
  · exact Nat.dvd_add (Nat.dvd_trans (Nat.pow_dvd_pow 2 (by omega)) h3) (Nat.dvd_refl _)
theorem DvN.no {X Y j Q R D : Nat} (h : DvN X Y (j + 1) Q R D) (hD : R < D) : DvN X Y j Q R (D / 2) := by
  obtain ⟨h1, h2, h3, h4⟩ := h
  have e : D = Y * 2 ^ j := by rw [h4, Nat.pow_succ, ← Nat.mul_assoc, Nat.mul_div_cancel _ (by omega)]
  exact ⟨h1, by rw [← e]; exact hD, Nat.dvd_trans (Nat.pow_dvd_pow 2 (by omega)) h3, by rw [e]⟩
theorem DvN.last {X Y Q R D : Nat} (h : DvN X Y 0 Q R D) : X / Y = Q ∧ X % Y = R := by
  obtain ⟨h1, h2, _, _⟩ := h
  rw [Nat.pow_zero, Nat.mul_one] at h2
  have hY : 0 < Y := by omega
  rw [h1]
  constructor
  · rw [Nat.add_comm, Nat.mul_comm, Nat.add_mul_div_left _ _ hY, Nat.div_eq_of_lt h2]; omega
  · rw [Nat.add_comm, Nat.mul_comm, Nat.add_mul_mod_self_left, Nat.mod_eq_of_lt h2]
theorem DvN.dle {X Y N k Q R D : Nat} (h : DvN X Y k Q R D) (hk : k ≤ N + 1) : D ≤ Y * 2 ^ N := by
  have h4 := h.2.2.2
  have h5 : Y * 2 ^ k ≤ Y * 2 ^ (N + 1) := Nat.mul_le_mul_left Y (Nat.pow_le_pow_right (by omega) hk)
  rw [Nat.pow_succ, ← Nat.mul_assoc] at h5
  omega
theorem DvN.le {X Y k Q R D : Nat} (h : DvN X Y k Q R D) : R ≤ X := by have := h.1; have := Nat.zero_le (Q * Y); omega
/-- The digit that is to be changed. -/
theorem dv_digit {Q j m s z : Nat} {zs : List Nat} (hQ : val zs = Q) (hz : z = zs.getD m 0) (hd : Dig zs) (hm : m < zs.length) (hj : j = 32 * m + s) (hs : s < 32) (h : 2 ^ (j + 1) ∣ Q) :
    2 ^ (s + 1) ∣ z ∧ z + 2 ^ s < BB ∧ BB ^ m * 2 ^ s = 2 ^ j := by
  have e1 : 2 ^ (j + 1) = BB ^ m * 2 ^ (s + 1) := by rw [BB_pow, ← Nat.pow_add]; congr 1; omega
  have hzl := hd.getD m
  rw [← hz] at hzl
  have h1 : val zs = val (zs.take m) + BB ^ m * val (zs.drop m) := by
    conv => lhs; rw [← List.take_append_drop m zs]
    rw [val_append, List.length_take, Nat.min_eq_left (by omega)]
  have h2 := val_drop zs m
  rw [← hz] at h2
  have hlt := val_take_lt hd m (by omega)
  obtain ⟨a, ha⟩ := h
  rw [e1] at ha
  have h0 : val (zs.take m) = 0 := by
    have : BB ^ m ∣ val (zs.take m) := by
      have e : val (zs.take m) = Q - BB ^ m * val (zs.drop m) := by omega
      rw [e, ha]
      exact Nat.dvd_sub (by rw [Nat.mul_assoc]; exact Nat.dvd_mul_right _ _) (Nat.dvd_mul_right _ _)
    exact Nat.eq_zero_of_dvd_of_lt this hlt
  have hp : 0 < BB ^ m := Nat.pow_pos BB_pos
  have h3 : val (zs.drop m) = 2 ^ (s + 1) * a := by
    apply Nat.eq_of_mul_eq_mul_left hp
    rw [← Nat.mul_assoc, ← ha]; omega
  have hB : BB = 2 ^ (s + 1) * 2 ^ (31 - s) := by rw [← Nat.pow_add, show s + 1 + (31 - s) = 32 by omega]; rfl
  have h4 : 2 ^ (s + 1) ∣ z := by
    have e : z = val (zs.drop m) - BB * val (zs.drop (m + 1)) := by omega
    rw [e, h3]
    refine Nat.dvd_sub (Nat.dvd_mul_right _ _) ?_
    rw [hB, Nat.mul_assoc]; exact Nat.dvd_mul_right _ _
  refine ⟨h4, ?_, by rw [BB_pow, ← Nat.pow_add]; congr 1; omega⟩
  obtain ⟨q, hq⟩ := h4
  rw [hq] at hzl ⊢
  rw [hB] at hzl ⊢
  have h5 : q < 2 ^ (31 - s) := Nat.lt_of_mul_lt_mul_left hzl
  have h6 : 2 ^ (s + 1) * (q + 1) ≤ 2 ^ (s + 1) * 2 ^ (31 - s) := Nat.mul_le_mul_left (2 ^ (s + 1)) h5
  rw [Nat.mul_add] at h6
  have : 2 ^ (s + 1) = 2 ^ s * 2 := Nat.pow_succ _ _
  have := Nat.pow_pos (n := s) (show 0 < 2 by omega)
  omega

/-- Nothing is appended to nil. -/
theorem run_append_nothing {P : Program} {w : World} (t ty e : TypeId) (i : TypeInfo) (ht : P.underlying t = some (.slice e)) (hi : P.info? e = some i) (A : Option Addr) (c : Nat) :
    (Builtin.append_ #[t, t] ty #[.slice none 0 0, .slice A 0 c]).run P w = .ok (.slice none 0 0) w := by
  cases A <;> simp [Builtin.append_, run_underlying ht, sizeOf, typeInfo, hi, Builtin.lenOf, Builtin.firstCells, loadCells, loadCellsFrom]
theorem wpList_append_nothing {P : Program} {w : World} {ops : Array Oper} {rest : List Oper} {o : Oper} {a : Act} {Q : Exit → Act → World → Prop} (hgd : o.guard = none) (s x : Operand) (t : TypeId)
    (ho : o.op = .call { callee := .builtin .append, args := #[s, x], argTypes := #[t, t] }) (e : TypeId) (i : TypeInfo) (ht : P.underlying t = some (.slice e)) (hi : P.info? e = some i)
    (A : Option Addr) (c : Nat) (hs : a.eval s = .slice none 0 0) (hx : a.eval x = .slice A 0 c)
    (h : wpList P ops Q rest (a.put o.dst (.slice none 0 0)) w) : wpList P ops Q (o :: rest) a w := by
  refine wpList_plain hgd fun K hK => ?_
  have hrun := run_append_nothing (P := P) (w := w) t o.type e i ht hi A c
  unfold Oper.wp
  simp [execOp, ho, resolve, invoke, builtin, hs, hx, hrun, Result.andThen]
  exact hK _ _ h

theorem dgsN {w : World} {B n : Nat} {A : Option Addr} {ds : List Nat} (h : Dgs w B A n ds) {k : Nat} (hk : val ds < BB ^ k) (hd : ds = digs (val ds)) : n ≤ k := by
  rw [← h.len, hd]; exact digs_length_le hk

/-- The head of the loop, k rounds being left. -/
def DvI (w wr : World) (gq X Y N k : Nat) (Ar : Option Addr) (nr cr : Nat) (Ad : Option Addr) (nd cd : Nat) : Prop :=
  ∃ Q R D zs, DvN X Y k Q R D ∧ Row wr gq zs ∧ zs.length = N / 32 + 1 ∧ Dig zs ∧ val zs = Q ∧ DgA wr gq Ar nr (digs R) ∧ DgA wr gq Ad nd (digs D) ∧ nr ≤ cr ∧ cr ≤ maxLen ∧ nd ≤ cd ∧ cd ≤ maxLen ∧ w.heap.size ≤ gq ∧ Below w.heap.size w wr

end Go.Proofs.Ytkhficmehjglmaa

