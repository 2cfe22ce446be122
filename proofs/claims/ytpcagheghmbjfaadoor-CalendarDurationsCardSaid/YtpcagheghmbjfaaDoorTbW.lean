/-
  ParseInt on both sides, at every string.
-/
import Derived.Test.YtpcagheghmbjfaaDoorTbV
set_option linter.unusedVariables false
set_option linter.unusedSimpArgs false
namespace Go.Proofs.YtpcagheghmbjfaaDoor
open Go.RowKit

theorem decN_lt_take {l : List UInt8} (h : l.all dgOk = true) : ∀ k, k ≤ l.length → decN (l.take k) < 10 ^ k
  | 0, _ => by simp [decN]
  | k + 1, hk => by
    have ih := decN_lt_take h k (by omega)
    have hd := dg_at h (k := k) (by omega)
    have e := decN_take (l := l) (k := k) (by omega)
    rw [e, Nat.pow_succ]
    omega
theorem decN_lt {l : List UInt8} (h : l.all dgOk = true) : decN l < 10 ^ l.length := by
  have := decN_lt_take h l.length (Nat.le_refl _)
  rwa [List.take_length] at this
theorem pow_le10 {k n : Nat} (h : k ≤ n) : 10 ^ k ≤ 10 ^ n := Nat.pow_le_pow_right (by omega) h
theorem fold_pos : ∀ (m : List UInt8) (v : Nat), 0 < v → 0 < m.foldl (fun v b => 10 * v + (b.toNat - 48)) v
  | [], v, h => h
  | b :: m, v, h => by rw [List.foldl_cons]; exact fold_pos m (10 * v + (b.toNat - 48)) (by omega)
theorem natB_and {l : List UInt8} (h : natB l = true) : 0 < l.length ∧ l.length ≤ 10 ∧ ((bAt l 0).toNat ≠ 48 ∨ l.length = 1) ∧ l.all dgOk = true := by
  unfold natB at h
  simpa [and_assoc] using h
theorem decN_zero {l : List UInt8} (h : natB l = true) : decN l = 0 ↔ l = [48] := by
  obtain ⟨h1, h2, h3, h4⟩ := natB_and h
  constructor
  · intro h0
    have hd := dg_at h4 (k := 0) h1
    by_cases h5 : (bAt l 0).toNat = 48
    · rcases h3 with h3 | h3
      · exact absurd h5 h3
      · rw [one_b h3]
        congr 1
        exact u8_ex (by rw [h5]; rfl)
    · exfalso
      rw [first_b h1] at h0
      unfold decN at h0
      rw [List.foldl_cons] at h0
      have := fold_pos (l.drop 1) (10 * 0 + ((bAt l 0).toNat - 48)) (by omega)
      omega
  · intro h0; rw [h0]; rfl
theorem parts {l : List UInt8} : (parB l = true ∧ natB (cutB l).1 = true ∧ ((cutB l).2 = false ∨ (cutB l).1 ≠ [48])) ∨ (parB l = false ∧ (natB (cutB l).1 = false ∨ ((cutB l).2 = true ∧ (cutB l).1 = [48]))) := by
  unfold parB
  cases h1 : natB (cutB l).1 with
  | false => right; simp
  | true =>
    cases h2 : (cutB l).2 with
    | false => left; simp
    | true =>
      by_cases h3 : (cutB l).1 = [48]
      · right; rw [h3]; simp
      · left; simp [h3]

end Go.Proofs.YtpcagheghmbjfaaDoor

