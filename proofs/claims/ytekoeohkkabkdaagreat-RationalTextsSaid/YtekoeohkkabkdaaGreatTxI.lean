/-
  Texts of integers: what the text of an integer reads as.
-/
import Derived.Test.YtekoeohkkabkdaaGreatTxH
import Derived.Test.YtekoeohkkabkdaaGreatForm2
set_option linter.unusedVariables false
set_option linter.unusedSimpArgs false
namespace Go.Proofs.YtekoeohkkabkdaaGreat
open Go.RowKit

theorem dch_nat {d : Nat} (h : d < 10) : (dch d).toNat = d + 48 := by rw [dch_toNat h]; omega
theorem decs_big {v : Nat} (h : 10 ≤ v) : decs v = decs (v / 10) ++ [dch (v % 10)] := by rw [decs, dif_neg (by omega)]
/-- What is known of the digits of a number. -/
theorem decs_ok : ∀ v : Nat, 0 < (decs v).length ∧ allD (decs v) = true ∧ decV (decs v) = v ∧ (0 < v → (byteAt (decs v) 0).toNat ≠ 48) := by
  intro v
  induction v using Nat.strongRecOn with
  | ind v ih =>
    by_cases h : v < 10
    · rw [decs_small h]
      have h1 := dch_nat h
      refine ⟨by simp, ?_, ?_, ?_⟩
      · simp [allD, isD, h1]; omega
      · show 10 * 0 + ((dch v).toNat - 48) = v
        rw [h1]; omega
      · intro h2
        show (dch v).toNat ≠ 48
        rw [h1]; omega
    · rw [decs_big (by omega)]
      obtain ⟨i1, i2, i3, i4⟩ := ih (v / 10) (by omega)
      have h1 := dch_nat (show v % 10 < 10 by omega)
      refine ⟨by simp, ?_, ?_, ?_⟩
      · unfold allD at *
        rw [List.all_append, i2]
        simp [isD, h1]; omega
      · rw [decV_snoc, i3, h1]; omega
      · intro _
        have h2 : byteAt (decs (v / 10) ++ [dch (v % 10)]) 0 = byteAt (decs (v / 10)) 0 := by
          unfold byteAt
          simp [List.getD, List.getElem?_append, i1]
        rw [h2]
        exact i4 (by omega)
theorem decs_one {v : Nat} (h : (decs v).length = 1) : v < 10 := by
  rcases Nat.lt_or_ge v 10 with h1 | h1
  · exact h1
  · rw [decs_big h1, List.length_append] at h
    have := (decs_ok (v / 10)).1
    simp at h
    rw [h] at this
    simp at this
theorem decs_decB (v : Nat) : decB (decs v) = true := by
  obtain ⟨i1, i2, i3, i4⟩ := decs_ok v
  unfold decB
  rw [i2]
  rcases Nat.eq_zero_or_pos v with h | h
  · subst h; rw [decs_small (by omega)]; rfl
  · have := i4 h
    simp [i1, this]
theorem decs_zero {v : Nat} (h : decs v = [48]) : v = 0 := by
  have := (decs_ok v).2.2.1
  rw [h] at this
  exact this.symm
theorem decs_cut (v : Nat) : cutV (decs v) = (decs v, false) := by
  unfold cutV
  rw [if_neg]
  rintro ⟨h1, h2⟩
  have := allD_at (decs_ok v).2.1 (k := 0) h1
  omega
theorem cut_neg (m : List UInt8) : cutV (45 :: m) = (m, true) := by
  unfold cutV
  rw [if_pos ⟨by simp, rfl⟩]
  rfl
theorem parE_decZ (z : Int) : parE (decZ z) = if 400 < (decZ z).length then 10 else 0 := by
  unfold parE
  by_cases hb : 400 < (decZ z).length
  · rw [if_pos hb, if_pos hb]
  · rw [if_neg hb, if_neg hb]
    rw [if_pos]
    unfold decZ
    by_cases hz : z < 0
    · rw [if_pos hz, cut_neg]
      refine ⟨decs_decB _, ?_⟩
      rintro ⟨_, h⟩
      have := decs_zero h
      omega
    · rw [if_neg hz, decs_cut]
      exact ⟨decs_decB _, fun h => Bool.noConfusion h.1⟩
theorem parZ_decZ (z : Int) : parZ (decZ z) = if 400 < (decZ z).length then 0 else z := by
  unfold parZ
  rw [parE_decZ]
  by_cases hb : 400 < (decZ z).length
  · rw [if_pos hb, if_pos hb]; rfl
  · rw [if_neg hb, if_neg hb, if_pos rfl]
    unfold decZ
    by_cases hz : z < 0
    · rw [if_pos hz, cut_neg]
      show zOf true (decV (decs z.natAbs)) = z
      rw [(decs_ok _).2.2.1]
      unfold zOf; simp; omega
    · rw [if_neg hz, decs_cut]
      show zOf false (decV (decs z.natAbs)) = z
      rw [(decs_ok _).2.2.1]
      unfold zOf; simp; omega
end Go.Proofs.YtekoeohkkabkdaaGreat

