/-
  The long division does what it should, for every divisor.
-/
import Derived.Test.YtehoafpnmfkniaaLong3
import Derived.Test.YtehoafpnmfkniaaDivD
set_option linter.unusedVariables false
set_option linter.unusedSimpArgs false
namespace Go.Proofs.Ytehoafpnmfkniaa
open Go.RowKit

theorem digs_top {y k : Nat} (h : (digs y).length = k + 1) : 0 < (digs y).getD k 0 := by
  rcases Nat.eq_zero_or_pos ((digs y).getD k 0) with h0 | h0
  · have h1 := val_take_any (digs y) k
    rw [List.take_of_length_le (by omega), val_digs, h0, Nat.mul_zero, Nat.add_zero] at h1
    have h2 := val_lt ((dig_digs y).take k)
    rw [List.length_take, Nat.min_eq_left (by omega), ← h1] at h2
    have := digs_length_le h2
    omega
  · exact h0

theorem longOk (y : Nat) : LongOk y := by
  intro A A' n n' c c' x w h1 h2 _ _ _ _ hs h3 hxy
  obtain ⟨m, rfl⟩ : ∃ m, n' = m + 2 := ⟨n' - 2, by omega⟩
  have hl : (digs y).length ≤ (digs x).length := by
    rcases Nat.lt_or_ge (digs x).length (digs y).length with h | h
    · have := digs_len_lt h
      omega
    · exact h
  rw [h1.len, h2.len] at hl
  have := divLong_any A A' n m c c' (digs x) (digs y) w h1 h2 hs hl (digs_top h2.len)
  rwa [val_digs, val_digs] at this
end Go.Proofs.Ytehoafpnmfkniaa
