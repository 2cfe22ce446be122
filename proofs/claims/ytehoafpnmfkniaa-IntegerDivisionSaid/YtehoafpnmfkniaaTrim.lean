/-
  Cutting off leading zero digits.
-/
import Derived.Test.YtehoafpnmfkniaaMem
set_option linter.unusedVariables false
set_option linter.unusedSimpArgs false
namespace Go.Proofs.Ytehoafpnmfkniaa
open Go.RowKit
set_option maxRecDepth 100000 in
theorem trim_any (A : Option Addr) (n c B : Nat) (ds : List Nat) (w : World) (h : Dgs w B A n ds) (hc : n ≤ c) (hm : c ≤ maxLen) :
    Calls Try.prog 99 #[.slice A n c] w fun e w' => e = .returned (.slice A (trimLen ds) (trimLen ds)) ∧ w = w' := by
  unfold maxLen at hm
  have hl := h.len
  go_enter Try.func99, Try.ntmps99
  go_wp2
  go_loop [3] (fun i => ∃ k : Nat, k ≤ n ∧ i = .int .i64 k ∧ trimLen (ds.take k) = trimLen ds) (fun i => (intOf i).toNat)
  case atStart => exact ⟨n, Nat.le_refl _, rfl, by rw [List.take_of_length_le (by omega)]⟩
  case round =>
    obtain ⟨k, hk, rfl, ht⟩ := hrel
    have HT := Lib.hid ht; clear ht
    by_cases hk0 : k = 0
    · subst hk0
      go_wp2
      go_ret
      have ht := HT.out
      simp [trimLen] at ht
      exact ⟨by rw [← ht]; rfl, rfl⟩
    · obtain ⟨b, off, rfl, _, hcell⟩ := h.at_ (by omega)
      obtain ⟨j, rfl⟩ : ∃ j, k = j + 1 := ⟨k - 1, by omega⟩
      have hx : w.cell? ⟨b, off + j, none⟩ = some (.int .u32 (ds.getD j 0 : Nat)) := hcell j (by omega)
      obtain ⟨x, HX⟩ : ∃ x, Hid (x = ds.getD j 0) := ⟨_, rfl⟩
      rw [← HX.out] at hx
      clear hcell
      by_cases hz : x = 0
      · subst hz
        go_wp2
        go_round
        case rel => exact ⟨j, by omega, rfl, by rw [← HT.out]; exact (trimLen_take_zero (by omega) HX.out.symm).symm⟩
        case measure => simp [intOf]
      · go_wp2
        go_ret
        have e : trimLen ds = j + 1 := by rw [← HT.out]; exact trimLen_take_pos (by omega) (by rw [← HX.out]; exact hz)
        exact ⟨by rw [e]; rfl, rfl⟩
end Go.Proofs.Ytehoafpnmfkniaa
