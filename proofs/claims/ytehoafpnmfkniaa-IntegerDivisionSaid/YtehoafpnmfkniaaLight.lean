/-
  The laws' own bound on sizes.
-/
import Derived.Test.YtehoafpnmfkniaaRow
set_option linter.unusedVariables false
set_option linter.unusedSimpArgs false
namespace Go.Proofs.Ytehoafpnmfkniaa
open Go.RowKit

/-- The sum of the first lengths. -/
def sumN (N : Nat → Nat) : Nat → Nat
  | 0 => 0
  | k + 1 => sumN N k + N k
theorem sumN_le {N : Nat → Nat} {l : Nat} (h : ∀ i, i < l → N i ≤ 140737488351232) : ∀ k, k ≤ l → sumN N k ≤ k * 140737488351232
  | 0, _ => by simp [sumN]
  | k + 1, hk => by
    have h1 := sumN_le h k (by omega)
    have h2 := h k (by omega)
    simp only [sumN]
    omega

set_option maxRecDepth 100000 in
theorem light_any (g l c : Nat) (A : Nat → Option Addr) (N C : Nat → Nat) (w : World) (hl : l ≤ 100) (hN : ∀ i, i < l → N i ≤ 140737488351232)
    (hc : ∀ i, i < l → w.cell? ⟨g, i * 2 + 1, none⟩ = some (.slice (A i) (N i) (C i))) :
    Calls Try.prog 16 #[.slice (some ⟨g, 0, none⟩) l c] w fun e w' => e = .returned (.bool (decide (sumN N l ≤ 60))) ∧ w = w' := by
  go_enter Try.func16, Try.ntmps16
  go_wp2
  go_loop [3, 4] (fun s i => ∃ k : Nat, k ≤ l ∧ i = .int .i64 k ∧ s = .int .i64 (sumN N k)) (fun _ i => l - (intOf i).toNat)
  case atStart => exact ⟨0, Nat.zero_le _, rfl, rfl⟩
  case round =>
    obtain ⟨k, hk, rfl, rfl⟩ := hrel
    have hb := sumN_le hN k hk
    have hb2 : sumN N k ≤ 14073748835123200 := by omega
    clear hb
    by_cases hkl : k < l
    · have hx := hc k hkl
      have hn := hN k hkl
      have i0 : (0 : Int) ≤ (k : Int) := by omega
      have i1 : (k : Int) < (l : Int) := by omega
      go_wp2
      go_round
      case rel => exact ⟨k + 1, by omega, by go_num, int_val (by simp [sumN])⟩
      case measure => simp [intOf]; omega
    · obtain rfl : k = l := by omega
      go_wp2
      go_ret
      exact ⟨congrArg (fun b => Ending.returned (.bool b)) (show decide ((sumN N k : Int) ≤ 60) = decide (sumN N k ≤ 60) from decide_eq_decide.2 (by omega)), rfl⟩
end Go.Proofs.Ytehoafpnmfkniaa
