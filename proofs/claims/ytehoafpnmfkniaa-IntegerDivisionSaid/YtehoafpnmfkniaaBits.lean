/-
  Leading zero bits.
-/
import Derived.Test.YtehoafpnmfkniaaWord
import Derived.Shelf.Small.Bits
import Derived.Lib.ItoaNum
set_option linter.unusedVariables false
set_option linter.unusedSimpArgs false
namespace Go.Proofs.Ytehoafpnmfkniaa
open Go.RowKit

def bitsRen : Go.Shelf.Ren := ⟨fun n => if n = 128 then 143 else 150, fun t => if t = 3 then 3 else if t = 4 then 4 else if t = 5 then 5 else if t = 9 then 9 else if t = 46 then 78 else 74, fun g => g⟩
theorem bits_lays : Lays.n133 Try.prog bitsRen where
  mixed := by kernel_rfl
  f128 := Try.func143.trans (congrArg some (by kernel_rfl))
  f133 := Try.func150.trans (congrArg some (by kernel_rfl))
  t3 := by kernel_rfl
  a3 := fun _ => by kernel_rfl
  z3 := fun _ => by kernel_rfl
  v3 := fun _ => by kernel_rfl
  t4 := by kernel_rfl
  a4 := fun _ => by kernel_rfl
  z4 := fun _ => by kernel_rfl
  v4 := fun _ => by kernel_rfl
  t5 := by kernel_rfl
  a5 := fun _ => by kernel_rfl
  z5 := fun _ => by kernel_rfl
  v5 := fun _ => by kernel_rfl
  t9 := by kernel_rfl
  a9 := fun _ => by kernel_rfl
  z9 := fun _ => by kernel_rfl
  v9 := fun _ => by kernel_rfl
  t46 := by kernel_rfl
  a46 := fun _ => by kernel_rfl
  z46 := fun _ => by kernel_rfl
  v46 := fun _ => by kernel_rfl
  t51 := by kernel_rfl
  a51 := fun _ => by kernel_rfl
  z51 := fun _ => by kernel_rfl
  v51 := fun _ => by kernel_rfl

/-- How many zero bits a digit that is not 0 begins with: shifted by them it has its top bit set. -/
theorem leading_any (x : Nat) (h0 : 0 < x) (hx : x < 4294967296) :
    ∃ s : Nat, s ≤ 31 ∧ x * 2 ^ s < 4294967296 ∧ 2147483648 ≤ x * 2 ^ s ∧ ∀ w : World, Calls Try.prog 150 #[.int .u32 x] w fun e w' => e = .returned (.int .i64 s) ∧ w = w' := by
  have H := fun w => Any.bits_LeadingZeros32 bits_lays (x : Int) w (by omega) (by omega)
  have hB : 1 ≤ Lib.bitLen x ∧ 2 ^ (Lib.bitLen x - 1) ≤ x ∧ x < 2 ^ Lib.bitLen x := Lib.bitLenAux_bounds 64 x (by omega) (by omega)
  have hL := Lib.bitLen_le x 32 (by omega) (by omega)
  rw [Int.toNat_natCast] at H
  generalize Lib.bitLen x = L at hB hL H
  obtain ⟨b1, b2, b3⟩ := hB
  have p1 := Nat.mul_lt_mul_of_pos_right b3 (Nat.pow_pos (n := 32 - L) (show 0 < 2 by omega))
  have p2 := Nat.mul_le_mul_right (2 ^ (32 - L)) b2
  rw [← Nat.pow_add] at p1 p2
  rw [show L + (32 - L) = 32 by omega] at p1
  rw [show L - 1 + (32 - L) = 31 by omega] at p2
  have e : (32 : Int) - (L : Int) = ((32 - L : Nat) : Int) := by omega
  refine ⟨32 - L, by omega, p1, p2, fun w => (H w).mono fun e' w' ⟨h1, h2⟩ => ⟨by rw [h1, e], h2.symm⟩⟩
end Go.Proofs.Ytehoafpnmfkniaa
