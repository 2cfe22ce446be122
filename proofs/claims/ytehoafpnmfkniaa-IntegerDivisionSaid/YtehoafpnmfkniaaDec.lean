/-
  Decimal digits.
-/
import Derived.Test.YtehoafpnmfkniaaDivS
import Derived.Laws.IdiomStrings
set_option linter.unusedVariables false
set_option linter.unusedSimpArgs false
namespace Go.Proofs.Ytehoafpnmfkniaa
open Go.RowKit

/-- The decimal digit of a number below 10. -/
def dch (d : Nat) : UInt8 := UInt8.ofNat (48 + d)
theorem dch_toNat {d : Nat} (h : d < 10) : (dch d).toNat = 48 + d := by simp [dch, UInt8.toNat_ofNat']; omega

/-- The lowest k decimal digits. -/
def pad : Nat → Nat → List UInt8
  | 0, _ => []
  | k + 1, v => pad k (v / 10) ++ [dch (v % 10)]
theorem pad_length (k v : Nat) : (pad k v).length = k := by
  induction k generalizing v with
  | zero => rfl
  | succ k ih => simp [pad, ih]
theorem pad_front (k v : Nat) : pad (k + 1) v = dch (v / 10 ^ k % 10) :: pad k v := by
  induction k generalizing v with
  | zero => simp [pad]
  | succ k ih =>
    rw [pad, ih, Nat.div_div_eq_div_mul, Nat.mul_comm 10, ← Nat.pow_succ]
    simp [pad]
theorem pad_drop (v k m : Nat) (h : m ≤ k) : (pad k v).drop (k - m) = pad m v := by
  induction k with
  | zero => have : m = 0 := by omega
            subst this; rfl
  | succ k ih =>
    by_cases e : m = k + 1
    · subst e; simp
    · rw [pad_front, show k + 1 - m = (k - m) + 1 by omega, List.drop_succ_cons, ih (by omega)]

/-- The decimal notation. -/
def decs (v : Nat) : List UInt8 := if _h : v < 10 then [dch v] else decs (v / 10) ++ [dch (v % 10)]
termination_by v
decreasing_by omega
theorem pad_decs (m v : Nat) (h1 : v < 10 ^ (m + 1)) (h2 : 10 ^ m ≤ v) : pad (m + 1) v = decs v := by
  induction m generalizing v with
  | zero =>
    rw [decs, dif_pos (by simpa using h1)]
    simp [pad, Nat.mod_eq_of_lt (show v < 10 by simpa using h1)]
  | succ m ih =>
    have hp : 10 ≤ v := by
      have : 10 ^ 1 ≤ 10 ^ (m + 1) := Nat.pow_le_pow_right (by omega) (by omega)
      omega
    rw [decs, dif_neg (by omega), pad, ih]
    · rw [Nat.div_lt_iff_lt_mul (by omega), ← Nat.pow_succ]; exact h1
    · rw [Nat.le_div_iff_mul_le (by omega), ← Nat.pow_succ]; exact h2

def bcellv (c : UInt8) : Value := .int .u8 (c.toNat : Nat)
/-- Block b is a row of bytes of its own. -/
def BRow (w : World) (b : Nat) (ls : List UInt8) : Prop := w.heap[b]? = some (.cells (ls.map bcellv).toArray 5 (0, 0))
section
variable {w w' : World} {b : Nat} {ls : List UInt8}
theorem BRow.lt (h : BRow w b ls) : b < w.heap.size := by
  rcases Nat.lt_or_ge b w.heap.size with hlt | hge
  · exact hlt
  · unfold BRow at h; rw [Array.getElem?_eq_none hge] at h; cases h
theorem BRow.cell (h : BRow w b ls) {j : Nat} (hj : j < ls.length) : w.cell? ⟨b, j, none⟩ = some (.int .u8 ((ls[j]).toNat : Nat)) := by
  unfold BRow at h
  simp [World.cell?, h, hj, bcellv]
theorem BRow.frozen (h : BRow w b ls) (j : Nat) : w.frozen? ⟨b, j, none⟩ = false := by
  unfold BRow at h
  simp [World.frozen?, h]
theorem BRow.of_block (h : BRow w b ls) (hb : w'.heap[b]? = w.heap[b]?) : BRow w' b ls := hb.trans h
theorem BRow.set (h : BRow w b ls) (i : Nat) (v : UInt8) {z : Int} (hz : z = (v.toNat : Nat)) : BRow (w.setCell ⟨b, i, none⟩ (.int .u8 z)) b (ls.set i v) := by
  subst hz
  unfold BRow at h ⊢
  have e : (((ls.set i v).map bcellv).toArray) = ((ls.map bcellv).toArray).setIfInBounds i (bcellv v) := by
    apply Array.ext'
    simp [List.map_set]
  rw [e]
  simp [World.setCell, Array.getElem?_modify, h, bcellv]
theorem BRow.made (w : World) (n : Nat) : BRow (w.alloc (.cells (madeCells #[.int .u8 0] n) 5)) w.heap.size (List.replicate n 0) := by
  have e : (((List.replicate n (0 : UInt8)).map bcellv).toArray) = madeCells #[.int .u8 0] n := by
    apply Array.ext
    · simp [size_madeCells]
    · intro i h1 h2
      simp [size_madeCells] at h2
      simp [madeCells, bcellv, Nat.mod_one]
  unfold BRow
  rw [e]
  exact Go.Deep.blk_alloc_new _ _
end
theorem set_before (p : Nat) (x : UInt8) (l : List UInt8) : (List.replicate (p + 1) (0 : UInt8) ++ l).set p x = List.replicate p 0 ++ (x :: l) := by
  rw [List.replicate_succ', List.append_assoc, List.set_append_right _ _ (by simp)]
  simp
theorem u8_info : (Try.prog.info? 5).map (fun i => (i.zero, i.size, i.bytes)) = some (some (.int .u8 0), 1, 1) := by kernel_rfl

end Go.Proofs.Ytehoafpnmfkniaa
