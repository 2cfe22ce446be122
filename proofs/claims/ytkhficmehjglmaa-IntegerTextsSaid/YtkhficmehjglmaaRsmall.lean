/-
  The reference's number of bits, shifts by bits to the left and by one bit to the right.
  The reference's shift by one bit to the right.
  The reference's difference of digits, in a row of its own.
-/
import Derived.Test.YtkhficmehjglmaaIops
import Derived.Test.YtkhficmehjglmaaLongB
import Derived.Test.YtkhficmehjglmaaRdig
import Derived.Deep.RegionHeld3
import Derived.StillTailTactics
set_option linter.unusedVariables false
set_option linter.unusedSimpArgs false
namespace Go.Proofs.Ytkhficmehjglmaa
open Go.RowKit

/-- Digits in a row that the call made first are handed back. -/
def RetF (w : World) (v : Nat) (e : Ending) (w' : World) : Prop :=
  ∃ n c, e = .returned (.slice (some ⟨w.heap.size, 0, none⟩) n c) ∧ Dgs w' w'.heap.size (some ⟨w.heap.size, 0, none⟩) n (digs v) ∧ n ≤ c ∧ c ≤ maxLen ∧ Below w.heap.size w w'
theorem RetF.mk_ {w w' : World} {v n c : Nat} (hd : Dgs w' w'.heap.size (some ⟨w.heap.size, 0, none⟩) n (digs v)) (hc : n ≤ c) (hm : c ≤ maxLen) (hb : Below w.heap.size w w') :
    RetF w v (.returned (.slice (some ⟨w.heap.size, 0, none⟩) n c)) w' := ⟨n, c, rfl, hd, hc, hm, hb⟩
/-- The number of bits. -/
def bl (n : Nat) : Nat := if n = 0 then 0 else Nat.log2 n + 1
theorem bl_zero : bl 0 = 0 := rfl
theorem lt_bl (n : Nat) : n < 2 ^ bl n := by
  unfold bl; split
  · simp_all
  · exact Nat.lt_log2_self
theorem bl_le {n : Nat} (h : n ≠ 0) : 2 ^ (bl n - 1) ≤ n := by
  unfold bl; rw [if_neg h]; exact Nat.log2_self_le h
theorem bl_pos {n : Nat} (h : n ≠ 0) : 0 < bl n := by unfold bl; rw [if_neg h]; omega
theorem bl_unique {n m : Nat} (hm : 0 < m) (h1 : 2 ^ (m - 1) ≤ n) (h2 : n < 2 ^ m) : bl n = m := by
  have h0 : n ≠ 0 := by have := Nat.pow_pos (n := m - 1) (show 0 < 2 by omega); omega
  have a1 := lt_bl n
  have a2 := bl_le h0
  have a3 := bl_pos h0
  have b1 : m - 1 < bl n := (Nat.pow_lt_pow_iff_right (by omega : 1 < 2)).1 (Nat.lt_of_le_of_lt h1 a1)
  have b2 : bl n - 1 < m := (Nat.pow_lt_pow_iff_right (by omega : 1 < 2)).1 (Nat.lt_of_le_of_lt a2 h2)
  omega
theorem bl_half {n : Nat} (h : 0 < n) : bl n = bl (n / 2) + 1 := by
  rcases Nat.lt_or_ge n 2 with h1 | h1
  · obtain rfl : n = 1 := by omega
    decide
  · have h2 : n / 2 ≠ 0 := by omega
    apply bl_unique (by omega)
    · have := bl_le h2
      have hp := bl_pos h2
      have e : 2 ^ (bl (n / 2) + 1 - 1) = 2 ^ (bl (n / 2) - 1) * 2 := by rw [← Nat.pow_succ]; congr 1; omega
      omega
    · have := lt_bl (n / 2)
      rw [Nat.pow_succ]; omega
theorem bl_le_of {n k : Nat} (h : n < 2 ^ k) : bl n ≤ k := by
  by_cases h0 : n = 0
  · subst h0; rw [bl_zero]; omega
  · have := bl_le h0
    have := bl_pos h0
    have b2 : bl n - 1 < k := (Nat.pow_lt_pow_iff_right (by omega : 1 < 2)).1 (by omega)
    omega
theorem bl_join {v p d k : Nat} (hp : p = 2 ^ k) (hv : v < p) (hd : d ≠ 0) : bl (v + p * d) = k + bl d := by
  have h1 := lt_bl d
  have h2 := bl_le hd
  have h3 := bl_pos hd
  apply bl_unique (by omega)
  · have e : 2 ^ (k + bl d - 1) = p * 2 ^ (bl d - 1) := by rw [hp, ← Nat.pow_add]; congr 1; omega
    rw [e]
    have := Nat.mul_le_mul_left p h2
    omega
  · rw [Nat.pow_add, ← hp]
    have : p * (d + 1) ≤ p * 2 ^ bl d := Nat.mul_le_mul_left p h1
    rw [Nat.mul_add] at this
    omega

theorem ret_i1 {k : IntKind} {a b : Int} (h : a = b) : Ending.returned (.int k a) = .returned (.int k b) := by rw [h]
theorem BB_pow (k : Nat) : BB ^ k = 2 ^ (32 * k) := by rw [show BB = 2 ^ 32 from rfl, ← Nat.pow_mul]
/-- The top digit of a number is not 0, and its bits are those of the number behind the lower digits. -/
theorem digs_topbl {V L : Nat} (h : (digs V).length = L + 1) : (digs V).getD L 0 ≠ 0 ∧ bl V = 32 * L + bl ((digs V).getD L 0) := by
  have h1 := val_take_succ (ds := digs V) (k := L) (by omega)
  rw [List.take_of_length_le (by omega), val_digs] at h1
  have h2 := val_take_lt (dig_digs V) L (by omega)
  have h3 : (digs V).getD L 0 ≠ 0 := by
    intro h0
    rw [h0, Nat.mul_zero, Nat.add_zero] at h1
    rw [← h1] at h2
    have := digs_length_le h2
    omega
  refine ⟨h3, ?_⟩
  have := bl_join (BB_pow L) h2 h3
  rwa [← h1] at this

theorem getD_zeros (n j : Nat) : (List.replicate n 0).getD j 0 = 0 := by simp [List.getD, List.getElem?_replicate]; split <;> rfl
/-- What holds of the row into which shifted digits are written. -/
def ShO (w W0 wr : World) (N m k S : Nat) (ds zs : List Nat) : Prop :=
  Row wr w.heap.size zs ∧ zs.length = N ∧ Dig zs ∧ zs.getD (k + m) 0 < S ∧ (∀ j, k + m < j → zs.getD j 0 = 0) ∧ val zs = BB ^ m * (S * val (ds.take k)) ∧ Only w.heap.size W0 wr

theorem sh_low (y S K : Nat) (hB : BB = S * K) (hS : S ∣ y) (hS0 : 0 < S) : y % BB + S ≤ BB := by
  have h1 : S ∣ y % BB := (Nat.dvd_mod_iff (by rw [hB]; exact Nat.dvd_mul_right S K)).2 hS
  have h2 := Nat.mod_lt y BB_pos
  obtain ⟨a, ha⟩ := h1
  rw [ha] at h2 ⊢
  rw [hB] at h2 ⊢
  have h3 : a < K := Nat.lt_of_mul_lt_mul_left h2
  have : S * (a + 1) ≤ S * K := Nat.mul_le_mul_left S h3
  rw [Nat.mul_add] at this
  omega

theorem sh_step {w W0 wr : World} {N m k S K x : Nat} {ds zs : List Nat} (h : ShO w W0 wr N m k S ds zs) (hB : BB = S * K) (hS0 : 0 < S) (hN : k + m + 1 < N) (hx : x = ds.getD k 0) (hxl : x < BB) {t u : Nat}
    (ht : t = zs.getD (k + m) 0 + x * S % BB) (hu : u = x * S / BB) {v v' : Int} (hv : v = (t : Nat)) (hv' : v' = (u : Nat)) :
    ShO w W0 ((wr.setCell ⟨w.heap.size, k + m, none⟩ (.int .u32 v)).setCell ⟨w.heap.size, k + m + 1, none⟩ (.int .u32 v')) N m (k + 1) S ds ((zs.set (k + m) t).set (k + m + 1) u) := by
  obtain ⟨h1, h2, h3, h4, h5, h6, h7⟩ := h
  have hlow := sh_low (x * S) S K hB (Nat.dvd_mul_left S x) hS0
  have huS : u < S := by
    rw [hu, Nat.div_lt_iff_lt_mul BB_pos, Nat.mul_comm]
    exact Nat.mul_lt_mul_of_pos_left hxl hS0
  have hSB : S ≤ BB := by omega
  have e1 := val_set (xs := zs) (j := k + m) t (by omega)
  have e2 := val_set (xs := zs.set (k + m) t) (j := k + m + 1) u (by simp; omega)
  have e3 : (zs.set (k + m) t).getD (k + m + 1) 0 = 0 := by rw [getD_set (by omega)]; exact h5 _ (by omega)
  rw [e3, Nat.mul_zero, Nat.add_zero] at e2
  subst hv hv'
  refine ⟨(h1.set _ _).set _ _, by simp [h2], dig_set (dig_set h3 (by omega)) (by omega), ?_, fun j hj => ?_, ?_, (h7.setCell _ _).setCell _ _⟩
  · rw [show k + 1 + m = k + m + 1 by omega]
    simp [List.getD, show k + m + 1 < zs.length by omega]; exact huS
  · rw [getD_set (by omega), getD_set (by omega)]; exact h5 j (by omega)
  · rw [e2]
    have e4 : val (zs.set (k + m) t) = val zs + BB ^ (k + m) * (x * S % BB) := by rw [ht, Nat.mul_add] at e1; rw [ht]; omega
    have e5 : BB ^ (k + m) * (x * S % BB) + BB ^ (k + m + 1) * u = BB ^ (k + m) * (x * S) := by
      rw [hu, Nat.pow_succ, Nat.mul_assoc, ← Nat.mul_add, Nat.mod_add_div]
    rw [e4, h6, Nat.add_assoc, e5, val_take_any, ← hx, Nat.pow_add]
    rw [Nat.mul_add S, Nat.mul_add, show BB ^ k * BB ^ m * (x * S) = BB ^ m * (S * (BB ^ k * x)) by rw [Nat.mul_comm x S, Nat.mul_comm (BB ^ k), Nat.mul_assoc, ← Nat.mul_assoc (BB ^ k), Nat.mul_comm (BB ^ k) S, Nat.mul_assoc]]

theorem or_sh32 (z y r S K : Nat) (hB : BB = S * K) (hS : S = 2 ^ r) (hz : z < S) (hy : S ∣ y) : bits .or .u32 (z : Int) ((y : Int) % 4294967296) = ((z + y % BB : Nat) : Int) := by
  have hS0 : 0 < S := by rw [hS]; exact Nat.pow_pos (by omega)
  have hlow := sh_low y S K hB hy hS0
  have h1 : S ∣ y % BB := (Nat.dvd_mod_iff (by rw [hB]; exact Nat.dvd_mul_right S K)).2 hy
  have e : (y : Int) % 4294967296 = ((y % BB : Nat) : Int) := by rw [BB_eq]; omega
  rw [e]
  generalize y % BB = b at *
  rw [BB_eq] at hlow
  rw [u32_or_nat _ _ (by omega) (by omega), Nat.or_comm, nat_join r _ _ (by rw [← hS]; exact Nat.mod_eq_zero_of_dvd h1) (by rw [← hS]; exact hz), Nat.add_comm]

/-- What holds of the row into which halved digits are written. -/
def HfI (w W0 wr : World) (n k : Nat) (ds xs : List Nat) : Prop :=
  Row wr w.heap.size (xs ++ List.replicate (n - k) 0) ∧ xs.length = k ∧ Dig xs ∧ 2 * val xs + ds.getD 0 0 % 2 = val (ds.take k) + BB ^ k * (ds.getD k 0 % 2) ∧ Only w.heap.size W0 wr
theorem HfI.drewN {w W0 wr : World} {n k : Nat} {ds xs : List Nat} (h : HfI w W0 wr n k ds xs) (q : Nat) : HfI w W0 (wr.drewN q) n k ds xs := ⟨h.1.drewN q, h.2.1, h.2.2.1, h.2.2.2.1, h.2.2.2.2.drewN q⟩

theorem hf_step {w W0 wr : World} {n k x y d : Nat} {ds xs : List Nat} (h : HfI w W0 wr n k ds xs) (hk : k < n) (hx : x = ds.getD k 0) (hy : y = ds.getD (k + 1) 0) (hxl : x < 4294967296) (hd : d = x / 2 + y % 2 * 2147483648) {v : Int} (hv : v = (d : Nat)) :
    HfI w W0 (wr.setCell ⟨w.heap.size, k, none⟩ (.int .u32 v)) n (k + 1) ds (xs ++ [d]) := by
  obtain ⟨h1, h2, h3, h4, h5⟩ := h
  subst hv
  refine ⟨?_, by simp [h2], h3.append (Dig.cons (by rw [BB_eq]; omega) Dig.nil), ?_, h5.setCell _ _⟩
  · have e : n - k = (n - (k + 1)) + 1 := by omega
    rw [e] at h1
    have := h1.set k d
    rwa [← h2, set_zeros, h2] at this
  · rw [val_snoc, h2, val_take_any, ← hx, ← hy, Nat.pow_succ]
    rw [← hx] at h4
    have e1 : BB ^ k * x = BB ^ k * (2 * (x / 2)) + BB ^ k * (x % 2) := by rw [← Nat.mul_add]; congr 1; omega
    have e2 : 2 * (BB ^ k * d) = BB ^ k * (2 * (x / 2)) + BB ^ k * BB * (y % 2) := by
      rw [Nat.mul_assoc (BB ^ k) BB, ← Nat.mul_add, Nat.mul_left_comm]; congr 1; rw [hd, BB_eq]; omega
    rw [Nat.mul_add 2, e2, e1]
    omega

theorem or_half (x y : Nat) (hx : x < 4294967296) (hy : y < 4294967296) : bits .or .u32 ((x : Int) / 2) ((y : Int) * 2147483648 % 4294967296) = ((x / 2 + y % 2 * 2147483648 : Nat) : Int) := by
  have e1 : (x : Int) / 2 = ((x / 2 : Nat) : Int) := by omega
  have e2 : (y : Int) * 2147483648 % 4294967296 = ((y % 2 * 2147483648 : Nat) : Int) := by omega
  rw [e1, e2, u32_or_nat _ _ (by omega) (by omega), Nat.or_comm, nat_join 31 _ _ (by omega) (by omega), Nat.add_comm]

end Go.Proofs.Ytkhficmehjglmaa

