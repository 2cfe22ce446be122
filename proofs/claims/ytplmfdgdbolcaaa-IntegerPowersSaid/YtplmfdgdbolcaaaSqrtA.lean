/-
  Square roots: a power of two, and Newton's step.
-/
import Derived.Test.YtplmfdgdbolcaaaPow
set_option linter.unusedVariables false
set_option linter.unusedSimpArgs false
namespace Go.Proofs.Ytplmfdgdbolcaaa
open Go.RowKit

theorem digs_two_pow (m r : Nat) (hr : r < 32) : digs (2 ^ (32 * m + r)) = List.replicate m 0 ++ [2 ^ r] ∧ Dig (List.replicate m 0 ++ [2 ^ r]) := by
  have hB : 2 ^ r < BB := by rw [show BB = 2 ^ 32 from rfl]; exact Nat.pow_lt_pow_right (by decide) hr
  have hv : val (List.replicate m 0 ++ [2 ^ r]) = 2 ^ (32 * m + r) := by
    rw [val_append, val_zeros, List.length_replicate, BB_pow, Nat.pow_add]; simp [val]
  have hd : Dig (List.replicate m 0 ++ [2 ^ r]) := by
    intro x hx
    rcases List.mem_append.1 hx with h | h
    · rw [(List.mem_replicate.1 h).2]; exact BB_pos
    · rw [List.mem_singleton.1 h]; exact hB
  refine ⟨?_, hd⟩
  have hl := trimLen_length hd
  have hle := trimLen_le (List.replicate m 0 ++ [2 ^ r])
  have hge : m + 1 ≤ (digs (2 ^ (32 * m + r))).length := by
    rcases Nat.lt_or_ge m (digs (2 ^ (32 * m + r))).length with h | h
    · omega
    · have h1 := lt_pow_digs (2 ^ (32 * m + r))
      have h2 : BB ^ (digs (2 ^ (32 * m + r))).length ≤ BB ^ m := Nat.pow_le_pow_right BB_pos h
      have h3 : 2 ^ (32 * m) ≤ 2 ^ (32 * m + r) := Nat.pow_le_pow_right (by decide) (by omega)
      rw [BB_pow m] at h2
      omega
  have ht := take_trimLen hd
  rw [hv] at ht hl
  rw [← ht, List.take_of_length_le]
  rw [hl]
  simp only [List.length_append, List.length_replicate, List.length_singleton]
  omega

theorem two_mod (r : Nat) (hr : r < 32) : (2 ^ r : Int) % 4294967296 = ((2 ^ r : Nat) : Int) := by
  have h1 : 2 ^ r < 4294967296 := Nat.lt_of_lt_of_eq (Nat.pow_lt_pow_right (by decide) hr) rfl
  have e : (2 ^ r : Int) = ((2 ^ r : Nat) : Int) := by rw [Int.natCast_pow]; rfl
  rw [e]
  generalize 2 ^ r = x at h1 ⊢
  omega
set_option maxRecDepth 100000 in
theorem powerOfTwo_any (k : Nat) (hk : k ≤ 1000000) (w : World) : Calls Try.prog 100 #[.int .i64 k] w (RetD w (2 ^ k)) := by
  obtain ⟨m, Hm⟩ : ∃ m, m = k / 32 := ⟨_, rfl⟩
  obtain ⟨r, Hr⟩ : ∃ r, r = k % 32 := ⟨_, rfl⟩
  have em : (k : Int) / 32 = (m : Int) := by omega
  have er : (k : Int) % 32 = (r : Int) := by omega
  have hr : r < 32 := by omega
  have hmm : m ≤ 100000 := by omega
  have hmk := run_make_row' (P := Try.prog) 22 94 (.int .u32 0) 4 Try.underlying22 u32_info rfl .i64 .i64 (m + 1) (by omega) (by omega)
  have ec : ((m + 1 : Nat) : Int) = (m : Int) + 1 := by omega
  rw [ec] at hmk
  have HK : Hid (k = 32 * m + r) := by unfold Hid; omega
  have HD := Lib.hid (digs_two_pow m r hr)
  have R0 := Row.made w (m + 1)
  have hc := R0.cell (j := m) (by simp)
  have hf := R0.frozen m
  rw [getD_zeros] at hc
  clear Hm Hr
  go_enter Try.func100, Try.ntmps100
  go_wp2
  have hv := two_mod r hr
  have R1 := R0.set m (2 ^ r)
  rw [show List.replicate (m + 1) 0 = List.replicate m 0 ++ List.replicate (0 + 1) 0 by rw [List.replicate_append_replicate, Nat.zero_add]] at R1
  have hs := set_zeros (List.replicate m 0) 0 (2 ^ r)
  rw [List.length_replicate] at hs
  rw [hs, List.replicate_zero, List.append_nil, World.setCell_alloc_new] at R1
  have hd := R1.dgs HD.out.2
  rw [← HD.out.1, ← HK.out] at hd
  have hl : (digs (2 ^ k)).length = m + 1 := by rw [HK.out, HD.out.1, List.length_append, List.length_replicate]; rfl
  rw [hl] at hd
  rw [hv]
  go_ret
  exact RetD.mk_ hd (Nat.le_refl _) (by unfold maxLen; omega) (bnew _ _)

/-- What Newton's step keeps and what its end says. -/
theorem newton {a r : Nat} (hr : 0 < r) : a < ((r + a / r) / 2 + 1) * ((r + a / r) / 2 + 1) := by
  have h1 : a < r * (a / r + 1) := by
    have := Nat.div_add_mod a r
    have := Nat.mod_lt a hr
    rw [Nat.mul_add]; omega
  generalize a / r = q at h1 ⊢
  refine Nat.lt_of_lt_of_le h1 ?_
  have h2 : r + q + 1 ≤ 2 * ((r + q) / 2 + 1) := by omega
  generalize (r + q) / 2 + 1 = s at h2 ⊢
  have h3 : (r + (q + 1)) * (r + (q + 1)) ≤ (2 * s) * (2 * s) := Nat.mul_le_mul (by omega) (by omega)
  have h4 : 4 * (r * (q + 1)) ≤ (r + (q + 1)) * (r + (q + 1)) := by
    generalize q + 1 = p
    rcases Nat.le_total r p with h | h
    · obtain ⟨d, rfl⟩ := Nat.le.dest h
      have : (r + (r + d)) * (r + (r + d)) = 4 * (r * (r + d)) + d * d := by
        simp only [Nat.add_mul, Nat.mul_add, Nat.mul_comm d r]; omega
      omega
    · obtain ⟨d, rfl⟩ := Nat.le.dest h
      have : (p + d + p) * (p + d + p) = 4 * ((p + d) * p) + d * d := by
        simp only [Nat.add_mul, Nat.mul_add, Nat.mul_comm d p]; omega
      omega
  have h5 : (2 * s) * (2 * s) = 4 * (s * s) := by
    rw [Nat.mul_assoc 2 s, Nat.mul_left_comm s 2, ← Nat.mul_assoc]
  omega
theorem newton_end {a r : Nat} (hr : 0 < r) (h : r ≤ (r + a / r) / 2) : r * r ≤ a := by
  have h1 : r ≤ a / r := by omega
  have := Nat.mul_le_mul_left r h1
  have := Nat.mul_div_le a r
  omega
theorem root_only {a r s : Nat} (h1 : r * r ≤ a) (h2 : a < (r + 1) * (r + 1)) (h3 : s * s ≤ a) (h4 : a < (s + 1) * (s + 1)) : r = s := by
  rcases Nat.lt_trichotomy r s with h | h | h
  · have := Nat.mul_le_mul (show r + 1 ≤ s by omega) (show r + 1 ≤ s by omega); omega
  · exact h
  · have := Nat.mul_le_mul (show s + 1 ≤ r by omega) (show s + 1 ≤ r by omega); omega
end Go.Proofs.Ytplmfdgdbolcaaa
