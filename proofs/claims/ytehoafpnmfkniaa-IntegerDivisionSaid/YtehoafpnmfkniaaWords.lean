/-
  Machine numbers from integers, by the program and by the reference.
-/
import Derived.Test.YtehoafpnmfkniaaCanon
import Derived.Laws.BitsAllLaws
set_option linter.unusedVariables false
set_option linter.unusedSimpArgs false
namespace Go.Proofs.Ytehoafpnmfkniaa
open Go.RowKit

set_option maxRecDepth 100000 in
theorem digit_any (A : Option Addr) (n c B : Nat) (ds : List Nat) (i : Nat) (w : World) (h : Dgs w B A n ds) (hc : n ≤ c) (hm : c ≤ maxLen) (hi : i ≤ maxLen) :
    Calls Try.prog 155 #[.slice A n c, .int .i64 i] w fun e w' => e = .returned (.int .u64 (ds.getD i 0 : Nat)) ∧ w = w' := by
  unfold maxLen at hm hi
  by_cases hin : i < n
  · obtain ⟨b, off, rfl, _, hcell⟩ := h.at_ (by omega)
    have hx := hcell i hin
    have hlt := h.dig.getD i
    rw [BB_eq] at hlt
    clear hcell h
    obtain ⟨x, HX⟩ : ∃ x, Hid (x = ds.getD i 0) := ⟨_, rfl⟩
    rw [← HX.out] at hx hlt ⊢
    have i0 : (0 : Int) ≤ (i : Int) := by omega
    have i1 : (i : Int) < (n : Int) := by omega
    go_enter Try.func155, Try.ntmps155
    go_wp2
    go_ret
    exact ⟨rfl, rfl⟩
  · have e : ds.getD i 0 = 0 := by have := h.len; simp [List.getD, show ds.length ≤ i by omega]
    rw [e]
    clear e
    go_enter Try.func155, Try.ntmps155
    go_wp2
    go_ret
    exact ⟨rfl, rfl⟩

theorem u64_in' (n : Nat) (h : n < 18446744073709551616) : IntKind.u64.wrap (n : Int) = (n : Int) := IntWalk.u64_in _ (by omega)

/-- The upper and the lower half of a word. -/
theorem or_halves (hi lo : Nat) (h1 : hi < 4294967296) (h2 : lo < 4294967296) : bits .or .u64 ((hi * 4294967296 : Nat) : Int) (lo : Int) = ((hi * 4294967296 + lo : Nat) : Int) := by
  rw [u64_or_nat _ _ (by omega) (by omega), nat_join 32 _ _ (by omega) (by omega)]
theorem or_halves' (hi lo : Nat) (h1 : hi < 4294967296) (h2 : lo < 4294967296) : bits .or .u64 (lo : Int) ((hi * 4294967296 : Nat) : Int) = ((hi * 4294967296 + lo : Nat) : Int) := by
  rw [u64_or_nat _ _ (by omega) (by omega), Nat.or_comm, nat_join 32 _ _ (by omega) (by omega)]

theorem word_step (v x k : Nat) (hk : k < 2) (hv : v < BB ^ k) (hx : x < 4294967296) :
    bits .or .u64 (v : Int) (IntKind.u64.wrap (IntKind.u64.wrap (x : Int) * 2 ^ (32 * k))) = ((v + BB ^ k * x : Nat) : Int) := by
  rw [u64_in' x (by omega)]
  match k, hk with
  | 0, _ =>
    simp at hv
    subst hv
    have e : ((x : Int) * 2 ^ (32 * 0)) = ((x : Nat) : Int) := by simp
    rw [e, u64_in' x (by omega)]
    have := or_halves 0 x (by omega) hx
    simpa using this
  | 1, _ =>
    rw [BB_eq] at hv ⊢
    have e : ((x : Int) * 2 ^ (32 * 1)) = ((x * 4294967296 : Nat) : Int) := by omega
    rw [e, u64_in' _ (by omega), or_halves' x v hx (by omega)]
    congr 1
    omega

theorem val_take_succ {ds : List Nat} {k : Nat} (h : k < ds.length) : val (ds.take (k + 1)) = val (ds.take k) + BB ^ k * ds.getD k 0 := by
  rw [take_snoc h, val_append, List.length_take, Nat.min_eq_left (by omega)]
  simp [val]

theorem val_take_lt {ds : List Nat} (hd : Dig ds) (k : Nat) (h : k ≤ ds.length) : val (ds.take k) < BB ^ k := by
  have := val_lt (hd.take k)
  rwa [List.length_take, Nat.min_eq_left h] at this

set_option maxRecDepth 100000 in
theorem toWord_any (A : Option Addr) (n c B : Nat) (ds : List Nat) (w : World) (h : Dgs w B A n ds) (hc : n ≤ c) (hm : c ≤ maxLen) (h2 : n ≤ 2) :
    Calls Try.prog 142 #[.slice A n c] w fun e w' => e = .returned (.int .u64 (val ds)) ∧ w = w' := by
  unfold maxLen at hm
  have HL := Lib.hid h.len
  go_enter Try.func142, Try.ntmps142
  go_wp2
  go_loop [3, 8] (fun s i => ∃ k : Nat, k ≤ n ∧ i = .int .i64 k ∧ s = .int .u64 (val (ds.take k))) (fun _ i => n - (intOf i).toNat)
  case atStart => exact ⟨0, Nat.zero_le _, rfl, rfl⟩
  case round =>
    obtain ⟨k, hk, rfl, rfl⟩ := hrel
    by_cases hkn : k < n
    · obtain ⟨b, off, rfl, _, hcell⟩ := h.at_ (by omega)
      have hx := hcell k hkn
      have hlt := h.dig.getD k
      rw [BB_eq] at hlt
      have HV : Hid (bits .or .u64 (val (ds.take k) : Int) (IntKind.u64.wrap (IntKind.u64.wrap ((ds[k]?.getD 0 : Nat) : Int) * 2 ^ (32 * k))) = (val (ds.take (k + 1)) : Int)) := by
        have hl := HL.out
        rw [val_take_succ (by omega)]
        exact word_step _ _ _ (by omega) (val_take_lt h.dig k (by omega)) hlt
      clear hcell
      go_wp2
      go_round
      case rel => exact ⟨k + 1, by omega, by go_num, by rw [HV.out]⟩
      case measure => simp [intOf]; omega
    · have HV : Hid (val (ds.take k) = val ds) := by rw [List.take_of_length_le (by have := HL.out; omega)]; rfl
      go_wp2
      go_ret
      exact ⟨by rw [← HV.out]; rfl, rfl⟩

/-- Does the integer fit into an int64? -/
def fits (z : Int) : Bool := decide (-9223372036854775808 ≤ z ∧ z ≤ 9223372036854775807)
/-- What ToInt64 returns. -/
def RetI (w : World) (z : Int) (e : Ending) (w' : World) : Prop :=
  e = .returned (.tuple #[.int .i64 (if fits z then z else 0), .int .i64 (if fits z then 0 else 5)]) ∧ Below w.heap.size w w'

theorem ret_ii {k k' : IntKind} {a a' b b' : Int} (h : a = a') (h' : b = b') : Ending.returned (.tuple #[.int k a, .int k' b]) = .returned (.tuple #[.int k a', .int k' b']) := by rw [h, h']

theorem fits_of (z : Int) (h : -9223372036854775808 ≤ z) (h' : z ≤ 9223372036854775807) : (if fits z then z else 0) = z ∧ (if fits z then (0 : Int) else 5) = 0 := by
  have : fits z = true := decide_eq_true ⟨h, h'⟩
  rw [this]; exact ⟨rfl, rfl⟩
theorem fits_not (z : Int) (h : z < -9223372036854775808 ∨ 9223372036854775807 < z) : (if fits z then z else 0) = 0 ∧ (if fits z then (0 : Int) else 5) = 5 := by
  have : fits z = false := decide_eq_false (by omega)
  rw [this]; exact ⟨rfl, rfl⟩

theorem digs_le_two {v : Nat} (h : (digs v).length ≤ 2) : v < 18446744073709551616 := by
  have h1 := lt_pow_digs v
  have h2 : BB ^ (digs v).length ≤ BB ^ 2 := Nat.pow_le_pow_right BB_pos h
  have h3 : BB ^ 2 = 18446744073709551616 := by rw [BB_eq]
  omega
theorem digs_gt_two {v : Nat} (h : 2 < (digs v).length) : 18446744073709551616 ≤ v := by
  rcases Nat.lt_or_ge v 18446744073709551616 with h1 | h1
  · have h3 : BB ^ 2 = 18446744073709551616 := by rw [BB_eq]
    have := digs_length_le (n := v) (k := 2) (by rw [h3]; exact h1)
    omega
  · exact h1

set_option maxHeartbeats 1000000 in
set_option maxRecDepth 100000 in
theorem toInt64_any (neg : Bool) (A : Option Addr) (n c : Nat) (ds : List Nat) (w : World) (h : Dgs w w.heap.size A n ds) (hc : n ≤ c) (hm : c ≤ maxLen) :
    Calls Try.prog 160 #[.agg #[.bool neg, .slice A n c]] w (RetI w (zOf neg (val ds))) := by
  have hcan := fun w' h' => canonical_any neg A n c ds w' h' hc hm
  generalize zOf neg (val ds) = z at hcan ⊢
  obtain ⟨s, hs⟩ : ∃ s, s = decide (z < 0) := ⟨_, rfl⟩
  obtain ⟨M, hM⟩ : ∃ M, M = z.natAbs := ⟨_, rfl⟩
  have HS := Lib.hid hs
  have HM := Lib.hid hM
  clear hs hM
  by_cases hlong : 2 < (digs M).length
  · have hf := fits_not z (by have := digs_gt_two hlong; have := HM.out; omega)
    have HF := Lib.hid hf
    clear hf
    go_enter Try.func160, Try.ntmps160
    go_wp2_with (go_at_call 77; refine (hcan _ ((h.alloc (Nat.le_refl _) _).more (by simp))).mono ?_; rintro e w2 ⟨A2, n2, c2, rfl, hd2, hn2, hc2, hb2⟩; have O2 := (Own.new _ _ _ _).below hb2; obtain ⟨q0, q1, q2, q3⟩ := O2.facts; rw [← HM.out] at hd2; have hl2 : 2 < n2 := by (rw [← hd2.len]; exact hlong))
    go_ret2
    refine ⟨ret_ii HF.out.1.symm HF.out.2.symm, ?_⟩
    exact ((bcall (bnew _ _) hb2).setCell (Nat.le_refl _) _).setCell (Nat.le_refl _) _
  · have hM64 := digs_le_two (Nat.le_of_not_lt hlong)
    by_cases hbig : 9223372036854775808 < M
    · have HF := Lib.hid (fits_not z (by have := HM.out; omega))
      go_enter Try.func160, Try.ntmps160
      go_wp2_with (first
        | (go_at_call 77; refine (hcan _ ((h.alloc (Nat.le_refl _) _).more (by simp))).mono ?_; rintro e w2 ⟨A2, n2, c2, rfl, hd2, hn2, hc2, hb2⟩; have O2 := (Own.new _ _ _ _).below hb2; obtain ⟨q0, q1, q2, q3⟩ := O2.facts; rw [← HM.out] at hd2; have hl2 : n2 ≤ 2 := by (rw [← hd2.len]; omega))
        | (go_at_call 142; refine (toWord_any _ _ _ _ _ _ (hd2.store O2 _ _) hn2 hc2 hl2).mono ?_; rw [val_digs]; rintro e w3 ⟨rfl, rfl⟩))
      go_ret2
      refine ⟨ret_ii ?_ ?_, ((bcall (bnew _ _) hb2).setCell (Nat.le_refl _) _).setCell (Nat.le_refl _) _⟩
      · exact HF.out.1.symm
      · exact HF.out.2.symm
    by_cases hz : z < 0
    · have HF := Lib.hid (fits_of z (by have := HM.out; omega) (by omega))
      have e1 : IntKind.i64.wrap (IntKind.u64.wrap (-(M : Int))) = -(M : Int) := by
        have := HM.out
        rw [IntKind.wrap_u64, IntKind.wrap_i64]; omega
      have HZ : Hid (-(M : Int) = z) := by have := HM.out; unfold Hid; omega
      have e2 : decide (z < 0) = true := decide_eq_true hz
      by_cases hhalf : M = 9223372036854775808
      · have HE : Hid (z = -9223372036854775808) := by have := HZ.out; unfold Hid; omega
        subst hhalf
        go_enter Try.func160, Try.ntmps160
        go_wp2_with (first
          | (go_at_call 77; refine (hcan _ ((h.alloc (Nat.le_refl _) _).more (by simp))).mono ?_; rintro e w2 ⟨A2, n2, c2, rfl, hd2, hn2, hc2, hb2⟩; have O2 := (Own.new _ _ _ _).below hb2; obtain ⟨q0, q1, q2, q3⟩ := O2.facts; rw [← HM.out] at hd2; have hl2 : n2 ≤ 2 := by (rw [← hd2.len]; omega))
          | (go_at_call 142; refine (toWord_any _ _ _ _ _ _ (hd2.store O2 _ _) hn2 hc2 hl2).mono ?_; rw [val_digs]; rintro e w3 ⟨rfl, rfl⟩))
        go_ret2
        refine ⟨ret_ii ?_ ?_, ((bcall (bnew _ _) hb2).setCell (Nat.le_refl _) _).setCell (Nat.le_refl _) _⟩
        · exact (show wrap64 (IntKind.u64.wrap (-9223372036854775808)) = -9223372036854775808 by rw [IntKind.wrap_u64]; unfold wrap64; omega).trans (HE.out.symm.trans HF.out.1.symm)
        · exact HF.out.2.symm
      · have hb : ((M : Int) == 9223372036854775808) = false := by simp; omega
        go_enter Try.func160, Try.ntmps160
        go_wp2_with (first
          | (go_at_call 77; refine (hcan _ ((h.alloc (Nat.le_refl _) _).more (by simp))).mono ?_; rintro e w2 ⟨A2, n2, c2, rfl, hd2, hn2, hc2, hb2⟩; have O2 := (Own.new _ _ _ _).below hb2; obtain ⟨q0, q1, q2, q3⟩ := O2.facts; rw [← HM.out] at hd2; have hl2 : n2 ≤ 2 := by (rw [← hd2.len]; omega))
          | (go_at_call 142; refine (toWord_any _ _ _ _ _ _ (hd2.store O2 _ _) hn2 hc2 hl2).mono ?_; rw [val_digs]; rintro e w3 ⟨rfl, rfl⟩))
        go_ret2
        refine ⟨ret_ii ?_ ?_, ((bcall (bnew _ _) hb2).setCell (Nat.le_refl _) _).setCell (Nat.le_refl _) _⟩
        · exact HZ.out.trans HF.out.1.symm
        · exact HF.out.2.symm
    · have e2 : decide (z < 0) = false := decide_eq_false hz
      by_cases hhalf : M = 9223372036854775808
      · have HF := Lib.hid (fits_not z (by have := HM.out; omega))
        subst hhalf
        go_enter Try.func160, Try.ntmps160
        go_wp2_with (first
          | (go_at_call 77; refine (hcan _ ((h.alloc (Nat.le_refl _) _).more (by simp))).mono ?_; rintro e w2 ⟨A2, n2, c2, rfl, hd2, hn2, hc2, hb2⟩; have O2 := (Own.new _ _ _ _).below hb2; obtain ⟨q0, q1, q2, q3⟩ := O2.facts; rw [← HM.out] at hd2; have hl2 : n2 ≤ 2 := by (rw [← hd2.len]; omega))
          | (go_at_call 142; refine (toWord_any _ _ _ _ _ _ (hd2.store O2 _ _) hn2 hc2 hl2).mono ?_; rw [val_digs]; rintro e w3 ⟨rfl, rfl⟩))
        go_ret2
        refine ⟨ret_ii ?_ ?_, ((bcall (bnew _ _) hb2).setCell (Nat.le_refl _) _).setCell (Nat.le_refl _) _⟩
        · exact HF.out.1.symm
        · exact HF.out.2.symm
      · have HF := Lib.hid (fits_of z (by omega) (by have := HM.out; omega))
        have HZ : Hid ((M : Int) = z) := by have := HM.out; unfold Hid; omega
        have hb : ((M : Int) == 9223372036854775808) = false := by simp; omega
        have hlt : M < 9223372036854775808 := by omega
        go_enter Try.func160, Try.ntmps160
        go_wp2_with (first
          | (go_at_call 77; refine (hcan _ ((h.alloc (Nat.le_refl _) _).more (by simp))).mono ?_; rintro e w2 ⟨A2, n2, c2, rfl, hd2, hn2, hc2, hb2⟩; have O2 := (Own.new _ _ _ _).below hb2; obtain ⟨q0, q1, q2, q3⟩ := O2.facts; rw [← HM.out] at hd2; have hl2 : n2 ≤ 2 := by (rw [← hd2.len]; omega))
          | (go_at_call 142; refine (toWord_any _ _ _ _ _ _ (hd2.store O2 _ _) hn2 hc2 hl2).mono ?_; rw [val_digs]; rintro e w3 ⟨rfl, rfl⟩))
        go_ret2
        refine ⟨ret_ii ?_ ?_, ((bcall (bnew _ _) hb2).setCell (Nat.le_refl _) _).setCell (Nat.le_refl _) _⟩
        · exact HZ.out.trans HF.out.1.symm
        · exact HF.out.2.symm

theorem digit_quiet (A : Option Addr) (n c B : Nat) (ds : List Nat) (i : Int) (w : World) (h : Dgs w B A n ds) (hc : n ≤ c) (hm : c ≤ maxLen) (h0 : 0 ≤ i) (hi : i ≤ 9223372036854775807) :
    Calls Try.prog 155 #[.slice A n c, .int .i64 i] w fun e w' => e = .returned (.int .u64 (ds.getD i.toNat 0 : Nat)) ∧ w' = w := by
  have := (digit_any A n c B ds i.toNat w h hc hm (by unfold maxLen; omega)).mono (R' := fun e w' => e = .returned (.int .u64 (ds.getD i.toNat 0 : Nat)) ∧ w' = w) fun _ _ ⟨h1, h2⟩ => ⟨h1, h2.symm⟩
  rwa [Int.toNat_of_nonneg h0] at this

theorem digs_lo (M : Nat) : (digs M).getD 0 0 = M % BB := by
  by_cases h : M = 0
  · subst h; simp [digs_zero]
  · rw [digs_pos h]; rfl
theorem digs_hi (M : Nat) : (digs M).getD 1 0 = M / BB % BB := by
  by_cases h : M = 0
  · subst h; simp [digs_zero]
  · rw [digs_pos h]
    exact digs_lo (M / BB)
theorem digs_or (M : Nat) (h : M < 18446744073709551616) : bits .or .u64 (((digs M)[0]?.getD 0 : Nat) : Int) (IntKind.u64.wrap ((((digs M)[1]?.getD 0 : Nat) : Int) * 4294967296)) = (M : Int) := by
  have e0 := digs_lo M
  have e1 := digs_hi M
  simp only [List.getD] at e0 e1
  rw [e0, e1]
  rw [BB_eq]
  have e2 : ((M / 4294967296 % 4294967296 : Nat) : Int) * 4294967296 = ((M / 4294967296 % 4294967296 * 4294967296 : Nat) : Int) := by omega
  rw [e2, u64_in' _ (by omega), or_halves' _ _ (by omega) (by omega)]
  congr 1
  omega
end Go.Proofs.Ytehoafpnmfkniaa
