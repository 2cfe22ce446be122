/-
  The decimal notation of integers.
-/
import Derived.Test.YtehoafpnmfkniaaFmt
import Derived.Test.YtehoafpnmfkniaaDivM
set_option linter.unusedVariables false
set_option linter.unusedSimpArgs false
namespace Go.Proofs.Ytehoafpnmfkniaa
open Go.RowKit

theorem decs_small {v : Nat} (h : v < 10) : decs v = [dch v] := by rw [decs, dif_pos h]
/-- The decimal notation of an integer. -/
def decZ (z : Int) : List UInt8 := if z < 0 then 45 :: decs z.natAbs else decs z.natAbs

theorem decs_len (k : Nat) : ∀ v, v < 10 ^ (k + 1) → (decs v).length ≤ k + 1 := by
  induction k with
  | zero => intro v hv; rw [decs_small (by simpa using hv)]; simp
  | succ k ih =>
    intro v hv
    rw [decs]
    split
    · simp
    · rw [List.length_append]
      have := ih (v / 10) (by rw [Nat.div_lt_iff_lt_mul (by omega), ← Nat.pow_succ]; exact hv)
      simp; omega
theorem decs_len' {v n : Nat} (h : v < BB ^ n) : (decs v).length ≤ 10 * n + 1 := by
  apply decs_len
  have h2 : BB ^ n ≤ (10 ^ 10) ^ n := Nat.pow_le_pow_left (by rw [BB_eq]; decide) n
  rw [← Nat.pow_mul] at h2
  have : 10 ^ (10 * n) ≤ 10 ^ (10 * n + 1) := Nat.pow_le_pow_right (by omega) (by omega)
  omega
theorem str_cons (l : List UInt8) : (({ data := #[45] } : ByteArray) ++ { data := l.toArray }) = { data := (45 :: l).toArray } := by
  apply ByteArray.ext
  simp [ByteArray.data_append]

set_option maxHeartbeats 1000000 in
set_option maxRecDepth 100000 in
theorem format_any (neg : Bool) (A : Option Addr) (n c : Nat) (ds : List Nat) (w : World) (h : Dgs w w.heap.size A n ds) (hc : n ≤ c) (hm : c ≤ maxLen) (hs : n ≤ 100000) :
    Calls Try.prog 35 #[.agg #[.bool neg, .slice A n c]] w (RetS w (decZ (zOf neg (val ds)))) := by
  have hcan := fun w' h' => canonical_any neg A n c ds w' h' hc hm
  have hsz : (digs (zOf neg (val ds)).natAbs).length ≤ 100000 := by
    rw [zOf_natAbs]
    have h1 : val ds < BB ^ n := by rw [← h.len]; exact val_lt h.dig
    have := digs_length_le h1
    omega
  generalize zOf neg (val ds) = z at hcan hsz ⊢
  obtain ⟨M, HM⟩ : ∃ M, Hid (M = z.natAbs) := ⟨_, rfl⟩
  rw [← HM.out] at hsz
  by_cases hz0 : z = 0
  · have HD : Hid (decZ z = [48]) := by
      unfold Hid decZ
      rw [hz0]
      rw [if_neg (by omega)]
      exact decs_small (by decide)
    have hM0 : (digs M).length = 0 := by rw [HM.out, hz0]; simp [digs_zero]
    have HL := Lib.hid hM0
    clear hz0 hM0
    go_enter Try.func35, Try.ntmps35
    go_wp2_with (go_at_call 77; refine (hcan _ ((h.alloc (Nat.le_refl _) _).more (by simp))).mono ?_; rintro e w2 ⟨A2, n2, c2, rfl, hd2, hn2, hc2, hb2⟩; have O2 := (Own.new _ _ _ _).below hb2; obtain ⟨q0, q1, q2, q3⟩ := O2.facts; rw [← HM.out] at hd2; obtain rfl : n2 = 0 := hd2.len.symm.trans HL.out)
    go_ret
    rw [HD.out]
    exact ⟨rfl, ((bcall (bnew _ _) hb2).setCell (Nat.le_refl _) _).setCell (Nat.le_refl _) _⟩
  · have hMn : M ≠ 0 := by rw [HM.out]; omega
    have HLP := Lib.hid (digs_pos_len hMn)
    by_cases hz : z < 0
    · have HD : Hid (decZ z = 45 :: decs M) := by unfold Hid decZ; rw [if_pos hz, HM.out]
      have e2 : decide (z < 0) = true := decide_eq_true hz
      have hlen : 1 + (decs M).length ≤ 9223372036854775807 := by
        have h1 := decs_len' (lt_pow_digs M)
        omega
      clear hz0
      go_enter Try.func35, Try.ntmps35
      go_wp2_with (first
        | (go_at_call 77; refine (hcan _ ((h.alloc (Nat.le_refl _) _).more (by simp))).mono ?_; rintro e w2 ⟨A2, n2, c2, rfl, hd2, hn2, hc2, hb2⟩; have O2 := (Own.new _ _ _ _).below hb2; obtain ⟨q0, q1, q2, q3⟩ := O2.facts; rw [← HM.out] at hd2; have hn20 : 0 < n2 := Nat.lt_of_lt_of_eq HLP.out hd2.len; have hs2 : n2 ≤ 100000 := Nat.le_trans (Nat.le_of_eq hd2.len.symm) hsz; have hd3 := hd2.storeS O2 (.bool true) (.slice A2 n2 c2); have hnz : ((n2 : Int) == 0) = false := by (simp; omega))
        | (go_at_call 107; (with_reducible refine (toDecimal_any A2 n2 c2 M _ hd3 hn2 hc2 hs2 hMn).mono ?_); rintro e w3 ⟨rfl, hb3⟩; have O3 := (O2.set2 (.bool true) (.slice A2 n2 c2)).below hb3; obtain ⟨r0, r1, r2, r3⟩ := O3.facts))
      go_ret
      rw [HD.out]
      exact ⟨congrArg (fun s => Ending.returned (.string s)) (str_cons _), bcall (((bcall (bnew _ _) hb2).setCell (Nat.le_refl _) _).setCell (Nat.le_refl _) _) hb3⟩
    · have HD : Hid (decZ z = decs M) := by unfold Hid decZ; rw [if_neg hz, HM.out]
      have e2 : decide (z < 0) = false := decide_eq_false hz
      clear hz0
      go_enter Try.func35, Try.ntmps35
      go_wp2_with (first
        | (go_at_call 77; refine (hcan _ ((h.alloc (Nat.le_refl _) _).more (by simp))).mono ?_; rintro e w2 ⟨A2, n2, c2, rfl, hd2, hn2, hc2, hb2⟩; have O2 := (Own.new _ _ _ _).below hb2; obtain ⟨q0, q1, q2, q3⟩ := O2.facts; rw [← HM.out] at hd2; have hn20 : 0 < n2 := Nat.lt_of_lt_of_eq HLP.out hd2.len; have hs2 : n2 ≤ 100000 := Nat.le_trans (Nat.le_of_eq hd2.len.symm) hsz; have hd3 := hd2.storeS O2 (.bool false) (.slice A2 n2 c2); have hnz : ((n2 : Int) == 0) = false := by (simp; omega))
        | (go_at_call 107; (with_reducible refine (toDecimal_any A2 n2 c2 M _ hd3 hn2 hc2 hs2 hMn).mono ?_); rintro e w3 ⟨rfl, hb3⟩; have O3 := (O2.set2 (.bool false) (.slice A2 n2 c2)).below hb3; obtain ⟨r0, r1, r2, r3⟩ := O3.facts))
      go_ret
      rw [HD.out]
      exact ⟨rfl, bcall (((bcall (bnew _ _) hb2).setCell (Nat.le_refl _) _).setCell (Nat.le_refl _) _) hb3⟩
end Go.Proofs.Ytehoafpnmfkniaa
