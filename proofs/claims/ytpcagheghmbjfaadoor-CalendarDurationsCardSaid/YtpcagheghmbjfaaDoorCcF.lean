/-
  Calendar: writing durations, on both sides; the law on durations.
-/
import Derived.Test.YtpcagheghmbjfaaDoorCcE
set_option linter.unusedVariables false
set_option linter.unusedSimpArgs false
namespace Go.Proofs.YtpcagheghmbjfaaDoor
open Go.RowKit

def durT (q r : Nat) : List UInt8 := Lib.decDigits q ++ [58] ++ padN r 2
def fmtD (n : Int) : List UInt8 := if -1099511627776 ≤ n ∧ n ≤ 1099511627776 then (if n < 0 then 45 :: durT (n.natAbs / 60) (n.natAbs % 60) else durT (n.natAbs / 60) (n.natAbs % 60)) else []
def fmE (n : Int) : Int := if -1099511627776 ≤ n ∧ n ≤ 1099511627776 then 0 else 5
theorem dur_parts (q r : Nat) (hr : r < 100) (hq : q < 100000000000) : ∃ D R X1 X2 Y1 Y2 : List UInt8, ∃ LD : Nat, Lib.decDigits q = D ∧ padN r 2 = R ∧ LD ≤ 11 ∧
    (⟨D.toArray⟩ : ByteArray).size = LD ∧ (⟨R.toArray⟩ : ByteArray).size = 2 ∧ (⟨X2.toArray⟩ : ByteArray).size = LD + 1 ∧ (⟨Y1.toArray⟩ : ByteArray).size = LD + 1 ∧ (⟨Y2.toArray⟩ : ByteArray).size = LD + 2 ∧
    (⟨#[]⟩ : ByteArray) ++ ⟨D.toArray⟩ = ⟨D.toArray⟩ ∧ (⟨D.toArray⟩ : ByteArray) ++ ⟨#[58]⟩ = ⟨X2.toArray⟩ ∧ (⟨X2.toArray⟩ : ByteArray) ++ ⟨R.toArray⟩ = ⟨(durT q r).toArray⟩ ∧
    (⟨#[45]⟩ : ByteArray) ++ ⟨D.toArray⟩ = ⟨Y1.toArray⟩ ∧ (⟨Y1.toArray⟩ : ByteArray) ++ ⟨#[58]⟩ = ⟨Y2.toArray⟩ ∧ (⟨Y2.toArray⟩ : ByteArray) ++ ⟨R.toArray⟩ = ⟨(45 :: durT q r : List UInt8).toArray⟩ := by
  have l1 := pad_len (two_le hr)
  have l2 := dig_le (u := q) (k := 11) (by omega) (by omega)
  refine ⟨_, _, Lib.decDigits q, Lib.decDigits q ++ [58], 45 :: Lib.decDigits q, 45 :: Lib.decDigits q ++ [58], _, rfl, rfl, l2, bsize _, ?_, ?_, ?_, ?_, str_app [] _, str_app _ [58], str_app _ _, str_app [45] _, str_app _ [58], str_app _ _⟩
  · rw [bsize, l1]
  · rw [bsize, List.length_append]; rfl
  · rw [bsize, List.length_cons]
  · rw [bsize, List.length_append, List.length_cons]; rfl
set_option maxHeartbeats 4000000 in
set_option maxRecDepth 100000 in
theorem formatDuration_any (n : Int) (w : World) (hP : PowT w) : Calls Tryd.prog 33 #[.int .i64 n] w (RetTE w (fmtD n) (fmE n)) := by
  unfold fmtD fmE
  by_cases h : -1099511627776 ≤ n ∧ n ≤ 1099511627776
  · rw [if_pos h, if_pos h]
    obtain ⟨h1, h2⟩ := h
    by_cases hn : n < 0
    · rw [if_pos hn]
      obtain ⟨m, rfl⟩ : ∃ m : Nat, n = -(m : Int) := ⟨n.natAbs, by omega⟩
      rw [show (-(m : Int)).natAbs = m by omega]
      have hm : m ≤ 1099511627776 := by omega
      have hm0 : 0 < m := by omega
      obtain ⟨q, Hq⟩ : ∃ v, Hid (m / 60 = v) := ⟨_, rfl⟩
      obtain ⟨r, Hr⟩ : ∃ v, Hid (m % 60 = v) := ⟨_, rfl⟩
      have i1 : (m : Int) / 60 = (q : Int) := by have := Hq.out; omega
      have i2 : (m : Int) % 60 = (r : Int) := by have := Hr.out; omega
      have hq : q < 100000000000 := by have := Hq.out; omega
      have hr : r < 60 := by have := Hr.out; omega
      rw [Hq.out, Hr.out]
      have hf := fun w (hP : PowT w) => pFormat_any (q : Int) (by omega) (by omega) w hP
      have hp := fun w hP => padded_any r 2 (two_le (by omega)) (by omega) (by omega) w hP
      simp only [Lib.itoa_nonneg] at hf
      simp only [Int.cast_ofNat_Int] at hp
      obtain ⟨D, R, X1, X2, Y1, Y2, LD, e1, e2, hLD, s1, s2, s3, s4, s5, a1, a2, a3, a4, a5, a6⟩ := dur_parts q r (by omega) hq
      rw [e1] at hf
      rw [e2] at hp
      obtain ⟨T, HT⟩ : ∃ v, Hid ((45 :: durT q r : List UInt8) = v) := ⟨_, Lib.hid rfl⟩
      rw [HT.out] at a6 ⊢
      have hs58 : (⟨#[58]⟩ : ByteArray).size = 1 := rfl
      have hs45 : (⟨#[45]⟩ : ByteArray).size = 1 := rfl
      have j1 : decide (-(m : Int) < -1099511627776) = false := decide_eq_false (by omega)
      have j2 : decide (1099511627776 < -(m : Int)) = false := decide_eq_false (by omega)
      have j3 : ¬ -(m : Int) < -1099511627776 := by omega
      have j4 : ¬ 1099511627776 < -(m : Int) := by omega
      have P0 := Lib.hid hP
      clear e1 e2 hP h1 h2 a1 a2 a3 s3
      go_enter Tryd.func33, Tryd.ntmps33
      go_wp2_with (first
        | (go_at_call 59; (with_reducible refine (hf _ P0.out).mono ?_); rintro e w1 ⟨rfl, g1⟩; have P1 := Lib.hid (P0.out.below g1 (Nat.le_refl _)))
        | (go_at_call 60; (with_reducible refine (hp _ P1.out).mono ?_); rintro e w2 ⟨rfl, g2⟩)
        | fail)
      go_ret2
      exact ⟨rfl, ccallT g1 g2⟩
    · rw [if_neg hn]
      obtain ⟨m, rfl⟩ : ∃ m : Nat, n = (m : Int) := ⟨n.toNat, by omega⟩
      rw [Int.natAbs_natCast]
      have hm : m ≤ 1099511627776 := by omega
      obtain ⟨q, Hq⟩ : ∃ v, Hid (m / 60 = v) := ⟨_, rfl⟩
      obtain ⟨r, Hr⟩ : ∃ v, Hid (m % 60 = v) := ⟨_, rfl⟩
      have i1 : (m : Int) / 60 = (q : Int) := by have := Hq.out; omega
      have i2 : (m : Int) % 60 = (r : Int) := by have := Hr.out; omega
      have hq : q < 100000000000 := by have := Hq.out; omega
      have hr : r < 60 := by have := Hr.out; omega
      rw [Hq.out, Hr.out]
      have hf := fun w (hP : PowT w) => pFormat_any (q : Int) (by omega) (by omega) w hP
      have hp := fun w hP => padded_any r 2 (two_le (by omega)) (by omega) (by omega) w hP
      simp only [Lib.itoa_nonneg] at hf
      simp only [Int.cast_ofNat_Int] at hp
      obtain ⟨D, R, X1, X2, Y1, Y2, LD, e1, e2, hLD, s1, s2, s3, s4, s5, a1, a2, a3, a4, a5, a6⟩ := dur_parts q r (by omega) hq
      rw [e1] at hf
      rw [e2] at hp
      obtain ⟨T, HT⟩ : ∃ v, Hid (durT q r = v) := ⟨_, Lib.hid rfl⟩
      rw [HT.out] at a3 ⊢
      have hs58 : (⟨#[58]⟩ : ByteArray).size = 1 := rfl
      have hs0 : (⟨#[]⟩ : ByteArray).size = 0 := rfl
      have j1 : decide ((m : Int) < -1099511627776) = false := decide_eq_false (by omega)
      have j2 : decide (1099511627776 < (m : Int)) = false := decide_eq_false (by omega)
      have j3 : ¬ (m : Int) < -1099511627776 := by omega
      have j4 : ¬ 1099511627776 < (m : Int) := by omega
      have j5 : decide ((m : Int) < 0) = false := decide_eq_false (by omega)
      have P0 := Lib.hid hP
      clear e1 e2 hP h1 h2 a4 a5 a6 s4 s5 hn
      go_enter Tryd.func33, Tryd.ntmps33
      go_wp2_with (first
        | (go_at_call 59; (with_reducible refine (hf _ P0.out).mono ?_); rintro e w1 ⟨rfl, g1⟩; have P1 := Lib.hid (P0.out.below g1 (Nat.le_refl _)))
        | (go_at_call 60; (with_reducible refine (hp _ P1.out).mono ?_); rintro e w2 ⟨rfl, g2⟩)
        | fail)
      go_ret2
      exact ⟨rfl, ccallT g1 g2⟩
  · rw [if_neg h, if_neg h]
    clear hP
    by_cases hlo : n < -1099511627776
    · clear h
      go_enter Tryd.func33, Tryd.ntmps33
      go_wp2_with fail
      go_ret2
      exact ⟨rfl, Below.refl _ _⟩
    · have j1 : decide (n < -1099511627776) = false := by simpa using hlo
      have j2 : 1099511627776 < n := by omega
      clear h
      go_enter Tryd.func33, Tryd.ntmps33
      go_wp2_with fail
      go_ret2
      exact ⟨rfl, Below.refl _ _⟩
set_option maxHeartbeats 4000000 in
set_option maxRecDepth 100000 in
theorem rformatDuration_any (n : Int) (w : World) (hP : PowT w) : Calls Tryd.prog 34 #[.int .i64 n] w (RetTE w (fmtD n) (fmE n)) := by
  unfold fmtD fmE
  by_cases h : -1099511627776 ≤ n ∧ n ≤ 1099511627776
  · rw [if_pos h, if_pos h]
    obtain ⟨h1, h2⟩ := h
    by_cases hn : n < 0
    · rw [if_pos hn]
      obtain ⟨m, rfl⟩ : ∃ m : Nat, n = -(m : Int) := ⟨n.natAbs, by omega⟩
      rw [show (-(m : Int)).natAbs = m by omega]
      have hm : m ≤ 1099511627776 := by omega
      have hm0 : 0 < m := by omega
      obtain ⟨q, Hq⟩ : ∃ v, Hid (m / 60 = v) := ⟨_, rfl⟩
      obtain ⟨r, Hr⟩ : ∃ v, Hid (m % 60 = v) := ⟨_, rfl⟩
      have i1 : (m : Int) / 60 = (q : Int) := by have := Hq.out; omega
      have i2 : (m : Int) % 60 = (r : Int) := by have := Hr.out; omega
      have hq : q < 100000000000 := by have := Hq.out; omega
      have hr : r < 60 := by have := Hr.out; omega
      rw [Hq.out, Hr.out]
      have hf := fun w (hP : PowT w) => rFormat_any (q : Int) (by omega) (by omega) w hP
      have hp := fun w hP => rtwo_any r 2 (by omega) (by omega) w hP
      simp only [Lib.itoa_nonneg] at hf
      simp only [Int.cast_ofNat_Int] at hp
      obtain ⟨D, R, X1, X2, Y1, Y2, LD, e1, e2, hLD, s1, s2, s3, s4, s5, a1, a2, a3, a4, a5, a6⟩ := dur_parts q r (by omega) hq
      rw [e1] at hf
      rw [e2] at hp
      obtain ⟨T, HT⟩ : ∃ v, Hid ((45 :: durT q r : List UInt8) = v) := ⟨_, Lib.hid rfl⟩
      rw [HT.out] at a6 ⊢
      have hs58 : (⟨#[58]⟩ : ByteArray).size = 1 := rfl
      have hs45 : (⟨#[45]⟩ : ByteArray).size = 1 := rfl
      have j1 : decide (-(m : Int) < -1099511627776) = false := decide_eq_false (by omega)
      have j2 : decide (1099511627776 < -(m : Int)) = false := decide_eq_false (by omega)
      have j3 : ¬ -(m : Int) < -1099511627776 := by omega
      have j4 : ¬ 1099511627776 < -(m : Int) := by omega
      have P0 := Lib.hid hP
      clear e1 e2 hP h1 h2 a1 a2 a3 s3
      go_enter Tryd.func34, Tryd.ntmps34
      go_wp2_with (first
        | (go_at_call 61; (with_reducible refine (hf _ P0.out).mono ?_); rintro e w1 ⟨rfl, g1⟩; have P1 := Lib.hid (P0.out.below g1 (Nat.le_refl _)))
        | (go_at_call 53; (with_reducible refine (hp _ P1.out).mono ?_); rintro e w2 ⟨rfl, g2⟩)
        | fail)
      go_ret2
      exact ⟨rfl, ccallT g1 g2⟩
    · rw [if_neg hn]
      obtain ⟨m, rfl⟩ : ∃ m : Nat, n = (m : Int) := ⟨n.toNat, by omega⟩
      rw [Int.natAbs_natCast]
      have hm : m ≤ 1099511627776 := by omega
      obtain ⟨q, Hq⟩ : ∃ v, Hid (m / 60 = v) := ⟨_, rfl⟩
      obtain ⟨r, Hr⟩ : ∃ v, Hid (m % 60 = v) := ⟨_, rfl⟩
      have i1 : (m : Int) / 60 = (q : Int) := by have := Hq.out; omega
      have i2 : (m : Int) % 60 = (r : Int) := by have := Hr.out; omega
      have hq : q < 100000000000 := by have := Hq.out; omega
      have hr : r < 60 := by have := Hr.out; omega
      rw [Hq.out, Hr.out]
      have hf := fun w (hP : PowT w) => rFormat_any (q : Int) (by omega) (by omega) w hP
      have hp := fun w hP => rtwo_any r 2 (by omega) (by omega) w hP
      simp only [Lib.itoa_nonneg] at hf
      simp only [Int.cast_ofNat_Int] at hp
      obtain ⟨D, R, X1, X2, Y1, Y2, LD, e1, e2, hLD, s1, s2, s3, s4, s5, a1, a2, a3, a4, a5, a6⟩ := dur_parts q r (by omega) hq
      rw [e1] at hf
      rw [e2] at hp
      obtain ⟨T, HT⟩ : ∃ v, Hid (durT q r = v) := ⟨_, Lib.hid rfl⟩
      rw [HT.out] at a3 ⊢
      have hs58 : (⟨#[58]⟩ : ByteArray).size = 1 := rfl
      have hs0 : (⟨#[]⟩ : ByteArray).size = 0 := rfl
      have j1 : decide ((m : Int) < -1099511627776) = false := decide_eq_false (by omega)
      have j2 : decide (1099511627776 < (m : Int)) = false := decide_eq_false (by omega)
      have j3 : ¬ (m : Int) < -1099511627776 := by omega
      have j4 : ¬ 1099511627776 < (m : Int) := by omega
      have j5 : decide ((m : Int) < 0) = false := decide_eq_false (by omega)
      have P0 := Lib.hid hP
      clear e1 e2 hP h1 h2 a4 a5 a6 s4 s5 hn
      go_enter Tryd.func34, Tryd.ntmps34
      go_wp2_with (first
        | (go_at_call 61; (with_reducible refine (hf _ P0.out).mono ?_); rintro e w1 ⟨rfl, g1⟩; have P1 := Lib.hid (P0.out.below g1 (Nat.le_refl _)))
        | (go_at_call 53; (with_reducible refine (hp _ P1.out).mono ?_); rintro e w2 ⟨rfl, g2⟩)
        | fail)
      go_ret2
      exact ⟨rfl, ccallT g1 g2⟩
  · rw [if_neg h, if_neg h]
    clear hP
    by_cases hlo : n < -1099511627776
    · clear h
      go_enter Tryd.func34, Tryd.ntmps34
      go_wp2_with fail
      go_ret2
      exact ⟨rfl, Below.refl _ _⟩
    · have j1 : decide (n < -1099511627776) = false := by simpa using hlo
      have j2 : 1099511627776 < n := by omega
      clear h
      go_enter Tryd.func34, Tryd.ntmps34
      go_wp2_with fail
      go_ret2
      exact ⟨rfl, Below.refl _ _⟩
theorem fm_len (n : Int) : (fmtD n).length ≤ 100 := by
  unfold fmtD
  by_cases h : -1099511627776 ≤ n ∧ n ≤ 1099511627776
  · have l1 := pad_len (two_le (u := n.natAbs % 60) (by omega))
    have l2 := dig_le (u := n.natAbs / 60) (k := 11) (by omega) (by omega)
    rw [if_pos h]
    unfold durT
    split <;> simp only [List.length_cons, List.length_append, List.length_nil, l1] <;> omega
  · rw [if_neg h]; exact Nat.zero_le _
theorem dur_ok {q r : Nat} (hq : q < 100000000000) (hr : r < 60) : okP (durT q r) = true ∧ decN (duH (durT q r)) = q ∧ decN (duM (durT q r)) = r ∧ (cutB (durT q r)) = (durT q r, false) := by
  obtain ⟨d1, d2, d3, d4⟩ := dec_ok q
  have l2 := dig_le (u := q) (k := 11) (by omega) (by omega)
  have a2 := pad_all r 2
  have v2 := pad_dec r 2
  obtain ⟨t, u, e2⟩ := list2 (pad_len (two_le (u := r) (by omega)))
  rw [e2] at a2 v2
  have hh : hoursB (Lib.decDigits q) = true := by
    unfold hoursB
    rw [d2, decide_eq_true (show 1 ≤ (Lib.decDigits q).length from d1), decide_eq_true l2]
    rcases Nat.eq_zero_or_pos q with h | h
    · rw [h, dec_small (by omega)]; rfl
    · rw [decide_eq_true (d4 h)]; rfl
  have hT : durT q r = Lib.decDigits q ++ [58, t, u] := by unfold durT; rw [e2, List.append_assoc]; rfl
  rw [hT]
  obtain ⟨D, hD⟩ : ∃ v, Lib.decDigits q = v := ⟨_, rfl⟩
  rw [hD] at d1 d2 d3 hh ⊢
  have hL : (D ++ [58, t, u]).length = D.length + 3 := by rw [List.length_append]; rfl
  have hH : duH (D ++ [58, t, u]) = D := by
    unfold duH; rw [hL, show D.length + 3 - 3 = D.length by omega]; exact List.take_left' rfl
  have hM : duM (D ++ [58, t, u]) = [t, u] := by
    unfold duM
    rw [hL, show D.length + 3 - 2 = D.length + 1 by omega, show D ++ [58, t, u] = (D ++ [58]) ++ [t, u] by simp]
    exact List.drop_left' (by simp)
  have hb : bAt (D ++ [58, t, u]) D.length = 58 := by
    unfold bAt; simp [List.getD]
  refine ⟨?_, by rw [hH, d3], by rw [hM, v2], ?_⟩
  · unfold okP
    rw [hH, hM, hL, show D.length + 3 - 3 = D.length by omega, hb, hh, a2, decide_eq_true (show 4 ≤ D.length + 3 by omega)]; rfl
  · unfold cutB
    have hd := dg_at d2 d1
    have h0 : bAt (D ++ [58, t, u]) 0 = bAt D 0 := by
      unfold bAt; simp [List.getD, List.getElem?_append, d1]
    rw [if_neg (by rw [h0]; omega)]
theorem cutB_neg (l : List UInt8) : cutB (45 :: l) = (l, true) := by
  unfold cutB
  rw [if_pos ⟨by simp, rfl⟩]; rfl
theorem fm_back {n : Int} (h : -1099511627776 ≤ n ∧ n ≤ 1099511627776) : fmE n = 0 ∧ duE (fmtD n) = 0 ∧ duV (fmtD n) = n := by
  refine ⟨by unfold fmE; rw [if_pos h], ?_⟩
  obtain ⟨o1, o2, o3, o4⟩ := dur_ok (q := n.natAbs / 60) (r := n.natAbs % 60) (by omega) (by omega)
  unfold fmtD
  rw [if_pos h]
  by_cases hn : n < 0
  · rw [if_pos hn]
    have hN : duN (45 :: durT (n.natAbs / 60) (n.natAbs % 60)) = n.natAbs := by
      unfold duN; rw [cutB_neg, o2, o3]; omega
    have hS : duS (45 :: durT (n.natAbs / 60) (n.natAbs % 60)) = true := by
      unfold duS; rw [hN, cutB_neg, o1, decide_eq_false (by omega)]; rfl
    have hR : duR (45 :: durT (n.natAbs / 60) (n.natAbs % 60)) = true := by
      unfold duR; rw [hN, cutB_neg, o3, decide_eq_true ⟨by omega, by omega⟩]
    obtain ⟨g1, g2⟩ := du_good hS hR
    refine ⟨g2, ?_⟩
    rw [g1, hN, cutB_neg, if_pos rfl]; omega
  · rw [if_neg hn]
    have hN : duN (durT (n.natAbs / 60) (n.natAbs % 60)) = n.natAbs := by
      unfold duN; rw [o4, o2, o3]; omega
    have hS : duS (durT (n.natAbs / 60) (n.natAbs % 60)) = true := by
      unfold duS; rw [o4, o1]; rfl
    have hR : duR (durT (n.natAbs / 60) (n.natAbs % 60)) = true := by
      unfold duR; rw [hN, o4, o3, decide_eq_true ⟨by omega, by omega⟩]
    obtain ⟨g1, g2⟩ := du_good hS hR
    refine ⟨g2, ?_⟩
    rw [g1, hN, o4, if_neg (by simp)]; omega

set_option maxHeartbeats 4000000 in
set_option maxRecDepth 1000000 in
theorem calendarDurations_any (l : List UInt8) (hl : l.length ≤ 9223372036854775807) (n : Int) (w : World) (hT : MonT w) (hP : PowT w) :
    Calls Tryd.prog 8 #[.string ⟨l.toArray⟩, .int .i64 n] w (RetB1 w true) := by
  have hp1 := parseDuration_any l hl
  have hr1 := rparseDuration_any l hl
  have hp2 := fun w hP => formatDuration_any n w hP
  have hr2 := fun w hP => rformatDuration_any n w hP
  have hp3 := parseDuration_any (fmtD n) (by have := fm_len n; omega)
  unfold RetNE at hp1 hr1 hp3
  unfold RetTE at hp2 hr2
  have hb := @fm_back n
  have hn : ¬ (-1099511627776 ≤ n ∧ n ≤ 1099511627776) → fmE n = 5 := fun h => by unfold fmE; rw [if_neg h]
  obtain ⟨V1, HV1⟩ : ∃ v, Hid (duV l = v) := ⟨_, rfl⟩
  obtain ⟨E1, HE1⟩ : ∃ v, Hid (duE l = v) := ⟨_, rfl⟩
  simp only [HV1.out, HE1.out] at hp1 hr1
  obtain ⟨S2, HS2⟩ : ∃ v, Hid (fmtD n = v) := ⟨_, rfl⟩
  simp only [HS2.out] at hp2 hr2 hp3 hb
  obtain ⟨V3, HV3⟩ : ∃ v, Hid (duV S2 = v) := ⟨_, rfl⟩
  obtain ⟨E3, HE3⟩ : ∃ v, Hid (duE S2 = v) := ⟨_, rfl⟩
  simp only [HV3.out, HE3.out] at hp3 hb
  obtain ⟨E2, HE2⟩ : ∃ v, Hid (fmE n = v) := ⟨_, rfl⟩
  simp only [HE2.out] at hp2 hr2 hb hn
  have K0 := Lib.hid (Keep.start hT hP)
  clear hT hP hl
  by_cases hin : -1099511627776 ≤ n ∧ n ≤ 1099511627776
  · obtain ⟨rfl, rfl, e4⟩ := hb hin
    simp only [e4] at hp3
    clear hb hn hin e4
    go_enter Tryd.func8, Tryd.ntmps8
    go_wp2_with (first
      | (go_at_call 31; first
          | ((with_reducible refine (hp1 _).mono ?_); rintro e w1 ⟨rfl, g1⟩; have K1 := Lib.hid (K0.out.call g1); clear g1)
          | ((with_reducible refine (hp3 _).mono ?_); rintro e w5 ⟨rfl, g5⟩; have K5 := Lib.hid (K4.out.call g5); clear g5))
      | (go_at_call 32; (with_reducible refine (hr1 _).mono ?_); rintro e w2 ⟨rfl, g2⟩; have K2 := Lib.hid (K1.out.call g2); clear g2)
      | (go_at_call 33; (with_reducible refine (hp2 _ K2.out.p).mono ?_); rintro e w3 ⟨rfl, g3⟩; have K3 := Lib.hid (K2.out.call g3); clear g3)
      | (go_at_call 34; (with_reducible refine (hr2 _ K3.out.p).mono ?_); rintro e w4 ⟨rfl, g4⟩; have K4 := Lib.hid (K3.out.call g4); clear g4)
      | (go_at_call 16; (with_reducible refine (awake6_any _ K5.out.t).mono ?_); rintro e w7 ⟨rfl, g7⟩; have K7 := Lib.hid (K5.out.call g7))
      | fail)
    go_ret
    exact ⟨rfl, K7.out.b⟩
  · obtain rfl := hn hin
    clear hb hn hin
    go_enter Tryd.func8, Tryd.ntmps8
    go_wp2_with (first
      | (go_at_call 31; first
          | ((with_reducible refine (hp1 _).mono ?_); rintro e w1 ⟨rfl, g1⟩; have K1 := Lib.hid (K0.out.call g1); clear g1)
          | ((with_reducible refine (hp3 _).mono ?_); rintro e w5 ⟨rfl, g5⟩; have K5 := Lib.hid (K4.out.call g5); clear g5))
      | (go_at_call 32; (with_reducible refine (hr1 _).mono ?_); rintro e w2 ⟨rfl, g2⟩; have K2 := Lib.hid (K1.out.call g2); clear g2)
      | (go_at_call 33; (with_reducible refine (hp2 _ K2.out.p).mono ?_); rintro e w3 ⟨rfl, g3⟩; have K3 := Lib.hid (K2.out.call g3); clear g3)
      | (go_at_call 34; (with_reducible refine (hr2 _ K3.out.p).mono ?_); rintro e w4 ⟨rfl, g4⟩; have K4 := Lib.hid (K3.out.call g4); clear g4)
      | (go_at_call 16; (with_reducible refine (awake6_any _ K4.out.t).mono ?_); rintro e w7 ⟨rfl, g7⟩; have K7 := Lib.hid (K4.out.call g7))
      | fail)
    go_ret
    exact ⟨rfl, K7.out.b⟩
end Go.Proofs.YtpcagheghmbjfaaDoor

