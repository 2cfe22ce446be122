/-
  Calendar: writing dates and clock times, on both sides.
-/
import Derived.Test.YtpcagheghmbjfaaDoorCaR
import Derived.Test.YtpcagheghmbjfaaDoorCaD
set_option linter.unusedVariables false
set_option linter.unusedSimpArgs false
namespace Go.Proofs.YtpcagheghmbjfaaDoor
open Go.RowKit

def RetTE (w : World) (l : List UInt8) (z : Int) (e : Ending) (w' : World) : Prop := e = .returned (.tuple #[.string ⟨l.toArray⟩, .int .i64 z]) ∧ Below w.heap.size w w'
def fdT (y m d : Int) : List UInt8 := if dateB y m d = true then dateT y.toNat m.toNat d.toNat else []
def fdE (y m d : Int) : Int := if dateB y m d = true then 0 else 5
def fcT (c : Int) : List UInt8 := if 0 ≤ c ∧ c < 1440 then clockT (c / 60).toNat (c % 60).toNat else []
def fcE (c : Int) : Int := if 0 ≤ c ∧ c < 1440 then 0 else 5
/-- A date that is one, in natural numbers. -/
theorem date_nat {y m d : Int} (h : dateB y m d = true) : ∃ Y k D : Nat, y = (Y : Int) ∧ m = (k : Int) ∧ d = (D : Int) ∧ IsD (Y : Int) k (D : Int) ∧ 1999 ≤ Y ∧ Y ≤ 2100 ∧ D ≤ 31 := by
  obtain ⟨y1, y2, k, rfl, hk⟩ := date_true h
  obtain ⟨Y, rfl⟩ : ∃ Y : Nat, y = (Y : Int) := ⟨y.toNat, by omega⟩
  obtain ⟨D, rfl⟩ : ∃ D : Nat, d = (D : Int) := ⟨d.toNat, by have := hk.d1; omega⟩
  have := hk.d2
  have := ml_pos (b := leapB (Y : Int)) hk.m1 hk.m2
  exact ⟨Y, k, D, rfl, rfl, rfl, hk, by omega, by omega, by omega⟩
set_option maxHeartbeats 4000000 in
set_option maxRecDepth 100000 in
theorem clockText_any (c : Nat) (hc : c < 1440) (w : World) (hP : PowT w) : Calls Tryd.prog 54 #[.int .i64 (c : Int)] w (RetT w (clockT (c / 60) (c % 60))) := by
  have l1 : c / 60 < 100 := by omega
  have l2 : c % 60 < 100 := by omega
  have i1 : (c : Int) / 60 = ((c / 60 : Nat) : Int) := by omega
  have i2 : (c : Int) % 60 = ((c % 60 : Nat) : Int) := by omega
  obtain ⟨h, Hh⟩ : ∃ v, Hid (c / 60 = v) := ⟨_, rfl⟩
  obtain ⟨m, Hm⟩ : ∃ v, Hid (c % 60 = v) := ⟨_, rfl⟩
  rw [Hh.out] at l1 i1 ⊢
  rw [Hm.out] at l2 i2 ⊢
  have h1 := fun w hP => padded_any h 2 (two_le l1) (by omega) (by omega) w hP
  have h2 := fun w hP => padded_any m 2 (two_le l2) (by omega) (by omega) w hP
  simp only [Int.cast_ofNat_Int] at h1 h2
  obtain ⟨P1, P2, X1, e1, e2, s1, s2, s3, a1, a2⟩ := clock_parts h m l1 l2
  rw [e1] at h1
  rw [e2] at h2
  obtain ⟨R, HR⟩ : ∃ v, Hid (clockT h m = v) := ⟨_, rfl⟩
  rw [HR.out] at a2 ⊢
  have hs58 : (⟨#[58]⟩ : ByteArray).size = 1 := rfl
  clear e1 e2
  have HP0 := Lib.hid hP
  clear hP
  go_enter Tryd.func54, Tryd.ntmps54
  go_wp2_with (first
    | (go_at_call 60; first
        | ((with_reducible refine (h1 _ HP0.out).mono ?_); rintro e w1 ⟨rfl, g1⟩; have HP1 := Lib.hid (HP0.out.below g1 (Nat.le_refl _)))
        | ((with_reducible refine (h2 _ HP1.out).mono ?_); rintro e w2 ⟨rfl, g2⟩))
    | fail)
  go_ret
  exact ⟨rfl, ccallT g1 g2⟩
set_option maxHeartbeats 4000000 in
set_option maxRecDepth 100000 in
theorem formatDate_any (y m d : Int) (h0 : -9223372036854775808 ≤ y) (h1 : y ≤ 9223372036854775807) (w : World) (hT : MonT w) (hP : PowT w) : Calls Tryd.prog 25 #[.agg #[.int .i64 y, .int .i64 m, .int .i64 d]] w (RetTE w (fdT y m d) (fdE y m d)) := by
  have hid := fun w hT => isDate_any y m d h0 h1 w hT
  have hb := box_new w y m d 23
  have hT2 := hT.box (.cells #[Value.int IntKind.i64 y, Value.int IntKind.i64 m, Value.int IntKind.i64 d] 23)
  have hP2 := hP.box (.cells #[Value.int IntKind.i64 y, Value.int IntKind.i64 m, Value.int IntKind.i64 d] 23)
  have hv : fdT y m d = if dateB y m d = true then dateT y.toNat m.toNat d.toNat else [] := rfl
  have he : fdE y m d = if dateB y m d = true then 0 else 5 := rfl
  have hdt := @date_nat y m d
  obtain ⟨V, HV⟩ : ∃ v, Hid (fdT y m d = v) := ⟨_, rfl⟩
  obtain ⟨E, HE⟩ : ∃ v, Hid (fdE y m d = v) := ⟨_, rfl⟩
  rw [HV.out, HE.out]
  rw [HV.out] at hv
  rw [HE.out] at he
  obtain ⟨B, HB⟩ : ∃ v, Hid (dateB y m d = v) := ⟨_, rfl⟩
  rw [HB.out] at hid hv he hdt
  have HBX := Lib.hid hb
  have HT2 := Lib.hid hT2
  have HP2 := Lib.hid hP2
  clear hb hT2 hT hP hP2
  unfold dateV at *
  cases B with
  | false =>
    obtain rfl : V = [] := hv
    obtain rfl : E = 5 := he
    clear hdt
    go_enter Tryd.func25, Tryd.ntmps25
    go_wp2_with (first
      | (go_at_call 39; (with_reducible refine (hid _ HT2.out).mono ?_); rintro e w1 ⟨rfl, g1⟩)
      | fail)
    go_ret2
    exact ⟨rfl, ccall g1⟩
  | true =>
    obtain ⟨Y, k, D, rfl, rfl, rfl, hk, y1, y2, d2⟩ := hdt rfl
    have m2 := hk.m2
    have hdx := fun w hP => dateText_any Y k D (by omega) (by omega) (by omega) w hP
    rw [if_pos rfl, Int.toNat_natCast, Int.toNat_natCast, Int.toNat_natCast] at hv
    rw [← hv] at hdx
    obtain rfl : E = 0 := he
    clear hdt hk hv
    go_enter Tryd.func25, Tryd.ntmps25
    go_wp2_with (first
      | (go_at_call 39; (with_reducible refine (hid _ HT2.out).mono ?_); rintro e w1 ⟨rfl, g1⟩; obtain ⟨c0, c1, c2⟩ := HBX.out.below g1 (by simp); have HP3 := Lib.hid (HP2.out.below g1 (Nat.le_refl _)))
      | (go_at_call 52; (with_reducible refine (hdx _ HP3.out).mono ?_); rintro e w2 ⟨rfl, g2⟩)
      | fail)
    go_ret2
    exact ⟨rfl, ccall2 (ccall g1) g2 (by have := g1.size; simp at this; omega)⟩
set_option maxHeartbeats 4000000 in
set_option maxRecDepth 100000 in
theorem formatClock_any (c : Int) (w : World) (hP : PowT w) : Calls Tryd.prog 29 #[.int .i64 c] w (RetTE w (fcT c) (fcE c)) := by
  unfold fcT fcE
  by_cases hin : 0 ≤ c ∧ c < 1440
  · rw [if_pos hin, if_pos hin]
    obtain ⟨n, rfl⟩ : ∃ n : Nat, c = (n : Int) := ⟨c.toNat, by omega⟩
    obtain ⟨i0, i1⟩ := hin
    have hc := clockText_any n (by omega) w hP
    rw [show ((n : Int) / 60).toNat = n / 60 by omega, show ((n : Int) % 60).toNat = n % 60 by omega]
    obtain ⟨R, HR⟩ : ∃ v, Hid (clockT (n / 60) (n % 60) = v) := ⟨_, rfl⟩
    rw [HR.out] at hc ⊢
    have q1 : decide ((n : Int) < 0) = false := by simp
    have q2 : decide ((1440 : Int) ≤ (n : Int)) = false := by simp; omega
    clear hP
    go_enter Tryd.func29, Tryd.ntmps29
    go_wp2_with (first
      | (go_at_call 54; (with_reducible refine hc.mono ?_); rintro e w1 ⟨rfl, g1⟩)
      | fail)
    go_ret2
    exact ⟨rfl, g1⟩
  · rw [if_neg hin, if_neg hin]
    clear hP
    by_cases hlo : c < 0
    · clear hin
      go_enter Tryd.func29, Tryd.ntmps29
      go_wp2_with fail
      go_ret2
      exact ⟨rfl, Below.refl _ _⟩
    · have q1 : decide (c < 0) = false := by simpa using hlo
      have q2 : 1440 ≤ c := by omega
      clear hin
      go_enter Tryd.func29, Tryd.ntmps29
      go_wp2_with fail
      go_ret2
      exact ⟨rfl, Below.refl _ _⟩
set_option maxHeartbeats 4000000 in
set_option maxRecDepth 100000 in
theorem rformatClock_any (c : Int) (w : World) (hP : PowT w) : Calls Tryd.prog 30 #[.int .i64 c] w (RetTE w (fcT c) (fcE c)) := by
  unfold fcT fcE
  by_cases hin : 0 ≤ c ∧ c < 1440
  · rw [if_pos hin, if_pos hin]
    obtain ⟨n, rfl⟩ : ∃ n : Nat, c = (n : Int) := ⟨c.toNat, by omega⟩
    obtain ⟨i0, i3⟩ := hin
    rw [show ((n : Int) / 60).toNat = n / 60 by omega, show ((n : Int) % 60).toNat = n % 60 by omega]
    have l1 : n / 60 < 100 := by omega
    have l2 : n % 60 < 100 := by omega
    have i1 : (n : Int) / 60 = ((n / 60 : Nat) : Int) := by omega
    have i2 : (n : Int) % 60 = ((n % 60 : Nat) : Int) := by omega
    obtain ⟨h, Hh⟩ : ∃ v, Hid (n / 60 = v) := ⟨_, rfl⟩
    obtain ⟨m, Hm⟩ : ∃ v, Hid (n % 60 = v) := ⟨_, rfl⟩
    rw [Hh.out] at l1 i1 ⊢
    rw [Hm.out] at l2 i2 ⊢
    have h1 := fun w hP => rtwo_any h 2 (by omega) (by omega) w hP
    have h2 := fun w hP => rtwo_any m 2 (by omega) (by omega) w hP
    simp only [Int.cast_ofNat_Int] at h1 h2
    obtain ⟨P1, P2, X1, e1, e2, s1, s2, s3, a1, a2⟩ := clock_parts h m l1 l2
    rw [e1] at h1
    rw [e2] at h2
    obtain ⟨R, HR⟩ : ∃ v, Hid (clockT h m = v) := ⟨_, rfl⟩
    rw [HR.out] at a2 ⊢
    have hs58 : (⟨#[58]⟩ : ByteArray).size = 1 := rfl
    clear e1 e2
    have HP0 := Lib.hid hP
    clear hP
    have q1 : decide ((n : Int) < 0) = false := by simp
    have q2 : decide ((1439 : Int) < (n : Int)) = false := by simp; omega
    go_enter Tryd.func30, Tryd.ntmps30
    go_wp2_with (first
      | (go_at_call 53; first
          | ((with_reducible refine (h1 _ HP0.out).mono ?_); rintro e w1 ⟨rfl, g1⟩; have HP1 := Lib.hid (HP0.out.below g1 (Nat.le_refl _)))
          | ((with_reducible refine (h2 _ HP1.out).mono ?_); rintro e w2 ⟨rfl, g2⟩))
      | fail)
    go_ret2
    exact ⟨rfl, ccallT g1 g2⟩
  · rw [if_neg hin, if_neg hin]
    clear hP
    by_cases hlo : c < 0
    · clear hin
      go_enter Tryd.func30, Tryd.ntmps30
      go_wp2_with fail
      go_ret2
      exact ⟨rfl, Below.refl _ _⟩
    · have q1 : decide (c < 0) = false := by simpa using hlo
      have q2 : 1439 < c := by omega
      clear hin
      go_enter Tryd.func30, Tryd.ntmps30
      go_wp2_with fail
      go_ret2
      exact ⟨rfl, Below.refl _ _⟩
set_option maxHeartbeats 4000000 in
set_option maxRecDepth 100000 in
theorem rformatDate_any (y m d : Int) (w : World) (hP : PowT w) : Calls Tryd.prog 26 #[.agg #[.int .i64 y, .int .i64 m, .int .i64 d]] w (RetTE w (fdT y m d) (fdE y m d)) := by
  have hid := risDate_any y m d
  have hb := box_new w y m d 23
  have hP2 := hP.box (.cells #[Value.int IntKind.i64 y, Value.int IntKind.i64 m, Value.int IntKind.i64 d] 23)
  have hv : fdT y m d = if dateB y m d = true then dateT y.toNat m.toNat d.toNat else [] := rfl
  have he : fdE y m d = if dateB y m d = true then 0 else 5 := rfl
  have hdt := @date_nat y m d
  obtain ⟨V, HV⟩ : ∃ v, Hid (fdT y m d = v) := ⟨_, rfl⟩
  obtain ⟨E, HE⟩ : ∃ v, Hid (fdE y m d = v) := ⟨_, rfl⟩
  rw [HV.out, HE.out]
  rw [HV.out] at hv
  rw [HE.out] at he
  obtain ⟨B, HB⟩ : ∃ v, Hid (dateB y m d = v) := ⟨_, rfl⟩
  rw [HB.out] at hid hv he hdt
  have HBX := Lib.hid hb
  have HP2 := Lib.hid hP2
  clear hb hP hP2
  unfold dateV at *
  cases B with
  | false =>
    obtain rfl : V = [] := hv
    obtain rfl : E = 5 := he
    clear hdt
    go_enter Tryd.func26, Tryd.ntmps26
    go_wp2_with (first
      | (go_at_call 41; (with_reducible refine (hid _).mono ?_); rintro e w1 ⟨rfl, g1⟩)
      | fail)
    go_ret2
    exact ⟨rfl, ccall g1⟩
  | true =>
    obtain ⟨Y, k, D, rfl, rfl, rfl, hk, y1, y2, d2⟩ := hdt rfl
    have m2 := hk.m2
    have h1 := fun w hP => rtwo_any Y 4 (by omega) (by omega) w hP
    have h2 := fun w hP => rtwo_any k 2 (by omega) (by omega) w hP
    have h3 := fun w hP => rtwo_any D 2 (by omega) (by omega) w hP
    simp only [Int.cast_ofNat_Int] at h1 h2 h3
    obtain ⟨P1, P2, P3, X1, X2, X3, e1, e2, e3, s1, s2, s3, s4, s5, s6, t1, t2, t3, t4⟩ := date_parts Y k D (by omega) (by omega) (by omega)
    rw [e1] at h1
    rw [e2] at h2
    rw [e3] at h3
    have hs45 : (⟨#[45]⟩ : ByteArray).size = 1 := rfl
    rw [if_pos rfl, Int.toNat_natCast, Int.toNat_natCast, Int.toNat_natCast] at hv
    rw [← hv] at t4
    obtain rfl : E = 0 := he
    clear hdt hk hv e1 e2 e3
    go_enter Tryd.func26, Tryd.ntmps26
    go_upto_region 3 with (first
      | (go_at_call 41; (with_reducible refine (hid _).mono ?_); rintro e w0 ⟨rfl, g0⟩; obtain ⟨a0, a1, a2⟩ := HBX.out.below g0 (by simp); have HP0 := Lib.hid (HP2.out.below g0 (Nat.le_refl _)).drew; have B0 := Lib.hid (ccall g0); have L0 := Lib.hid g0.size; clear g0)
      | fail)
    go_region_held3 (fun w' => w'.cell? ⟨w.heap.size, 0, none⟩ = some (.int .i64 (Y : Int)) ∧ w'.cell? ⟨w.heap.size, 1, none⟩ = some (.int .i64 (k : Int)) ∧ w'.cell? ⟨w.heap.size, 2, none⟩ = some (.int .i64 (D : Int)))
      (first | exact ⟨by simpa using a0, by simpa using a1, by simpa using a2⟩ | exact ⟨b0, b1, b2⟩ | exact ⟨c0, c1, c2⟩ | exact ⟨d0, d1, d2⟩)
      (first
      | (go_at_call 53; first
          | ((with_reducible refine (h1 _ HP0.out).mono ?_); rintro e w1 ⟨rfl, g1⟩; obtain ⟨b0, b1, b2⟩ := (show BoxD w0 w.heap.size _ _ _ from ⟨a0, a1, a2⟩).drew.below g1 (by have := L0.out; simp at this ⊢; omega); have HP1 := Lib.hid (HP0.out.below g1 (Nat.le_refl _)); have B1 := Lib.hid (ccall2 B0.out.drew g1 B0.out.drew.size); have L1 := Lib.hid (Nat.le_trans L0.out g1.size); clear g1)
          | ((with_reducible refine (h2 _ HP1.out).mono ?_); rintro e w2 ⟨rfl, g2⟩; obtain ⟨c0, c1, c2⟩ := (show BoxD w1 w.heap.size _ _ _ from ⟨b0, b1, b2⟩).below g2 (by have := L1.out; simp at this; omega); have HP2 := Lib.hid (HP1.out.below g2 (Nat.le_refl _)); have B2 := Lib.hid (ccall2 B1.out g2 B1.out.size); have L2 := Lib.hid (Nat.le_trans L1.out g2.size); clear g2)
          | ((with_reducible refine (h3 _ HP2.out).mono ?_); rintro e w3 ⟨rfl, g3⟩; obtain ⟨d0, d1, d2⟩ := (show BoxD w2 w.heap.size _ _ _ from ⟨c0, c1, c2⟩).below g3 (by have := L2.out; simp at this; omega); have B3 := Lib.hid (ccall2 B2.out g3 B2.out.size); clear g3))
      | fail)
    all_goals
      go_wp2_with fail
      go_ret2
      exact ⟨rfl, B3.out⟩
end Go.Proofs.YtpcagheghmbjfaaDoor

