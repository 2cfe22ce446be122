/-
  Zones: the law on zones without shifts.
-/
import Derived.Test.YtiohakpbgmignaaZbJ
set_option linter.unusedVariables false
set_option linter.unusedSimpArgs false
namespace Go.Proofs.Ytiohakpbgmignaa
open Go.RowKit

theorem one_in (w : World) (t : Int) : IIn (w.alloc (.cells #[.int .i64 t] 3)) (some ⟨w.heap.size, 0, none⟩) 1 [t] := ⟨rfl, .inr ⟨w.heap.size, 0, rfl, by simp, fun i hi => by
  have h0 : i = 0 := by omega
  subst h0
  simp [iAt]⟩⟩
theorem scan_two {p : Int → Bool} {sz a : Int} {m : Nat} {N R : Int} (h : scan p sz a m = (N, R)) (n : Nat) (hp : ∀ u, a + m ≤ u → u < a + m + n → p u = true) : scan p sz a (m + n) = (N, R + n) := by
  rw [scan_all m n hp, h]
theorem scan_gap {p : Int → Bool} {sz a : Int} {m : Nat} {N R : Int} (h : scan p sz a m = (N, R)) (n : Nat) (hn : 0 < n) (hp : ∀ u, a + m ≤ u → u < a + m + n → p u = false) : scan p sz a (m + n) = (if sz ≤ R ∧ 0 < R then N + 1 else N, 0) := by
  obtain ⟨k, rfl⟩ : ∃ k, n = k + 1 := ⟨n - 1, by omega⟩
  rw [scan_none m k hp, h]; rfl
theorem uniform_nights {o f bl a : Int} (hb : 0 < bl ∧ bl < 1440) {p : Int → Bool} (hp : ∀ u, p u = decide ((u + o - f) % 1440 < bl)) : 1 ≤ nights p bl a 2880 ∧ nights p bl a 2880 ≤ 2 := by
  unfold nights
  rw [if_neg (by omega)]
  -- σ: the minutes up to the first start
  obtain ⟨σ, hσ⟩ : ∃ σ : Nat, (σ : Int) = (f - o - a) % 1440 := ⟨((f - o - a) % 1440).toNat, by omega⟩
  have hσ2 : (a + σ + o - f) % 1440 = 0 := by omega
  have hσ3 : σ < 1440 := by omega
  obtain ⟨L, hL⟩ : ∃ L : Nat, (L : Int) = bl := ⟨bl.toNat, by omega⟩
  have on : ∀ u : Int, (∃ j : Int, 0 ≤ j ∧ j < L ∧ (u = a + σ + j ∨ u = a + σ + 1440 + j ∨ u = a + σ - 1440 + j)) → p u = true := by
    rintro u ⟨j, h1, h2, h3⟩
    rw [hp]; exact decide_eq_true (by omega)
  have off : ∀ u : Int, (∃ j : Int, (L : Int) ≤ j ∧ j < 1440 ∧ (u = a + σ + j ∨ u = a + σ + 1440 + j ∨ u = a + σ - 1440 + j)) → p u = false := by
    rintro u ⟨j, h1, h2, h3⟩
    rw [hp]; exact decide_eq_false (by omega)
  -- at σ nothing is counted and no night goes on
  have s0 : scan p bl a 0 = (0, 0) := rfl
  have h1 : scan p bl a σ = (0, 0) := by
    by_cases hz : σ = 0
    · subst hz; rfl
    · obtain ⟨e, he⟩ : ∃ e : Nat, e = σ + L - 1440 := ⟨_, rfl⟩
      have t1 := scan_two s0 e (fun u h3 h4 => on u ⟨u - a - σ + 1440, by omega, by omega, by omega⟩)
      have t2 := scan_gap t1 (σ - e) (by omega) (fun u h3 h4 => off u ⟨u - a - σ + 1440, by omega, by omega, by omega⟩)
      rw [show 0 + e + (σ - e) = σ by omega, if_neg (by omega)] at t2
      exact t2
  have h2 := scan_two h1 L (fun u h3 h4 => on u ⟨u - a - σ, by omega, by omega, by omega⟩)
  have h3 := scan_gap h2 (1440 - L) (by omega) (fun u h3 h4 => off u ⟨u - a - σ, by omega, by omega, by omega⟩)
  rw [if_pos (by omega), show σ + L + (1440 - L) = σ + 1440 by omega] at h3
  -- what is left: 1440 - σ minutes
  by_cases hr : σ + L ≤ 1440
  · have h4 := scan_two h3 L (fun u h3 h4 => on u ⟨u - a - σ - 1440, by omega, by omega, by omega⟩)
    by_cases hr2 : σ + L = 1440
    · rw [show σ + 1440 + L = 2880 by omega] at h4
      rw [h4]; unfold fin; simp only; split <;> omega
    · have h5 := scan_gap h4 (1440 - σ - L) (by omega) (fun u h3 h4 => off u ⟨u - a - σ - 1440, by omega, by omega, by omega⟩)
      rw [show σ + 1440 + L + (1440 - σ - L) = 2880 by omega] at h5
      rw [h5]; unfold fin; simp only; split <;> split <;> omega
  · have h4 := scan_two h3 (1440 - σ) (fun u h3 h4 => on u ⟨u - a - σ - 1440, by omega, by omega, by omega⟩)
    rw [show σ + 1440 + (1440 - σ) = 2880 by omega] at h4
    rw [h4]; unfold fin; simp only; split <;> omega
set_option maxHeartbeats 8000000 in
set_option maxRecDepth 1000000 in
theorem zoneUniform_any (o : Int) (ho0 : (-9223372036854775808 ≤ o ∧ o ≤ 9223372036854775807)) (t : Int) (ht0 : (-9223372036854775808 ≤ t ∧ t ≤ 9223372036854775807)) (f : Int) (hf0 : (-9223372036854775808 ≤ f ∧ f ≤ 9223372036854775807)) (u : Int) (hu0 : (-9223372036854775808 ≤ u ∧ u ≤ 9223372036854775807)) (w : World) : Calls Try.prog 10 #[.int .i64 o, .int .i64 t, .int .i64 f, .int .i64 u] w (RetB1 w true) := by
  clear ho0 ht0 hf0 hu0
  by_cases t0 : o < -840
  · skip
    go_enter Try.func10, Try.ntmps10
    go_wp2_with (first
      | (go_at_call 11; (with_reducible refine (awake7_any _).mono ?_); rintro e w9 ⟨rfl, g9⟩)
      | fail)
    go_ret
    exact ⟨rfl, g9⟩
  have t0' : decide (o < -840) = false := by simpa using t0
  by_cases t1 : 840 < o
  · skip
    go_enter Try.func10, Try.ntmps10
    go_wp2_with (first
      | (go_at_call 11; (with_reducible refine (awake7_any _).mono ?_); rintro e w9 ⟨rfl, g9⟩)
      | fail)
    go_ret
    exact ⟨rfl, g9⟩
  have t1' : decide (840 < o) = false := by simpa using t1
  by_cases t2 : t < 1440
  · skip
    go_enter Try.func10, Try.ntmps10
    go_wp2_with (first
      | (go_at_call 11; (with_reducible refine (awake7_any _).mono ?_); rintro e w9 ⟨rfl, g9⟩)
      | fail)
    go_ret
    exact ⟨rfl, g9⟩
  have t2' : decide (t < 1440) = false := by simpa using t2
  by_cases t3 : 52591000 ≤ t
  · skip
    go_enter Try.func10, Try.ntmps10
    go_wp2_with (first
      | (go_at_call 11; (with_reducible refine (awake7_any _).mono ?_); rintro e w9 ⟨rfl, g9⟩)
      | fail)
    go_ret
    exact ⟨rfl, g9⟩
  have t3' : decide (52591000 ≤ t) = false := by simpa using t3
  by_cases t4 : f < 0
  · skip
    go_enter Try.func10, Try.ntmps10
    go_wp2_with (first
      | (go_at_call 11; (with_reducible refine (awake7_any _).mono ?_); rintro e w9 ⟨rfl, g9⟩)
      | fail)
    go_ret
    exact ⟨rfl, g9⟩
  have t4' : decide (f < 0) = false := by simpa using t4
  by_cases t5 : 1439 < f
  · skip
    go_enter Try.func10, Try.ntmps10
    go_wp2_with (first
      | (go_at_call 11; (with_reducible refine (awake7_any _).mono ?_); rintro e w9 ⟨rfl, g9⟩)
      | fail)
    go_ret
    exact ⟨rfl, g9⟩
  have t5' : decide (1439 < f) = false := by simpa using t5
  by_cases t6 : u < 0
  · skip
    go_enter Try.func10, Try.ntmps10
    go_wp2_with (first
      | (go_at_call 11; (with_reducible refine (awake7_any _).mono ?_); rintro e w9 ⟨rfl, g9⟩)
      | fail)
    go_ret
    exact ⟨rfl, g9⟩
  have t6' : decide (u < 0) = false := by simpa using t6
  by_cases t7 : 1439 < u
  · skip
    go_enter Try.func10, Try.ntmps10
    go_wp2_with (first
      | (go_at_call 11; (with_reducible refine (awake7_any _).mono ?_); rintro e w9 ⟨rfl, g9⟩)
      | fail)
    go_ret
    exact ⟨rfl, g9⟩
  have t7' : decide (1439 < u) = false := by simpa using t7
  by_cases t8 : f = u
  · have t8' : (f == u) = true := by simpa using t8
    have HT8 := Lib.hid t8
    clear t8
    go_enter Try.func10, Try.ntmps10
    go_wp2_with (first
      | (go_at_call 11; (with_reducible refine (awake7_any _).mono ?_); rintro e w9 ⟨rfl, g9⟩)
      | fail)
    go_ret
    exact ⟨rfl, g9⟩
  have t8' : (f == u) = false := by simpa using t8
  have hS0 : ∀ w : World, ShIn w none 0 [] := fun w => ⟨rfl, .inl rfl⟩
  have hz : zE (nameB [120]) o [] = 0 := by
    have h1 : nameB [120] = true := by decide
    have h2 : okO o = true := by unfold okO; simp; omega
    unfold zE
    rw [h1, h2]; rfl
  have hzo := (zE_ok hz).2
  have hofs : ∀ x, offs o [] x = o := fun _ => rfl
  have ea : atE 0 t = 0 := by
    have : okI t = true := by unfold okI; simp; omega
    unfold atE; rw [if_pos rfl, if_pos this]
  have hl := fun w => localTime_any [120] (by decide) o none 0 0 [] w (hS0 w) (by omega) t
  have hi := fun w d k => instants_any [120] (by decide) o none 0 0 [] w (hS0 w) (by omega) d k
  have hn := fun w => nights_any [120] (by decide) o none 0 0 [] w (hS0 w) (by omega) t (t + 2880) f u
  rw [hz] at hl
  simp only [hz] at hi hn
  unfold ltD ltC at hl
  simp only [ea, if_true, hofs] at hl
  have hsm := splitMinute_any (t + o) (by omega) (by omega)
  have hk0 : 0 ≤ (t + o) % 1440 ∧ (t + o) % 1440 < 1440 := by omega
  have hd0 : -1 ≤ (t + o) / 1440 ∧ (t + o) / 1440 ≤ 36525 := by omega
  have hloc : 1440 * ((t + o) / 1440) + (t + o) % 1440 = t + o := by omega
  obtain ⟨d, hd⟩ : ∃ v, Hid ((t + o) / 1440 = v) := ⟨_, rfl⟩
  obtain ⟨k, hk⟩ : ∃ v, Hid ((t + o) % 1440 = v) := ⟨_, rfl⟩
  simp only [hd.out, hk.out] at hl hsm
  rw [hd.out] at hd0 hloc
  rw [hk.out] at hk0 hloc
  have hi1 := fun w => hi w d k
  have ec : isClockB k = true := by unfold isClockB; simp; omega
  have ee : insE 0 k = 0 := by unfold insE; rw [if_pos rfl, ec]; rfl
  unfold insL at hi1
  simp only [ee] at hi1
  have hmN : (maxN : Int) = 52596000 := rfl
  have hL : filt (qB o [] (1440 * d + k)) 0 maxN = [t] := by
    rw [filt_one (v := t) maxN (fun x _ _ => ?_), if_pos (by omega)]
    unfold qB
    rw [hofs]
    exact decide_eq_decide.2 (by omega)
  simp only [hd0, and_self, true_and, if_true, hL] at hi1
  have eb : bandE 0 t (t + 2880) f u = 0 := by
    have h1 : spanB t (t + 2880) = true := by unfold spanB; simp; omega
    have h2 : isClockB f = true := by unfold isClockB; simp; omega
    have h3 : isClockB u = true := by unfold isClockB; simp; omega
    unfold bandE; rw [h1, h2, h3]; rfl
  unfold ngV at hn
  simp only [eb, if_true] at hn
  have hun := uniform_nights (o := o) (f := f) (bl := (u - f) % 1440) (a := t) ⟨by omega, by omega⟩ (p := bandB o [] f u) (fun x => by
    unfold bandB
    rw [hofs, inB_mod ⟨by omega, by omega⟩ ⟨by omega, by omega⟩])
  rw [show (2880 : Nat) = (t + 2880 - t).toNat by omega] at hun
  obtain ⟨V, HV⟩ : ∃ v, Hid (nights (bandB o [] f u) ((u - f) % 1440) t (t + 2880 - t).toNat = v) := ⟨_, rfl⟩
  simp only [HV.out] at hn
  rw [HV.out] at hun
  obtain ⟨v1, v2⟩ := hun
  have w1 : IntKind.i64.wrap (t + o) = t + o := IntWalk.i64_in _ (by omega)
  have w2 : IntKind.i64.wrap (t + 2880) = t + 2880 := IntWalk.i64_in _ (by omega)
  have r1 : (d == d) = true := by simp
  have r2 : (k == k) = true := by simp
  have K0 := Lib.hid (KZ.start (nm := [120]) (o := o) (c := 0) (hS0 w) 24)
  obtain ⟨b0, c0, d0⟩ := K0.out.z
  clear hS0 hz hzo hofs ea hi ec ee hmN hL eb
  go_enter Try.func10, Try.ntmps10
  go_wp2_with (first
    | (go_at_call 18; (with_reducible refine (hl _).mono ?_); rintro e w3 ⟨rfl, g3⟩; have K1 := Lib.hid (K0.out.call g3); obtain ⟨b1, c1, d1⟩ := K1.out.z; clear g3)
    | (go_at_call 30; (with_reducible refine (hsm _).mono ?_); rintro e w4 ⟨rfl, k4, rfl⟩; have K2 := Lib.hid (K1.out.call (below_drewN (Below.refl _ _) k4)); obtain ⟨b2, c2, d2⟩ := K2.out.z)
    | (go_at_call 20; (with_reducible refine (hi1 _).mono ?_); rintro e w5 ⟨v5, rfl, o5, g5⟩; obtain ⟨A5, C5, rfl, k5, m5, I5⟩ := IIn.of_owns o5; have HI5 := Lib.hid (show IIn w5 A5 1 [t] from I5); have K3 := Lib.hid (K2.out.call g5); obtain ⟨b3, c3, d3⟩ := K3.out.z; clear g5 o5 I5)
    | (go_at_call 28; (with_reducible refine (hn _).mono ?_); rintro e w6 ⟨rfl, g6⟩; have K4 := Lib.hid (K3.out.call g6); have HI6 := Lib.hid (HI5.out.call g6); clear g6)
    | (go_at_call 22; go_loud ((with_reducible refine (same7_any _ _ 1 _ _ [t] _ (HI6.out.call (cnew _ _)) (one_in _ _) (by omega)).mono ?_); rintro e w7 ⟨rfl, q7, rfl⟩))
    | (go_at_call 11; (with_reducible refine (awake7_any _).mono ?_); rintro e w9 ⟨rfl, g9⟩)
    | fail)
  go_ret
  exact ⟨rfl, (((K4.out.call (cnew _ _)).call (below_drewN (Below.refl _ _) q7)).call g9).b⟩
end Go.Proofs.Ytiohakpbgmignaa

