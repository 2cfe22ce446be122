/-
  Zones: bands; the program's BandMinutes.
-/
import Derived.Test.YtiohakpbgmignaaZbD
set_option linter.unusedVariables false
set_option linter.unusedSimpArgs false
namespace Go.Proofs.Ytiohakpbgmignaa
open Go.RowKit Go.Shelf
attribute [local go_sem] Oper.semAt_some

theorem Cov.last {p : Int → Bool} {a t f t' : Int} {L : List (Int × Int)} (h : Cov p a (L ++ [(f, t')]) t) : Cov p a L f ∧ f < t' ∧ t' ≤ t := by
  generalize hM : L ++ [(f, t')] = M at h
  induction h with
  | nil => simp at hM
  | skip t' _ h1 _ ih => obtain ⟨i1, i2, i3⟩ := ih hM; exact ⟨i1, i2, by omega⟩
  | stay t' h0 h1 h2 ih =>
    obtain ⟨e1, e2⟩ := List.append_inj' hM rfl
    subst e1
    simp only [List.cons.injEq, Prod.mk.injEq, and_true] at e2
    obtain ⟨rfl, rfl⟩ := e2
    exact ⟨h0, h1, Int.le_refl _⟩
def bandE (E y z f t : Int) : Int := if E = 0 then (if (spanB y z && (isClockB f && isClockB t)) = true then 0 else 5) else E
def bmV (E o : Int) (ss : List (Int × Int)) (y z f t : Int) : Int := if bandE E y z f t = 0 then cnt (bandB o ss f t) y (z - y).toNat else 0
def ngV (E o : Int) (ss : List (Int × Int)) (y z f t : Int) : Int := if bandE E y z f t = 0 then nights (bandB o ss f t) ((t - f) % 1440) y (z - y).toNat else 0
theorem bandE_ok {E y z f t : Int} (h : bandE E y z f t = 0) : E = 0 ∧ spanB y z = true ∧ (0 ≤ f ∧ f < 1440) ∧ (0 ≤ t ∧ t < 1440) := by
  unfold bandE at h
  split at h
  · rename_i h0
    split at h
    · rename_i h1
      simp only [Bool.and_eq_true] at h1
      exact ⟨h0, h1.1, isClockB_in h1.2.1, isClockB_in h1.2.2⟩
    · cases h
  · rename_i h0; exact absurd h h0
def RetBand (w : World) (f l : Int) (e : Ending) (w' : World) : Prop := e = .returned (.agg #[.int .i64 f, .int .i64 l]) ∧ Below w.heap.size w w'
set_option maxHeartbeats 8000000 in
set_option maxRecDepth 1000000 in
theorem makeBand_any (f t : Int) (hf : 0 ≤ f ∧ f < 1440) (ht : 0 ≤ t ∧ t < 1440) (w : World) : Calls Try.prog 45 #[.int .i64 f, .int .i64 t] w (RetBand w f ((t - f) % 1440)) := by
  have hsm := splitMinute_any (t - f) (by omega) (by omega)
  obtain ⟨Q, HQ⟩ : ∃ v, Hid ((t - f) / 1440 = v) := ⟨_, rfl⟩
  obtain ⟨R, HR⟩ : ∃ v, Hid ((t - f) % 1440 = v) := ⟨_, rfl⟩
  simp only [HQ.out, HR.out] at hsm
  rw [HR.out]
  have w1 : IntKind.i64.wrap (t - f) = t - f := IntWalk.i64_in _ (by omega)
  go_enter Try.func45, Try.ntmps45
  go_wp2_with (first
    | (go_at_call 30; (with_reducible refine (hsm _).mono ?_); rintro e w3 ⟨rfl, k3, rfl⟩)
    | fail)
  refine bodyPost_ret (v := .agg #[.int .i64 f, .int .i64 R]) (by simp [results, Try.results45, go_sem]) rfl ⟨rfl, ?_⟩
  first
  | exact below_drewN (cnew _ _) _
  | exact (below_drewN (cnew _ _) _).setCell (Nat.le_refl _) _
  | exact ((below_drewN (cnew _ _) _).setCell (Nat.le_refl _) _).setCell (Nat.le_refl _) _
set_option maxHeartbeats 8000000 in
set_option maxRecDepth 1000000 in
theorem complete_any (F T f l : Int) (hF : 0 ≤ F ∧ F ≤ 52596000) (hT : 0 ≤ T ∧ T ≤ 52596000) (w : World) : Calls Try.prog 48 #[.agg #[.int .i64 F, .int .i64 T], .agg #[.int .i64 f, .int .i64 l]] w (RetI3 w (compl l (T - F))) := by
  have hd : compl l (T - F) = if 0 < l ∧ l ≤ T - F then 1 else 0 := rfl
  obtain ⟨C, HC⟩ : ∃ v, Hid (compl l (T - F) = v) := ⟨_, rfl⟩
  rw [HC.out] at hd ⊢
  have w1 : IntKind.i64.wrap (T - F) = T - F := IntWalk.i64_in _ (by omega)
  by_cases h1 : 0 < l
  · by_cases h2 : l ≤ T - F
    · obtain rfl : C = 1 := by rw [hd, if_pos ⟨h1, h2⟩]
      clear hd
      go_enter Try.func48, Try.ntmps48
      go_wp2_with fail
      go_ret
      exact ⟨rfl, (cnew _ _).trans ((cnew _ _).mono (by simp))⟩
    · obtain rfl : C = 0 := by rw [hd, if_neg (fun h => h2 h.2)]
      have h3 : decide (l ≤ T - F) = false := by simpa using h2
      clear hd
      go_enter Try.func48, Try.ntmps48
      go_wp2_with fail
      go_ret
      exact ⟨rfl, (cnew _ _).trans ((cnew _ _).mono (by simp))⟩
  · obtain rfl : C = 0 := by rw [hd, if_neg (fun h => h1 h.1)]
    have h3 : decide (0 < l) = false := by simpa using h1
    clear hd
    go_enter Try.func48, Try.ntmps48
    go_wp2_with fail
    go_ret
    exact ⟨rfl, (cnew _ _).trans ((cnew _ _).mono (by simp))⟩
set_option maxHeartbeats 8000000 in
set_option maxRecDepth 1000000 in
theorem validateBand_any (nm : List UInt8) (hnl : nm.length ≤ 9223372036854775807) (o : Int) (a : Option Addr) (n c : Nat) (ss : List (Int × Int)) (w : World) (hS : ShIn w a n ss) (hn : n ≤ 9223372036854775807) (y z f t : Int) :
    Calls Try.prog 43 #[.agg #[.string ⟨nm.toArray⟩, .int .i64 o, .slice a n c], .agg #[.int .i64 y, .int .i64 z], .int .i64 f, .int .i64 t] w (RetE w (bandE (zE (nameB nm) o ss) y z f t)) := by
  have hv := fun w hS => validate_any nm hnl o a n c ss w hS hn
  have hsp := isSpan_any y z
  have K0 := Lib.hid (KS.start (nm := nm) (o := o) (c := c) hS y z 24 40)
  obtain ⟨E, HE⟩ : ∃ v, Hid (zE (nameB nm) o ss = v) := ⟨_, rfl⟩
  simp only [HE.out] at hv
  rw [HE.out]
  have hE : bandE E y z f t = if E = 0 then (if (spanB y z && (isClockB f && isClockB t)) = true then 0 else 5) else E := rfl
  obtain ⟨X, HX⟩ : ∃ v, Hid (bandE E y z f t = v) := ⟨_, rfl⟩
  rw [HX.out] at hE ⊢
  clear hS
  by_cases h0 : E = 0
  · subst h0
    rw [if_pos rfl] at hE
    obtain ⟨Q, HQ⟩ : ∃ v, Hid (spanB y z = v) := ⟨_, rfl⟩
    rw [HQ.out] at hE hsp
    have hc1 := isClock_any f
    have hc2 := isClock_any t
    obtain ⟨Q1, HQ1⟩ : ∃ v, Hid (isClockB f = v) := ⟨_, rfl⟩
    obtain ⟨Q2, HQ2⟩ : ∃ v, Hid (isClockB t = v) := ⟨_, rfl⟩
    rw [HQ1.out, HQ2.out] at hE
    rw [HQ1.out] at hc1
    rw [HQ2.out] at hc2
    cases Q with
    | false =>
      obtain rfl : X = 5 := hE
      go_enter Try.func43, Try.ntmps43
      obtain ⟨b0, b1, b2⟩ := K0.out.k.z
      obtain ⟨c0, c1⟩ := K0.out.p
      go_wp2_with (first
        | (go_at_call 12; (with_reducible refine (hv _ K0.out.k.s).mono ?_); rintro e w1 ⟨rfl, g1⟩; have K1 := Lib.hid (K0.out.call g1); obtain ⟨d0, d1, d2⟩ := K1.out.k.z; obtain ⟨f0, f1⟩ := K1.out.p; clear g1)
        | (go_at_call 41; (with_reducible refine (hsp _).mono ?_); rintro e w2 ⟨rfl, g2⟩; have K2 := Lib.hid (K1.out.call g2); obtain ⟨i0, i1, i2⟩ := K2.out.k.z; obtain ⟨j0, j1⟩ := K2.out.p; clear g2)
        | fail)
      go_ret
      exact ⟨rfl, K2.out.k.b⟩
    | true =>
      cases Q1 with
      | false =>
        obtain rfl : X = 5 := hE
        go_enter Try.func43, Try.ntmps43
        obtain ⟨b0, b1, b2⟩ := K0.out.k.z
        obtain ⟨c0, c1⟩ := K0.out.p
        go_wp2_with (first
          | (go_at_call 12; (with_reducible refine (hv _ K0.out.k.s).mono ?_); rintro e w1 ⟨rfl, g1⟩; have K1 := Lib.hid (K0.out.call g1); obtain ⟨d0, d1, d2⟩ := K1.out.k.z; obtain ⟨f0, f1⟩ := K1.out.p; clear g1)
          | (go_at_call 41; (with_reducible refine (hsp _).mono ?_); rintro e w2 ⟨rfl, g2⟩; have K2 := Lib.hid (K1.out.call g2); obtain ⟨i0, i1, i2⟩ := K2.out.k.z; obtain ⟨j0, j1⟩ := K2.out.p; clear g2)
          | (go_at_call 39; first | ((with_reducible refine (hc1 _).mono ?_); rintro e w3 ⟨rfl, rfl⟩) | ((with_reducible refine (hc2 _).mono ?_); rintro e w4 ⟨rfl, rfl⟩))
          | fail)
        go_ret
        exact ⟨rfl, K2.out.k.b⟩
      | true =>
        cases Q2 with
        | false =>
          obtain rfl : X = 5 := hE
          go_enter Try.func43, Try.ntmps43
          obtain ⟨b0, b1, b2⟩ := K0.out.k.z
          obtain ⟨c0, c1⟩ := K0.out.p
          go_wp2_with (first
            | (go_at_call 12; (with_reducible refine (hv _ K0.out.k.s).mono ?_); rintro e w1 ⟨rfl, g1⟩; have K1 := Lib.hid (K0.out.call g1); obtain ⟨d0, d1, d2⟩ := K1.out.k.z; obtain ⟨f0, f1⟩ := K1.out.p; clear g1)
            | (go_at_call 41; (with_reducible refine (hsp _).mono ?_); rintro e w2 ⟨rfl, g2⟩; have K2 := Lib.hid (K1.out.call g2); obtain ⟨i0, i1, i2⟩ := K2.out.k.z; obtain ⟨j0, j1⟩ := K2.out.p; clear g2)
            | (go_at_call 39; first | ((with_reducible refine (hc1 _).mono ?_); rintro e w3 ⟨rfl, rfl⟩) | ((with_reducible refine (hc2 _).mono ?_); rintro e w4 ⟨rfl, rfl⟩))
            | fail)
          go_ret
          exact ⟨rfl, K2.out.k.b⟩
        | true =>
          obtain rfl : X = 0 := hE
          go_enter Try.func43, Try.ntmps43
          obtain ⟨b0, b1, b2⟩ := K0.out.k.z
          obtain ⟨c0, c1⟩ := K0.out.p
          go_wp2_with (first
            | (go_at_call 12; (with_reducible refine (hv _ K0.out.k.s).mono ?_); rintro e w1 ⟨rfl, g1⟩; have K1 := Lib.hid (K0.out.call g1); obtain ⟨d0, d1, d2⟩ := K1.out.k.z; obtain ⟨f0, f1⟩ := K1.out.p; clear g1)
            | (go_at_call 41; (with_reducible refine (hsp _).mono ?_); rintro e w2 ⟨rfl, g2⟩; have K2 := Lib.hid (K1.out.call g2); obtain ⟨i0, i1, i2⟩ := K2.out.k.z; obtain ⟨j0, j1⟩ := K2.out.p; clear g2)
            | (go_at_call 39; first | ((with_reducible refine (hc1 _).mono ?_); rintro e w3 ⟨rfl, rfl⟩) | ((with_reducible refine (hc2 _).mono ?_); rintro e w4 ⟨rfl, rfl⟩))
            | fail)
          go_ret
          exact ⟨rfl, K2.out.k.b⟩
  · rw [if_neg h0] at hE
    subst hE
    have h1 : (X != 0) = true := by simpa using h0
    go_enter Try.func43, Try.ntmps43
    obtain ⟨b0, b1, b2⟩ := K0.out.k.z
    obtain ⟨c0, c1⟩ := K0.out.p
    go_wp2_with (first
      | (go_at_call 12; (with_reducible refine (hv _ K0.out.k.s).mono ?_); rintro e w1 ⟨rfl, g1⟩; have K1 := Lib.hid (K0.out.call g1); obtain ⟨d0, d1, d2⟩ := K1.out.k.z; obtain ⟨f0, f1⟩ := K1.out.p; clear g1)
      | fail)
    go_ret
    exact ⟨rfl, K1.out.k.b⟩
set_option maxHeartbeats 8000000 in
set_option maxRecDepth 1000000 in
theorem rband_any (nm : List UInt8) (hnl : nm.length ≤ 9223372036854775807) (o : Int) (a : Option Addr) (n c : Nat) (ss : List (Int × Int)) (w : World) (hS : ShIn w a n ss) (hn : n ≤ 9223372036854775807) (y z f t : Int) :
    Calls Try.prog 46 #[.agg #[.string ⟨nm.toArray⟩, .int .i64 o, .slice a n c], .agg #[.int .i64 y, .int .i64 z], .int .i64 f, .int .i64 t] w (RetE w (bandE (zE (nameB nm) o ss) y z f t)) := by
  have hv := fun w hS => rvalidate_any nm hnl o a n c ss w hS hn
  have hsp := rspan_any y z
  have K0 := Lib.hid (KS.start (nm := nm) (o := o) (c := c) hS y z 24 40)
  obtain ⟨E, HE⟩ : ∃ v, Hid (zE (nameB nm) o ss = v) := ⟨_, rfl⟩
  simp only [HE.out] at hv
  rw [HE.out]
  have hE : bandE E y z f t = if E = 0 then (if (spanB y z && (isClockB f && isClockB t)) = true then 0 else 5) else E := rfl
  obtain ⟨X, HX⟩ : ∃ v, Hid (bandE E y z f t = v) := ⟨_, rfl⟩
  rw [HX.out] at hE ⊢
  clear hS
  by_cases h0 : E = 0
  · subst h0
    rw [if_pos rfl] at hE
    obtain ⟨Q, HQ⟩ : ∃ v, Hid (spanB y z = v) := ⟨_, rfl⟩
    rw [HQ.out] at hE hsp
    have e1 : isClockB f = decide (0 ≤ f ∧ f < 1440) := rfl
    have e2 : isClockB t = decide (0 ≤ t ∧ t < 1440) := rfl
    rw [e1, e2] at hE
    clear e1 e2
    cases Q with
    | false =>
      obtain rfl : X = 5 := hE
      go_enter Try.func46, Try.ntmps46
      obtain ⟨b0, b1, b2⟩ := K0.out.k.z
      obtain ⟨c0, c1⟩ := K0.out.p
      go_wp2_with (first
        | (go_at_call 13; (with_reducible refine (hv _ K0.out.k.s).mono ?_); rintro e w1 ⟨rfl, g1⟩; have K1 := Lib.hid (K0.out.call g1); obtain ⟨d0, d1, d2⟩ := K1.out.k.z; obtain ⟨f0, f1⟩ := K1.out.p; clear g1)
        | (go_at_call 42; (with_reducible refine (hsp _).mono ?_); rintro e w2 ⟨rfl, g2⟩; have K2 := Lib.hid (K1.out.call g2); obtain ⟨i0, i1, i2⟩ := K2.out.k.z; obtain ⟨j0, j1⟩ := K2.out.p; clear g2)
        | fail)
      go_ret
      exact ⟨rfl, K2.out.k.b⟩
    | true =>
      by_cases q0 : f < 0
      · obtain rfl : X = 5 := by rw [hE, if_neg (by simp; omega)]
        clear hE
        go_enter Try.func46, Try.ntmps46
        obtain ⟨b0, b1, b2⟩ := K0.out.k.z
        obtain ⟨c0, c1⟩ := K0.out.p
        go_wp2_with (first
          | (go_at_call 13; (with_reducible refine (hv _ K0.out.k.s).mono ?_); rintro e w1 ⟨rfl, g1⟩; have K1 := Lib.hid (K0.out.call g1); obtain ⟨d0, d1, d2⟩ := K1.out.k.z; obtain ⟨f0, f1⟩ := K1.out.p; clear g1)
          | (go_at_call 42; (with_reducible refine (hsp _).mono ?_); rintro e w2 ⟨rfl, g2⟩; have K2 := Lib.hid (K1.out.call g2); obtain ⟨i0, i1, i2⟩ := K2.out.k.z; obtain ⟨j0, j1⟩ := K2.out.p; clear g2)
          | fail)
        go_ret
        exact ⟨rfl, K2.out.k.b⟩
      have q0' : decide (f < 0) = false := by simpa using q0
      by_cases q1 : 1439 < f
      · obtain rfl : X = 5 := by rw [hE, if_neg (by simp; omega)]
        clear hE
        go_enter Try.func46, Try.ntmps46
        obtain ⟨b0, b1, b2⟩ := K0.out.k.z
        obtain ⟨c0, c1⟩ := K0.out.p
        go_wp2_with (first
          | (go_at_call 13; (with_reducible refine (hv _ K0.out.k.s).mono ?_); rintro e w1 ⟨rfl, g1⟩; have K1 := Lib.hid (K0.out.call g1); obtain ⟨d0, d1, d2⟩ := K1.out.k.z; obtain ⟨f0, f1⟩ := K1.out.p; clear g1)
          | (go_at_call 42; (with_reducible refine (hsp _).mono ?_); rintro e w2 ⟨rfl, g2⟩; have K2 := Lib.hid (K1.out.call g2); obtain ⟨i0, i1, i2⟩ := K2.out.k.z; obtain ⟨j0, j1⟩ := K2.out.p; clear g2)
          | fail)
        go_ret
        exact ⟨rfl, K2.out.k.b⟩
      have q1' : decide (1439 < f) = false := by simpa using q1
      by_cases q2 : t < 0
      · obtain rfl : X = 5 := by rw [hE, if_neg (by simp; omega)]
        clear hE
        go_enter Try.func46, Try.ntmps46
        obtain ⟨b0, b1, b2⟩ := K0.out.k.z
        obtain ⟨c0, c1⟩ := K0.out.p
        go_wp2_with (first
          | (go_at_call 13; (with_reducible refine (hv _ K0.out.k.s).mono ?_); rintro e w1 ⟨rfl, g1⟩; have K1 := Lib.hid (K0.out.call g1); obtain ⟨d0, d1, d2⟩ := K1.out.k.z; obtain ⟨f0, f1⟩ := K1.out.p; clear g1)
          | (go_at_call 42; (with_reducible refine (hsp _).mono ?_); rintro e w2 ⟨rfl, g2⟩; have K2 := Lib.hid (K1.out.call g2); obtain ⟨i0, i1, i2⟩ := K2.out.k.z; obtain ⟨j0, j1⟩ := K2.out.p; clear g2)
          | fail)
        go_ret
        exact ⟨rfl, K2.out.k.b⟩
      have q2' : decide (t < 0) = false := by simpa using q2
      by_cases q3 : 1439 < t
      · obtain rfl : X = 5 := by rw [hE, if_neg (by simp; omega)]
        clear hE
        go_enter Try.func46, Try.ntmps46
        obtain ⟨b0, b1, b2⟩ := K0.out.k.z
        obtain ⟨c0, c1⟩ := K0.out.p
        go_wp2_with (first
          | (go_at_call 13; (with_reducible refine (hv _ K0.out.k.s).mono ?_); rintro e w1 ⟨rfl, g1⟩; have K1 := Lib.hid (K0.out.call g1); obtain ⟨d0, d1, d2⟩ := K1.out.k.z; obtain ⟨f0, f1⟩ := K1.out.p; clear g1)
          | (go_at_call 42; (with_reducible refine (hsp _).mono ?_); rintro e w2 ⟨rfl, g2⟩; have K2 := Lib.hid (K1.out.call g2); obtain ⟨i0, i1, i2⟩ := K2.out.k.z; obtain ⟨j0, j1⟩ := K2.out.p; clear g2)
          | fail)
        go_ret
        exact ⟨rfl, K2.out.k.b⟩
      have q3' : decide (1439 < t) = false := by simpa using q3
      obtain rfl : X = 0 := by rw [hE, if_pos (by simp; omega)]
      clear hE
      go_enter Try.func46, Try.ntmps46
      obtain ⟨b0, b1, b2⟩ := K0.out.k.z
      obtain ⟨c0, c1⟩ := K0.out.p
      go_wp2_with (first
        | (go_at_call 13; (with_reducible refine (hv _ K0.out.k.s).mono ?_); rintro e w1 ⟨rfl, g1⟩; have K1 := Lib.hid (K0.out.call g1); obtain ⟨d0, d1, d2⟩ := K1.out.k.z; obtain ⟨f0, f1⟩ := K1.out.p; clear g1)
        | (go_at_call 42; (with_reducible refine (hsp _).mono ?_); rintro e w2 ⟨rfl, g2⟩; have K2 := Lib.hid (K1.out.call g2); obtain ⟨i0, i1, i2⟩ := K2.out.k.z; obtain ⟨j0, j1⟩ := K2.out.p; clear g2)
        | fail)
      go_ret
      exact ⟨rfl, K2.out.k.b⟩
  · rw [if_neg h0] at hE
    subst hE
    have h1 : (X != 0) = true := by simpa using h0
    go_enter Try.func46, Try.ntmps46
    obtain ⟨b0, b1, b2⟩ := K0.out.k.z
    obtain ⟨c0, c1⟩ := K0.out.p
    go_wp2_with (first
      | (go_at_call 13; (with_reducible refine (hv _ K0.out.k.s).mono ?_); rintro e w1 ⟨rfl, g1⟩; have K1 := Lib.hid (K0.out.call g1); obtain ⟨d0, d1, d2⟩ := K1.out.k.z; obtain ⟨f0, f1⟩ := K1.out.p; clear g1)
      | fail)
    go_ret
    exact ⟨rfl, K1.out.k.b⟩
end Go.Proofs.Ytiohakpbgmignaa

