/-
  Zones: BandMinutes and Nights of the reference; the law on bands.
-/
import Derived.Test.YtiohakpbgmignaaZbG
set_option linter.unusedVariables false
set_option linter.unusedSimpArgs false
namespace Go.Proofs.Ytiohakpbgmignaa
open Go.RowKit

set_option maxHeartbeats 8000000 in
set_option maxRecDepth 1000000 in
theorem inBand_any (c f t : Int) (w : World) : Calls Try.prog 47 #[.int .i64 c, .int .i64 f, .int .i64 t] w (RetQ w (inB c f t)) := by
  have hd : inB c f t = if f ≤ t then decide (f ≤ c ∧ c < t) else decide (f ≤ c ∨ c < t) := rfl
  obtain ⟨B, HB⟩ : ∃ v, Hid (inB c f t = v) := ⟨_, rfl⟩
  rw [HB.out] at hd ⊢
  by_cases h1 : f ≤ t
  · rw [if_pos h1] at hd
    by_cases h2 : f ≤ c
    · by_cases h3 : c < t
      · skip
        obtain rfl : B = true := by rw [hd]; simp [h2, h3]
        clear hd
        go_enter Try.func47, Try.ntmps47
        go_wp2_with fail
        go_ret
        exact ⟨rfl, rfl⟩
      · have h3' : decide (c < t) = false := by simpa using h3
        obtain rfl : B = false := by rw [hd]; simp [h3]
        clear hd
        go_enter Try.func47, Try.ntmps47
        go_wp2_with fail
        go_ret
        exact ⟨rfl, rfl⟩
    · have h2' : decide (f ≤ c) = false := by simpa using h2
      obtain rfl : B = false := by rw [hd]; simp [h2]
      clear hd
      go_enter Try.func47, Try.ntmps47
      go_wp2_with fail
      go_ret
      exact ⟨rfl, rfl⟩
  · rw [if_neg h1] at hd
    have h1' : decide (f ≤ t) = false := by simpa using h1
    by_cases h2 : f ≤ c
    · skip
      obtain rfl : B = true := by rw [hd]; simp [h2]
      clear hd
      go_enter Try.func47, Try.ntmps47
      go_wp2_with fail
      go_ret
      exact ⟨rfl, rfl⟩
    · have h2' : decide (f ≤ c) = false := by simpa using h2
      by_cases h3 : c < t
      · skip
        obtain rfl : B = true := by rw [hd]; simp [h3]
        clear hd
        go_enter Try.func47, Try.ntmps47
        go_wp2_with fail
        go_ret
        exact ⟨rfl, rfl⟩
      · have h3' : decide (c < t) = false := by simpa using h3
        obtain rfl : B = false := by rw [hd]; simp [h2, h3]
        clear hd
        go_enter Try.func47, Try.ntmps47
        go_wp2_with fail
        go_ret
        exact ⟨rfl, rfl⟩
set_option maxHeartbeats 8000000 in
set_option maxRecDepth 1000000 in
theorem rbandMinutes_any (nm : List UInt8) (hnl : nm.length ≤ 9223372036854775807) (o : Int) (a : Option Addr) (n c : Nat) (ss : List (Int × Int)) (w : World) (hS : ShIn w a n ss) (hn : n ≤ 9223372036854775807) (y z f t : Int) :
    Calls Try.prog 27 #[.agg #[.string ⟨nm.toArray⟩, .int .i64 o, .slice a n c], .agg #[.int .i64 y, .int .i64 z], .int .i64 f, .int .i64 t] w (RetNE w (bmV (zE (nameB nm) o ss) o ss y z f t) (bandE (zE (nameB nm) o ss) y z f t)) := by
  have hv := fun w hS => rband_any nm hnl o a n c ss w hS hn y z f t
  have hoff := fun w hS => roffset2_any nm hnl o a n c ss w hS hn
  have hok := @zE_ok (nameB nm) o ss
  have K0 := Lib.hid (KS.start (nm := nm) (o := o) (c := c) hS y z 24 40)
  obtain ⟨E, HE⟩ : ∃ v, Hid (zE (nameB nm) o ss = v) := ⟨_, rfl⟩
  rw [HE.out] at hok ⊢
  simp only [HE.out] at hv
  have hbo := @bandE_ok E y z f t
  have hdV : bmV E o ss y z f t = if bandE E y z f t = 0 then _ else 0 := rfl
  obtain ⟨X, HX⟩ : ∃ v, Hid (bandE E y z f t = v) := ⟨_, rfl⟩
  obtain ⟨V, HV⟩ : ∃ v, Hid (bmV E o ss y z f t = v) := ⟨_, rfl⟩
  simp only [HX.out] at hv
  rw [HX.out] at hbo hdV ⊢
  rw [HV.out] at hdV ⊢
  by_cases h0 : X = 0
  · subst h0
    rw [if_pos rfl] at hdV
    obtain ⟨rfl, hsp, hf, ht⟩ := hbo rfl
    obtain ⟨_, hz⟩ := hok rfl
    obtain ⟨sp1, sp2, sp3⟩ := spanB_in hsp
    obtain ⟨m, hm⟩ : ∃ m : Nat, (m : Int) = z - y := ⟨(z - y).toNat, by omega⟩
    rw [show (z - y).toNat = m by omega] at hdV
    have hbd : ∀ u, bandB o ss f t u = inB ((u + offs o ss u) % 1440) f t := fun _ => rfl
    obtain ⟨P, hP⟩ : ∃ P, bandB o ss f t = P := ⟨_, rfl⟩
    rw [hP] at hdV hbd
    have HBD := Lib.hid hbd
    have HZ := Lib.hid hz
    have HOF := Lib.hid hoff
    clear hS hok hz hoff hbd hP hbo
    have HDV := Lib.hid hdV
    clear hdV
    go_enter Try.func27, Try.ntmps27
    obtain ⟨b0, b1, b2⟩ := K0.out.k.z
    obtain ⟨c0, c1⟩ := K0.out.p
    go_wp2_with (first
      | (go_at_call 46; (with_reducible refine (hv _ K0.out.k.s).mono ?_); rintro e w1 ⟨rfl, g1⟩; have K1 := Lib.hid (K0.out.call g1); obtain ⟨d0, d1, d2⟩ := K1.out.k.z; obtain ⟨e0, e1⟩ := K1.out.p; clear g1)
      | fail)
    go_loopw [11, 12] (fun x i wr => ∃ (k : Nat) (N T : Int), k ≤ m ∧ x = .int .i64 N ∧ i = .int .i64 T ∧ Hid (T = y + k) ∧ Hid (cnt P y k = N) ∧ Hid (KS w wr w.heap.size (w.heap.size + 1) nm o a n c ss y z)) (fun _ i _ => (z - intOf i).toNat)
    case atStart => exact ⟨0, 0, y, by omega, rfl, rfl, Lib.hid (by omega), Lib.hid rfl, K1⟩
    case round =>
      obtain ⟨k, N, T, hk, rfl, rfl, HT, HN, KR⟩ := hrel
      clear b0 b1 b2 c0 c1 d0 d1 d2 e0 e1
      obtain ⟨z0, z1, z2⟩ := KR.out.k.z
      obtain ⟨s0, s1⟩ := KR.out.p
      have hT := HT.out
      by_cases hlt : k < m
      · have j1 : T < z := by omega
        have hxb := HZ.out.bound T
        have hbT := HBD.out T
        have hofT := fun w hS => HOF.out w hS T
        obtain ⟨X, HXX⟩ : ∃ v, Hid (offs o ss T = v) := ⟨_, rfl⟩
        simp only [HXX.out] at hofT
        rw [HXX.out] at hxb hbT
        have hsmT := rsplitMinute_any (T + X) (by omega) (by omega)
        obtain ⟨D, HD⟩ : ∃ v, Hid ((T + X) / 1440 = v) := ⟨_, rfl⟩
        obtain ⟨C, HC⟩ : ∃ v, Hid ((T + X) % 1440 = v) := ⟨_, rfl⟩
        simp only [HD.out, HC.out] at hsmT
        rw [HC.out] at hbT
        have hinT := inBand_any C f t
        obtain ⟨Q, HQ⟩ : ∃ v, Hid (inB C f t = v) := ⟨_, rfl⟩
        rw [HQ.out] at hbT
        simp only [HQ.out] at hinT
        have w3 : IntKind.i64.wrap (T + X) = T + X := IntWalk.i64_in _ (by omega)
        have w4 : IntKind.i64.wrap (T + 1) = T + 1 := IntWalk.i64_in _ (by omega)
        have hcn := cnt_le P y k
        rw [HN.out] at hcn
        have hst : cnt P y (k + 1) = cnt P y k + if P (y + k) = true then 1 else 0 := rfl
        rw [HN.out, ← hT, hbT] at hst
        have w5 : IntKind.i64.wrap (N + 1) = N + 1 := IntWalk.i64_in _ (by omega)
        have hT1 : Hid (T + 1 = y + ((k + 1 : Nat) : Int)) := Lib.hid (by omega)
        have HST := Lib.hid hst
        clear hT hbT hst
        cases Q with
        | true =>
          go_wp2_with (first
            | (go_at_call 37; (with_reducible refine (hofT _ KR.out.k.s).mono ?_); rintro e w4 ⟨rfl, g4⟩; have K4 := Lib.hid (KR.out.call g4); clear g4)
            | (go_at_call 38; (with_reducible refine (hsmT _).mono ?_); rintro e w5 ⟨rfl, q5, rfl⟩)
            | (go_at_call 47; (with_reducible refine (hinT _).mono ?_); rintro e w6 ⟨rfl, rfl⟩)
            | fail)
          go_roundw
          case rel => exact ⟨k + 1, N + 1, T + 1, by omega, by rfl, by rfl, hT1, Lib.hid (by rw [HST.out]; simp), Lib.hid (K4.out.call (below_drewN (Below.refl _ _) _))⟩
          case measure => simp [intOf]; omega
        | false =>
          go_wp2_with (first
            | (go_at_call 37; (with_reducible refine (hofT _ KR.out.k.s).mono ?_); rintro e w4 ⟨rfl, g4⟩; have K4 := Lib.hid (KR.out.call g4); clear g4)
            | (go_at_call 38; (with_reducible refine (hsmT _).mono ?_); rintro e w5 ⟨rfl, q5, rfl⟩)
            | (go_at_call 47; (with_reducible refine (hinT _).mono ?_); rintro e w6 ⟨rfl, rfl⟩)
            | fail)
          go_roundw
          case rel => exact ⟨k + 1, N, T + 1, by omega, by rfl, by rfl, hT1, Lib.hid (by rw [HST.out]; simp), Lib.hid (K4.out.call (below_drewN (Below.refl _ _) _))⟩
          case measure => simp [intOf]; omega
      · obtain rfl : k = m := by omega
        have j1 : ¬ T < z := by omega
        have hv2 := HDV.out
        rw [HN.out] at hv2
        subst hv2
        clear hT
        go_wp2_with fail
        go_ret2
        exact ⟨rfl, KR.out.k.b⟩
  · rw [if_neg h0] at hdV
    subst hdV
    have h1 : (X != 0) = true := by simpa using h0
    clear hS hok hbo hoff
    go_enter Try.func27, Try.ntmps27
    obtain ⟨b0, b1, b2⟩ := K0.out.k.z
    obtain ⟨c0, c1⟩ := K0.out.p
    go_wp2_with (first
      | (go_at_call 46; (with_reducible refine (hv _ K0.out.k.s).mono ?_); rintro e w1 ⟨rfl, g1⟩; have K1 := Lib.hid (K0.out.call g1); obtain ⟨d0, d1, d2⟩ := K1.out.k.z; obtain ⟨e0, e1⟩ := K1.out.p; clear g1)
      | fail)
    go_ret2
    exact ⟨rfl, K1.out.k.b⟩
set_option maxHeartbeats 8000000 in
set_option maxRecDepth 1000000 in
theorem rnights_any (nm : List UInt8) (hnl : nm.length ≤ 9223372036854775807) (o : Int) (a : Option Addr) (n c : Nat) (ss : List (Int × Int)) (w : World) (hS : ShIn w a n ss) (hn : n ≤ 9223372036854775807) (y z f t : Int) :
    Calls Try.prog 29 #[.agg #[.string ⟨nm.toArray⟩, .int .i64 o, .slice a n c], .agg #[.int .i64 y, .int .i64 z], .int .i64 f, .int .i64 t] w (RetNE w (ngV (zE (nameB nm) o ss) o ss y z f t) (bandE (zE (nameB nm) o ss) y z f t)) := by
  have hv := fun w hS => rband_any nm hnl o a n c ss w hS hn y z f t
  have hoff := fun w hS => roffset2_any nm hnl o a n c ss w hS hn
  have hok := @zE_ok (nameB nm) o ss
  have K0 := Lib.hid (KS.start (nm := nm) (o := o) (c := c) hS y z 24 40)
  obtain ⟨E, HE⟩ : ∃ v, Hid (zE (nameB nm) o ss = v) := ⟨_, rfl⟩
  rw [HE.out] at hok ⊢
  simp only [HE.out] at hv
  have hbo := @bandE_ok E y z f t
  have hdV : ngV E o ss y z f t = if bandE E y z f t = 0 then _ else 0 := rfl
  obtain ⟨X, HX⟩ : ∃ v, Hid (bandE E y z f t = v) := ⟨_, rfl⟩
  obtain ⟨V, HV⟩ : ∃ v, Hid (ngV E o ss y z f t = v) := ⟨_, rfl⟩
  simp only [HX.out] at hv
  rw [HX.out] at hbo hdV ⊢
  rw [HV.out] at hdV ⊢
  by_cases h0 : X = 0
  · subst h0
    rw [if_pos rfl] at hdV
    obtain ⟨rfl, hsp, hf, ht⟩ := hbo rfl
    obtain ⟨_, hz⟩ := hok rfl
    obtain ⟨sp1, sp2, sp3⟩ := spanB_in hsp
    obtain ⟨m, hm⟩ : ∃ m : Nat, (m : Int) = z - y := ⟨(z - y).toNat, by omega⟩
    rw [show (z - y).toNat = m by omega] at hdV
    have hbd : ∀ u, bandB o ss f t u = inB ((u + offs o ss u) % 1440) f t := fun _ => rfl
    obtain ⟨P, hP⟩ : ∃ P, bandB o ss f t = P := ⟨_, rfl⟩
    rw [hP] at hdV hbd
    have HBD := Lib.hid hbd
    have HZ := Lib.hid hz
    have HOF := Lib.hid hoff
    obtain ⟨bl, hbl⟩ : ∃ v, (t - f) % 1440 = v := ⟨_, rfl⟩
    rw [hbl] at hdV
    have hrem : (t - f + 1440).tmod 1440 = bl := by rw [Int.tmod_eq_emod_of_nonneg (by omega)]; omega
    have hb0 : 0 ≤ bl ∧ bl < 1440 := by omega
    have w1' : IntKind.i64.wrap (t - f) = t - f := IntWalk.i64_in _ (by omega)
    have w2' : IntKind.i64.wrap (t - f + 1440) = t - f + 1440 := IntWalk.i64_in _ (by omega)
    clear hbl
    clear hS hok hz hoff hbd hP hbo
    have HDV := Lib.hid hdV
    clear hdV
    go_enter Try.func29, Try.ntmps29
    obtain ⟨b0, b1, b2⟩ := K0.out.k.z
    obtain ⟨c0, c1⟩ := K0.out.p
    go_wp2_with (first
      | (go_at_call 46; (with_reducible refine (hv _ K0.out.k.s).mono ?_); rintro e w1 ⟨rfl, g1⟩; have K1 := Lib.hid (K0.out.call g1); obtain ⟨d0, d1, d2⟩ := K1.out.k.z; obtain ⟨e0, e1⟩ := K1.out.p; clear g1)
      | fail)
    go_loopw [12, 13, 14] (fun x r i wr => ∃ (k : Nat) (N R T : Int), k ≤ m + 1 ∧ x = .int .i64 N ∧ r = .int .i64 R ∧ i = .int .i64 T ∧ Hid (T = y + k) ∧ Hid ((k ≤ m → scan P bl y k = (N, R)) ∧ (k = m + 1 → N = fin bl (scan P bl y m))) ∧ Hid (KS w wr w.heap.size (w.heap.size + 1) nm o a n c ss y z)) (fun _ _ i _ => (z + 1 - intOf i).toNat)
    case atStart => exact ⟨0, 0, 0, y, by omega, rfl, rfl, rfl, Lib.hid (by omega), Lib.hid ⟨fun _ => rfl, fun h => by omega⟩, K1⟩
    case round =>
      obtain ⟨k, N, R, T, hk, rfl, rfl, rfl, HT, HN, KR⟩ := hrel
      clear b0 b1 b2 c0 c1 d0 d1 d2 e0 e1
      obtain ⟨z0, z1, z2⟩ := KR.out.k.z
      obtain ⟨s0, s1⟩ := KR.out.p
      have hT := HT.out
      by_cases hlt : k < m
      · have j0 : T ≤ z := by omega
        have j1 : T < z := by omega
        have hxb := HZ.out.bound T
        have hbT := HBD.out T
        have hofT := fun w hS => HOF.out w hS T
        obtain ⟨X, HXX⟩ : ∃ v, Hid (offs o ss T = v) := ⟨_, rfl⟩
        simp only [HXX.out] at hofT
        rw [HXX.out] at hxb hbT
        have hsmT := rsplitMinute_any (T + X) (by omega) (by omega)
        obtain ⟨D, HD⟩ : ∃ v, Hid ((T + X) / 1440 = v) := ⟨_, rfl⟩
        obtain ⟨C, HC⟩ : ∃ v, Hid ((T + X) % 1440 = v) := ⟨_, rfl⟩
        simp only [HD.out, HC.out] at hsmT
        rw [HC.out] at hbT
        have hinT := inBand_any C f t
        obtain ⟨Q, HQ⟩ : ∃ v, Hid (inB C f t = v) := ⟨_, rfl⟩
        rw [HQ.out] at hbT
        simp only [HQ.out] at hinT
        have w3 : IntKind.i64.wrap (T + X) = T + X := IntWalk.i64_in _ (by omega)
        have w4 : IntKind.i64.wrap (T + 1) = T + 1 := IntWalk.i64_in _ (by omega)
        have hsk := HN.out.1 (by omega)
        have hsb := scan_bound P bl y k
        rw [hsk] at hsb
        simp only at hsb
        have hst : scan P bl y (k + 1) = if P (y + k) = true then ((scan P bl y k).1, (scan P bl y k).2 + 1) else (if bl ≤ (scan P bl y k).2 ∧ 0 < (scan P bl y k).2 then (scan P bl y k).1 + 1 else (scan P bl y k).1, 0) := rfl
        rw [hsk, ← hT, hbT] at hst
        simp only at hst
        have w5 : IntKind.i64.wrap (N + 1) = N + 1 := IntWalk.i64_in _ (by omega)
        have w6 : IntKind.i64.wrap (R + 1) = R + 1 := IntWalk.i64_in _ (by omega)
        have hT1 : Hid (T + 1 = y + ((k + 1 : Nat) : Int)) := Lib.hid (by omega)
        clear hT hbT hsk
        cases Q with
        | true =>
          rw [if_pos rfl] at hst
          have HST := Lib.hid hst
          clear hst
          go_wp2_with (first
            | (go_at_call 37; (with_reducible refine (hofT _ KR.out.k.s).mono ?_); rintro e w4 ⟨rfl, g4⟩; have K4 := Lib.hid (KR.out.call g4); clear g4)
            | (go_at_call 38; (with_reducible refine (hsmT _).mono ?_); rintro e w5 ⟨rfl, q5, rfl⟩)
            | (go_at_call 47; (with_reducible refine (hinT _).mono ?_); rintro e w6 ⟨rfl, rfl⟩)
            | fail)
          go_roundw
          case rel => exact ⟨k + 1, N, R + 1, T + 1, by omega, by rfl, by rfl, by rfl, hT1, Lib.hid ⟨fun _ => HST.out, fun h => by omega⟩, Lib.hid (K4.out.call (below_drewN (Below.refl _ _) _))⟩
          case measure => simp [intOf]; omega
        | false =>
          rw [if_neg (by simp)] at hst
          by_cases r1 : bl ≤ R
          · by_cases r2 : 0 < R
            · rw [if_pos ⟨r1, r2⟩] at hst
              have HST := Lib.hid hst
              clear hst
              go_wp2_with (first
                | (go_at_call 37; (with_reducible refine (hofT _ KR.out.k.s).mono ?_); rintro e w4 ⟨rfl, g4⟩; have K4 := Lib.hid (KR.out.call g4); clear g4)
                | (go_at_call 38; (with_reducible refine (hsmT _).mono ?_); rintro e w5 ⟨rfl, q5, rfl⟩)
                | (go_at_call 47; (with_reducible refine (hinT _).mono ?_); rintro e w6 ⟨rfl, rfl⟩)
                | fail)
              go_roundw
              case rel => exact ⟨k + 1, N + 1, 0, T + 1, by omega, by rfl, by rfl, by rfl, hT1, Lib.hid ⟨fun _ => HST.out, fun h => by omega⟩, Lib.hid (K4.out.call (below_drewN (Below.refl _ _) _))⟩
              case measure => simp [intOf]; omega
            · rw [if_neg (fun h => r2 h.2)] at hst
              have HST := Lib.hid hst
              have r2' : decide (0 < R) = false := by simpa using r2
              clear hst
              go_wp2_with (first
                | (go_at_call 37; (with_reducible refine (hofT _ KR.out.k.s).mono ?_); rintro e w4 ⟨rfl, g4⟩; have K4 := Lib.hid (KR.out.call g4); clear g4)
                | (go_at_call 38; (with_reducible refine (hsmT _).mono ?_); rintro e w5 ⟨rfl, q5, rfl⟩)
                | (go_at_call 47; (with_reducible refine (hinT _).mono ?_); rintro e w6 ⟨rfl, rfl⟩)
                | fail)
              go_roundw
              case rel => exact ⟨k + 1, N, 0, T + 1, by omega, by rfl, by rfl, by rfl, hT1, Lib.hid ⟨fun _ => HST.out, fun h => by omega⟩, Lib.hid (K4.out.call (below_drewN (Below.refl _ _) _))⟩
              case measure => simp [intOf]; omega
          · rw [if_neg (fun h => r1 h.1)] at hst
            have HST := Lib.hid hst
            have r1' : decide (bl ≤ R) = false := by simpa using r1
            clear hst
            go_wp2_with (first
              | (go_at_call 37; (with_reducible refine (hofT _ KR.out.k.s).mono ?_); rintro e w4 ⟨rfl, g4⟩; have K4 := Lib.hid (KR.out.call g4); clear g4)
              | (go_at_call 38; (with_reducible refine (hsmT _).mono ?_); rintro e w5 ⟨rfl, q5, rfl⟩)
              | (go_at_call 47; (with_reducible refine (hinT _).mono ?_); rintro e w6 ⟨rfl, rfl⟩)
              | fail)
            go_roundw
            case rel => exact ⟨k + 1, N, 0, T + 1, by omega, by rfl, by rfl, by rfl, hT1, Lib.hid ⟨fun _ => HST.out, fun h => by omega⟩, Lib.hid (K4.out.call (below_drewN (Below.refl _ _) _))⟩
            case measure => simp [intOf]; omega
      · by_cases hkm : k = m
        · subst hkm
          have j0 : T ≤ z := by omega
          have j1 : ¬ T < z := by omega
          have j2 : decide (T < z) = false := decide_eq_false j1
          have hsk := HN.out.1 (Nat.le_refl _)
          have hsb := scan_bound P bl y k
          rw [hsk] at hsb
          simp only at hsb
          have hfin : fin bl (scan P bl y k) = if bl ≤ R ∧ 0 < R then N + 1 else N := by rw [hsk]; rfl
          have w4 : IntKind.i64.wrap (T + 1) = T + 1 := IntWalk.i64_in _ (by omega)
          have w5 : IntKind.i64.wrap (N + 1) = N + 1 := IntWalk.i64_in _ (by omega)
          have hT1 : Hid (T + 1 = y + ((k + 1 : Nat) : Int)) := Lib.hid (by omega)
          clear hT hsk
          by_cases r1 : bl ≤ R
          · by_cases r2 : 0 < R
            · rw [if_pos ⟨r1, r2⟩] at hfin
              have HFN := Lib.hid hfin
              clear hfin
              go_wp2_with fail
              go_roundw
              case rel => exact ⟨k + 1, N + 1, 0, T + 1, by omega, by rfl, by rfl, by rfl, hT1, Lib.hid ⟨fun h => by omega, fun _ => HFN.out.symm⟩, KR⟩
              case measure => simp [intOf]; omega
            · rw [if_neg (fun h => r2 h.2)] at hfin
              have HFN := Lib.hid hfin
              have r2' : decide (0 < R) = false := by simpa using r2
              clear hfin
              go_wp2_with fail
              go_roundw
              case rel => exact ⟨k + 1, N, 0, T + 1, by omega, by rfl, by rfl, by rfl, hT1, Lib.hid ⟨fun h => by omega, fun _ => HFN.out.symm⟩, KR⟩
              case measure => simp [intOf]; omega
          · rw [if_neg (fun h => r1 h.1)] at hfin
            have HFN := Lib.hid hfin
            have r1' : decide (bl ≤ R) = false := by simpa using r1
            clear hfin
            go_wp2_with fail
            go_roundw
            case rel => exact ⟨k + 1, N, 0, T + 1, by omega, by rfl, by rfl, by rfl, hT1, Lib.hid ⟨fun h => by omega, fun _ => HFN.out.symm⟩, KR⟩
            case measure => simp [intOf]; omega
        · obtain rfl : k = m + 1 := by omega
          have j0 : ¬ T ≤ z := by omega
          have hN2 := HN.out.2 rfl
          have hv2 := HDV.out
          unfold nights at hv2
          rw [← hN2] at hv2
          clear hT hN2
          by_cases hb : bl = 0
          · rw [if_pos hb] at hv2
            subst hv2
            have hb2 : (bl == 0) = true := by simpa using hb
            have HBB := Lib.hid hb
            clear hb
            go_wp2_with fail
            go_ret2
            exact ⟨rfl, KR.out.k.b⟩
          · rw [if_neg hb] at hv2
            subst hv2
            have hb2 : (bl == 0) = false := by simpa using hb
            go_wp2_with fail
            go_ret2
            exact ⟨rfl, KR.out.k.b⟩
  · rw [if_neg h0] at hdV
    subst hdV
    have h1 : (X != 0) = true := by simpa using h0
    clear hS hok hbo hoff
    go_enter Try.func29, Try.ntmps29
    obtain ⟨b0, b1, b2⟩ := K0.out.k.z
    obtain ⟨c0, c1⟩ := K0.out.p
    go_wp2_with (first
      | (go_at_call 46; (with_reducible refine (hv _ K0.out.k.s).mono ?_); rintro e w1 ⟨rfl, g1⟩; have K1 := Lib.hid (K0.out.call g1); obtain ⟨d0, d1, d2⟩ := K1.out.k.z; obtain ⟨e0, e1⟩ := K1.out.p; clear g1)
      | fail)
    go_ret2
    exact ⟨rfl, K1.out.k.b⟩
set_option maxHeartbeats 8000000 in
set_option maxRecDepth 1000000 in
theorem zoneBands_any (nm : List UInt8) (hnl : nm.length ≤ 9223372036854775807) (o : Int) (a : Option Addr) (n c : Nat) (ss : List (Int × Int)) (w : World) (hS : ShIn w a n ss) (hn : n ≤ 9223372036854775807) (y z : Int) (hd : ((-9223372036854775808 ≤ y ∧ y ≤ 9223372036854775807) ∧ (-9223372036854775808 ≤ z ∧ z ≤ 9223372036854775807))) (f : Int) (hf : (-9223372036854775808 ≤ f ∧ f ≤ 9223372036854775807)) (t : Int) (ht : (-9223372036854775808 ≤ t ∧ t ≤ 9223372036854775807)) : Calls Try.prog 8 #[.agg #[.string ⟨nm.toArray⟩, .int .i64 o, .slice a n c], .agg #[.int .i64 y, .int .i64 z], .int .i64 f, .int .i64 t] w (RetB1 w true) := by
  have hli := fun w hS => light7_any nm o a n c ss y z w hS
  have hp1 := fun w hS => bandMinutes_any nm hnl o a n c ss w hS hn y z f t
  have hr1 := fun w hS => rbandMinutes_any nm hnl o a n c ss w hS hn y z f t
  have hp2 := fun w hS => nights_any nm hnl o a n c ss w hS hn y z f t
  have hr2 := fun w hS => rnights_any nm hnl o a n c ss w hS hn y z f t
  have K0 := Lib.hid (KS.start (nm := nm) (o := o) (c := c) hS y z 24 40)
  obtain ⟨E, HE⟩ : ∃ v, Hid (zE (nameB nm) o ss = v) := ⟨_, rfl⟩
  simp only [HE.out] at hp1 hr1 hp2 hr2
  obtain ⟨X, HX⟩ : ∃ v, Hid (bandE E y z f t = v) := ⟨_, rfl⟩
  obtain ⟨V1, HV1⟩ : ∃ v, Hid (bmV E o ss y z f t = v) := ⟨_, rfl⟩
  obtain ⟨V2, HV2⟩ : ∃ v, Hid (ngV E o ss y z f t = v) := ⟨_, rfl⟩
  simp only [HX.out, HV1.out] at hp1 hr1
  simp only [HX.out, HV2.out] at hp2 hr2
  clear hS hd hf ht
  go_enter Try.func8, Try.ntmps8
  obtain ⟨b0, c0, d0⟩ := K0.out.k.z
  obtain ⟨p0, q0⟩ := K0.out.p
  go_wp2_with (first
    | (go_at_call 23; (with_reducible refine (hli _ K0.out.k.s).mono ?_); rintro e w1 ⟨L, rfl, g1⟩; have K1 := Lib.hid (K0.out.call g1); obtain ⟨b1, c1, d1⟩ := K1.out.k.z; obtain ⟨p1, q1⟩ := K1.out.p; clear g1; cases L)
    | (go_at_call 26; (with_reducible refine (hp1 _ K1.out.k.s).mono ?_); rintro e w2 ⟨rfl, g2⟩; have K2 := Lib.hid (K1.out.call g2); obtain ⟨b2, c2, d2⟩ := K2.out.k.z; obtain ⟨p2, q2⟩ := K2.out.p; clear g2)
    | (go_at_call 27; (with_reducible refine (hr1 _ K2.out.k.s).mono ?_); rintro e w3 ⟨rfl, g3⟩; have K3 := Lib.hid (K2.out.call g3); obtain ⟨b3, c3, d3⟩ := K3.out.k.z; obtain ⟨p3, q3⟩ := K3.out.p; clear g3)
    | (go_at_call 28; (with_reducible refine (hp2 _ K3.out.k.s).mono ?_); rintro e w4 ⟨rfl, g4⟩; have K4 := Lib.hid (K3.out.call g4); obtain ⟨b4, c4, d4⟩ := K4.out.k.z; obtain ⟨p4, q4⟩ := K4.out.p; clear g4)
    | (go_at_call 29; (with_reducible refine (hr2 _ K4.out.k.s).mono ?_); rintro e w5 ⟨rfl, g5⟩; have K5 := Lib.hid (K4.out.call g5); obtain ⟨b5, c5, d5⟩ := K5.out.k.z; obtain ⟨p5, q5⟩ := K5.out.p; clear g5)
    | (go_at_call 11; (with_reducible refine (awake7_any _).mono ?_); rintro e w9 ⟨rfl, g9⟩)
    | fail)
  all_goals
    go_wp2_with (first
      | (go_at_call 26; (with_reducible refine (hp1 _ K1.out.k.s).mono ?_); rintro e w2 ⟨rfl, g2⟩; have K2 := Lib.hid (K1.out.call g2); obtain ⟨b2, c2, d2⟩ := K2.out.k.z; obtain ⟨p2, q2⟩ := K2.out.p; clear g2)
      | (go_at_call 27; (with_reducible refine (hr1 _ K2.out.k.s).mono ?_); rintro e w3 ⟨rfl, g3⟩; have K3 := Lib.hid (K2.out.call g3); obtain ⟨b3, c3, d3⟩ := K3.out.k.z; obtain ⟨p3, q3⟩ := K3.out.p; clear g3)
      | (go_at_call 28; (with_reducible refine (hp2 _ K3.out.k.s).mono ?_); rintro e w4 ⟨rfl, g4⟩; have K4 := Lib.hid (K3.out.call g4); obtain ⟨b4, c4, d4⟩ := K4.out.k.z; obtain ⟨p4, q4⟩ := K4.out.p; clear g4)
      | (go_at_call 29; (with_reducible refine (hr2 _ K4.out.k.s).mono ?_); rintro e w5 ⟨rfl, g5⟩; have K5 := Lib.hid (K4.out.call g5); obtain ⟨b5, c5, d5⟩ := K5.out.k.z; obtain ⟨p5, q5⟩ := K5.out.p; clear g5)
      | (go_at_call 11; (with_reducible refine (awake7_any _).mono ?_); rintro e w9 ⟨rfl, g9⟩)
      | fail)
    go_ret
    first | exact ⟨rfl, (K5.out.call g9).k.b⟩ | exact ⟨rfl, (K1.out.call g9).k.b⟩
end Go.Proofs.Ytiohakpbgmignaa

