/-
  The program's Simplest.
-/
import Derived.Test.YtgjkgmlcfieodaaTfG
import Derived.Test.YtgjkgmlcfieodaaTfF
import Derived.Test.YtgjkgmlcfieodaaTfH
set_option linter.unusedVariables false
set_option linter.unusedSimpArgs false
set_option warningAsError false
namespace Go.Proofs.Ytgjkgmlcfieodaa
open Go.RowKit

theorem up_scale (a b : Int) : ∃ g : Int, 0 < g ∧ un a b = g * rn a b ∧ ud a b = g * rd a b := by
  refine ⟨(Int.gcd (un a b) (ud a b) : Nat), ?_, ?_, ?_⟩
  · have h := ud_pos a b
    have := Int.gcd_pos_of_ne_zero_right (un a b) (show ud a b ≠ 0 by omega)
    omega
  · unfold rn; exact (Int.mul_ediv_cancel' (Int.gcd_dvd_left _ _)).symm
  · unfold rd; exact (Int.mul_ediv_cancel' (Int.gcd_dvd_right _ _)).symm
structure CtF (R : Nat) (a b c d : Int) : Prop where
  len : (terms R a b c d).length ≤ 10000
  nn : ∀ t ∈ terms R a b c d, 0 ≤ t
  val : cfrac (terms R a b c d) = simpl R a b c d
  h1 : (cfrac (terms R a b c d)).1 ≤ a + b
  h2 : (cfrac (terms R a b c d)).2 ≤ a + b
  one : 1 ≤ a + b
  sz : Sz (a + b) 100
theorem pow_lt_of {b : Int} {j : Nat} (hb : 0 ≤ b) (h : b.natAbs < 2 ^ j) : b < 2 ^ j := by
  have h2 : (2 : Int) ^ j = ((2 ^ j : Nat) : Int) := by rw [Int.natCast_pow]; rfl
  rw [h2]
  omega
theorem ct_facts {R : Nat} {a b c d : Int} (h : Pos4 a b c d) (hR : b + d ≤ R) (za : Sz a 90) (zb : Sz b 90) : CtF R a b c d := by
  have hv := terms_val R a b c d h hR
  have hs := simpl_ok R a b c d h hR
  have hl := hs.le_lo h
  have ha := h.pa
  have hb := h.pb
  refine ⟨?_, terms_nn R a b c d h, hv, by rw [hv]; omega, by rw [hv]; omega, by omega, (za.add zb).mono (by decide)⟩
  refine Nat.le_trans (terms_len (32 * 90) R a b c d h (pow_lt_of (by omega) ?_)) (by decide)
  have h1 : b.natAbs < BB ^ 90 := zb
  rw [BB_pow] at h1
  exact h1
theorem un_sign (a b : Int) (h : 0 < rn a b) : 0 < un a b := by
  obtain ⟨g, h1, h2, _⟩ := up_scale a b
  rw [h2]; exact Int.mul_pos h1 h
theorem up_pos4 {a b c d : Int} (h : Pos4 (rn a b) (rd a b) (rn c d) (rd c d)) : Pos4 (un a b) (ud a b) (un c d) (ud c d) ∧ ∀ R : Nat, ud a b + ud c d ≤ R → simpl R (un a b) (ud a b) (un c d) (ud c d) = smP (rn a b) (rd a b) (rn c d) (rd c d) := by
  obtain ⟨g, g1, g2, g3⟩ := up_scale a b
  obtain ⟨k, k1, k2, k3⟩ := up_scale c d
  have hp := h
  rw [g2, g3, k2, k3]
  generalize rn a b = x1 at *
  generalize rd a b = y1 at *
  generalize rn c d = x2 at *
  generalize rd c d = y2 at *
  refine ⟨⟨Int.mul_pos g1 h.pa, Int.mul_pos g1 h.pb, Int.mul_pos k1 h.pc, Int.mul_pos k1 h.pd, ?_⟩, fun R hR => ?_⟩
  · have e1 : g * x1 * (k * y2) = (g * k) * (x1 * y2) := by grind
    have e2 : k * x2 * (g * y1) = (g * k) * (x2 * y1) := by grind
    rw [e1, e2]
    exact Int.mul_le_mul_of_nonneg_left h.le (Int.le_of_lt (Int.mul_pos g1 k1))
  · rw [simpl_scale R g k x1 y1 x2 y2 g1 k1 hp]
    unfold smP
    have b1 := h.pb
    have b2 := h.pd
    have l1 : 1 * y1 ≤ g * y1 := Int.mul_le_mul_of_nonneg_right (by omega) (by omega)
    have l2 : 1 * y2 ≤ k * y2 := Int.mul_le_mul_of_nonneg_right (by omega) (by omega)
    exact simpl_fuel R (smK y1 y2) x1 y1 x2 y2 hp (by omega) (by unfold smK; omega)

set_option maxHeartbeats 16000000 in
set_option maxRecDepth 100000 in
theorem simplest_at {w : World} {s1 s2 s3 s4 : Bool} {A1 A2 A3 A4 : Option Addr} {n1 c1 n2 c2 n3 c3 n4 c4 : Nat} {a b c d : Int} (h1 : IntAt w s1 A1 n1 c1 a) (h2 : IntAt w s2 A2 n2 c2 b) (h3 : IntAt w s3 A3 n3 c3 c) (h4 : IntAt w s4 A4 n4 c4 d) (za : Sz a 50) (zb : Sz b 50) (zc : Sz c 50) (zd : Sz d 50) :
    Calls Try.prog 7 #[.agg #[.bool s1, .slice A1 n1 c1, .bool s2, .slice A2 n2 c2], .agg #[.bool s3, .slice A3 n3 c3, .bool s4, .slice A4 n4 c4]] w (RetFE w (smQ (rn a b) (rd a b) (rn c d) (rd c d)).1 (smQ (rn a b) (rd a b) (rn c d) (rd c d)).2 (smE (rn a b) (rd a b) (rn c d) (rd c d))) := by
  have H0 := (((((((St.start w).addI h1).addI h2).addI h3).addI h4).new 26 (Plains.four s1 A1 n1 c1 s2 A2 n2 c2)).new 26 (Plains.four s3 A3 n3 c3 s4 A4 n4 c4)).new 26 (Plains.four false none 0 0 false none 0 0)
  (try simp only [World.size_alloc] at H0)
  have HH := Lib.hid H0
  clear H0 h1 h2 h3 h4
  have cp1 := cp_r a b
  have cp2 := cp_r c d
  have za2 : Sz a 2000 := za.mono (by decide)
  have zb2 : Sz b 2000 := zb.mono (by decide)
  have zc2 : Sz c 2000 := zc.mono (by decide)
  have zd2 : Sz d 2000 := zd.mono (by decide)
  have ka := za.ok
  have kb := zb.ok
  have kc := zc.ok
  have kd := zd.ok
  have zx1 : Sz (rn a b) 90 := (sz_rn za).mono (by decide)
  have zx2 : Sz (rn c d) 90 := (sz_rn zc).mono (by decide)
  have zy1 : Sz (rd a b) 90 := (sz_rd zb (by decide)).mono (by decide)
  have zy2 : Sz (rd c d) 90 := (sz_rd zd (by decide)).mono (by decide)
  obtain ⟨cv, HCV⟩ : ∃ v, Hid (cmpI (un a b * ud c d) (un c d * ud a b) = v) := ⟨_, rfl⟩
  obtain ⟨sg1, HSG1⟩ : ∃ v, Hid (sgn a * sgn b = v) := ⟨_, rfl⟩
  obtain ⟨sg2, HSG2⟩ : ∃ v, Hid (sgn c * sgn d = v) := ⟨_, rfl⟩
  have hcv : Hid (cv = cmpI (rn a b * rd c d) (rn c d * rd a b)) := by unfold Hid; rw [← HCV.out]; exact cmp_same a b c d
  have hsg1 : Hid (sg1 = sgn (rn a b)) := by unfold Hid; rw [← HSG1.out, sgn_rn]
  have hsg2 : Hid (sg2 = sgn (rn c d)) := by unfold Hid; rw [← HSG2.out, sgn_rn]
  obtain ⟨X, HXa⟩ : ∃ v, Hid ((smQ (rn a b) (rd a b) (rn c d) (rd c d)).1 = v) := ⟨_, rfl⟩
  obtain ⟨Y, HYa⟩ : ∃ v, Hid ((smQ (rn a b) (rd a b) (rn c d) (rd c d)).2 = v) := ⟨_, rfl⟩
  obtain ⟨Z, HZa⟩ : ∃ v, Hid (smE (rn a b) (rd a b) (rn c d) (rd c d) = v) := ⟨_, rfl⟩
  rw [HXa.out, HYa.out, HZa.out]
  have CP1 := Lib.hid cp1
  have CP2 := Lib.hid cp2
  clear cp1 cp2
  by_cases hE : rn c d * rd a b < rn a b * rd c d
  · have hv : cv = 1 := by rw [hcv.out]; exact cmpI_gt hE
    have q1 : (smQ (rn a b) (rd a b) (rn c d) (rd c d)).1 = 0 ∧ (smQ (rn a b) (rd a b) (rn c d) (rd c d)).2 = 0 ∧ smE (rn a b) (rd a b) (rn c d) (rd c d) = 8 := by unfold smQ smE; simp [hE]
    rw [HXa.out, HYa.out, HZa.out] at q1
    obtain ⟨rfl, rfl, rfl⟩ := q1
    subst hv
    clear hE
    go_enter Try.func7, Try.ntmps7
    go_upto_region 1 with fail
    have KC := HH.out
    clear HH
    obtain ⟨⟨t00, t01, t02, t03⟩, ⟨t10, t11, t12, t13⟩, ⟨t20, t21, t22, t23⟩, _⟩ := KC.facts
    obtain ⟨f0, f1, f2, f3⟩ := KC.free (i := 0) rfl
    go_wp2_with (first
      | (go_at_call 10; have j1 := KC.ints.2.2.2.1.i; have j2 := KC.ints.2.2.1.i; have j3 := KC.ints.2.1.i; have j4 := KC.ints.1.i; (with_reducible refine (fcompare_at j1 j2 j3 j4 za2 zb2 zc2 zd2).mono ?_); rw [HCV.out]; rintro e1 w1 ⟨rfl, g1⟩; have K1 := KC.call g1; clear j1 j2 j3 j4; clear t00 t01 t02 t03 t10 t11 t12 t13 t20 t21 t22 t23 f0 f1 f2 f3; obtain ⟨⟨t00, t01, t02, t03⟩, ⟨t10, t11, t12, t13⟩, ⟨t20, t21, t22, t23⟩, _⟩ := K1.facts; obtain ⟨f0, f1, f2, f3⟩ := K1.free (i := 0) rfl)
      | fail)
    have KR := ((K1.put4 0 rfl false none 0 0 false none 0 0).add (CanAt.zero_ _)).add (CanAt.zero_ _)
    simp only [List.set] at KR
    obtain ⟨⟨r0, r1, r2, r3⟩, _⟩ := KR.facts
    exact bodyPost_ret (v := .tuple #[.agg #[.bool (decide ((0 : Int) < 0)), .slice none 0 0, .bool (decide ((0 : Int) < 0)), .slice none 0 0], .int .i64 8]) (by simp [results, Try.results7, go_sem, r0, r1, r2, r3]) rfl (RetFE.of_st (x := 0) (y := 0) KR)
  have hvl : ¬ 0 < cv := by
    rw [hcv.out]; unfold cmpI; split <;> (try split) <;> omega
  have hEE : smE (rn a b) (rd a b) (rn c d) (rd c d) = 0 := by unfold smE; rw [if_neg hE]
  rw [HZa.out] at hEE
  subst hEE
  by_cases hp : 0 < rn a b
  · have h4 := pos4_of CP1.out CP2.out hE hp
    have g1_ : sg1 = 1 := by rw [hsg1.out]; exact sgn_p hp
    have hq : smQ (rn a b) (rd a b) (rn c d) (rd c d) = smP (rn a b) (rd a b) (rn c d) (rd c d) := by unfold smQ; rw [if_neg hE, if_pos hp]
    obtain ⟨hu4, hus⟩ := up_pos4 h4
    obtain ⟨R, HR⟩ : ∃ v : Nat, Hid ((ud a b + ud c d).toNat = v) := ⟨_, rfl⟩
    have hRR : ud a b + ud c d ≤ R := by rw [← HR.out]; omega
    have hus := hus R hRR
    have zu1 : Sz (un a b) 90 := (sz_un za).mono (by decide)
    have zu2 : Sz (un c d) 90 := (sz_un zc).mono (by decide)
    have zw1 : Sz (ud a b) 90 := (sz_ud zb (by decide)).mono (by decide)
    have zw2 : Sz (ud c d) 90 := (sz_ud zd (by decide)).mono (by decide)
    have hcf := ct_facts hu4 hRR zu1 zw1
    obtain ⟨u1, HU1⟩ : ∃ v, Hid (un a b = v) := ⟨_, rfl⟩
    obtain ⟨u2, HU2⟩ : ∃ v, Hid (ud a b = v) := ⟨_, rfl⟩
    obtain ⟨u3, HU3⟩ : ∃ v, Hid (un c d = v) := ⟨_, rfl⟩
    obtain ⟨u4, HU4⟩ : ∃ v, Hid (ud c d = v) := ⟨_, rfl⟩
    rw [HU1.out] at hus zu1
    rw [HU2.out] at hus zw1
    rw [HU3.out] at hus zu2
    rw [HU4.out] at hus zw2
    rw [HU1.out, HU2.out, HU3.out, HU4.out] at hu4 hcf
    rw [HU2.out, HU4.out] at hRR
    obtain ⟨Ts, HTS⟩ : ∃ v, Hid (terms R u1 u2 u3 u4 = v) := ⟨_, rfl⟩
    have hlen := hcf.len
    obtain ⟨_, hnn, hval, hh1, hh2, hone, hsz⟩ := hcf
    rw [HTS.out] at hnn hval hh1 hh2
    have hXY : (cfrac Ts).1 = X ∧ (cfrac Ts).2 = Y := by
      rw [hval, hus, ← HXa.out, ← HYa.out, hq]; exact ⟨rfl, rfl⟩
    have HXY := Lib.hid hXY
    have hlen2 : Ts.length ≤ 10000 := by rw [← HTS.out]; exact hlen
    have hS := (⟨zu1.mono (by decide), zw1.mono (by decide), zu2.mono (by decide), zw2.mono (by decide)⟩ : Sz u1 100 ∧ Sz u2 100 ∧ Sz u3 100 ∧ Sz u4 100)
    subst g1_
    clear h4 hq hp hE hval hus hXY
    go_enter Try.func7, Try.ntmps7
    go_upto_region 1 with fail
    have KC := HH.out
    clear HH
    obtain ⟨⟨t00, t01, t02, t03⟩, ⟨t10, t11, t12, t13⟩, ⟨t20, t21, t22, t23⟩, _⟩ := KC.facts
    obtain ⟨f0, f1, f2, f3⟩ := KC.free (i := 0) rfl
    go_upto_region 4 with (first
      | (go_at_call 10; have j1 := KC.ints.2.2.2.1.i; have j2 := KC.ints.2.2.1.i; have j3 := KC.ints.2.1.i; have j4 := KC.ints.1.i; (with_reducible refine (fcompare_at j1 j2 j3 j4 za2 zb2 zc2 zd2).mono ?_); rw [HCV.out]; rintro e1 w1 ⟨rfl, g1⟩; have K1 := KC.call g1; clear j1 j2 j3 j4; clear t00 t01 t02 t03 t10 t11 t12 t13 t20 t21 t22 t23 f0 f1 f2 f3; obtain ⟨⟨t00, t01, t02, t03⟩, ⟨t10, t11, t12, t13⟩, ⟨t20, t21, t22, t23⟩, _⟩ := K1.facts; obtain ⟨f0, f1, f2, f3⟩ := K1.free (i := 0) rfl)
      | (go_at_call_of 21 (Value.agg #[Value.bool s1, Value.slice A1 n1 c1, Value.bool s2, Value.slice A2 n2 c2]); have j1 := K1.ints.2.2.2.1.i; have j2 := K1.ints.2.2.1.i; (with_reducible refine (fsign_at j1 j2).mono ?_); rw [HSG1.out]; rintro e2 gaw ⟨rfl, ga⟩; have KQ := K1.call ga; clear j1 j2; clear t00 t01 t02 t03 t10 t11 t12 t13 t20 t21 t22 t23 f0 f1 f2 f3; obtain ⟨⟨t00, t01, t02, t03⟩, ⟨t10, t11, t12, t13⟩, ⟨t20, t21, t22, t23⟩, _⟩ := KQ.facts; obtain ⟨f0, f1, f2, f3⟩ := KQ.free (i := 0) rfl)
      | fail)
    clear KC K1 g1 ga
    have Kd := KQ.drew
    clear KQ t00 t01 t02 t03 t10 t11 t12 t13 t20 t21 t22 t23 f0 f1 f2 f3
    obtain ⟨⟨t00, t01, t02, t03⟩, ⟨t10, t11, t12, t13⟩, ⟨t20, t21, t22, t23⟩, _⟩ := Kd.facts
    obtain ⟨f0, f1, f2, f3⟩ := Kd.free (i := 0) rfl
    obtain ⟨n0a, n0b⟩ := Kd.ne 0 1 rfl rfl (by decide)
    obtain ⟨n1a, n1b⟩ := Kd.ne 0 2 rfl rfl (by decide)
    have j1 := Kd.ints.2.2.2.1.i
    have j2 := Kd.ints.2.2.1.i
    have HNA : Hid (un a b = u1 ∧ ud a b = u2) := ⟨HU1.out, HU2.out⟩
    have HNB : Hid (un c d = u3 ∧ ud c d = u4) := ⟨HU3.out, HU4.out⟩
    go_region_held3 (fun w' => w'.cell? ⟨w.heap.size + 1, 0, none⟩ = some (.bool s3) ∧ w'.cell? ⟨w.heap.size + 1, 1, none⟩ = some (.slice A3 n3 c3) ∧ w'.cell? ⟨w.heap.size + 1, 2, none⟩ = some (.bool s4) ∧ w'.cell? ⟨w.heap.size + 1, 3, none⟩ = some (.slice A4 n4 c4) ∧ w'.cell? ⟨w.heap.size, 0, none⟩ = some (.bool s1) ∧ w'.cell? ⟨w.heap.size, 1, none⟩ = some (.slice A1 n1 c1) ∧ w'.cell? ⟨w.heap.size, 2, none⟩ = some (.bool s2) ∧ w'.cell? ⟨w.heap.size, 3, none⟩ = some (.slice A2 n2 c2))
      (go_keep)
      (first
        | (go_at_call_of 24 (Value.agg #[Value.bool s1, Value.slice A1 n1 c1, Value.bool s2, Value.slice A2 n2 c2]); (with_reducible refine (upright_at j1 j2 ka kb).mono ?_); rw [HNA.out.1, HNA.out.2]; rintro ea wa ⟨b1, C1, l1, q1, b2, C2, l2, q2, rfl, d1, d2, ga⟩; have Ka := ((Kd.call ga).addI d2).addI d1; clear t00 t01 t02 t03 t10 t11 t12 t13 t20 t21 t22 t23 f0 f1 f2 f3; obtain ⟨⟨t00, t01, t02, t03⟩, ⟨t10, t11, t12, t13⟩, ⟨t20, t21, t22, t23⟩, _⟩ := Ka.facts; obtain ⟨f0, f1, f2, f3⟩ := Ka.free (i := 0) rfl; have j3 := Ka.ints.2.2.2.1.i; have j4 := Ka.ints.2.2.1.i)
        | (go_at_call_of 24 (Value.agg #[Value.bool s3, Value.slice A3 n3 c3, Value.bool s4, Value.slice A4 n4 c4]); (with_reducible refine (upright_at j3 j4 kc kd).mono ?_); rw [HNB.out.1, HNB.out.2]; rintro eb wb ⟨b3, C3, l3, q3, b4, C4, l4, q4, rfl, d3, d4, gb⟩; have Kb := ((Ka.call gb).addI d4).addI d3; clear t00 t01 t02 t03 t10 t11 t12 t13 t20 t21 t22 t23 f0 f1 f2 f3; obtain ⟨⟨t00, t01, t02, t03⟩, ⟨t10, t11, t12, t13⟩, ⟨t20, t21, t22, t23⟩, _⟩ := Kb.facts; obtain ⟨f0, f1, f2, f3⟩ := Kb.free (i := 0) rfl; have i1 := Kb.ints.2.2.1.i; have i2 := Kb.ints.2.2.2.1.i; have i3 := Kb.ints.1.i; have i4 := Kb.ints.2.1.i)
        | (go_at_call 23; (with_reducible refine (commonTerms_at i1 i2 i3 i4 hS hu4 hRR hlen).mono ?_); rw [HTS.out]; rintro ec wc ⟨TA, tc, TL_, rfl, hTL, hTm, hTz, gc⟩; have Kc := Kb.call gc; clear t00 t01 t02 t03 t10 t11 t12 t13 t20 t21 t22 t23 f0 f1 f2 f3; obtain ⟨⟨t00, t01, t02, t03⟩, ⟨t10, t11, t12, t13⟩, ⟨t20, t21, t22, t23⟩, _⟩ := Kc.facts; obtain ⟨f0, f1, f2, f3⟩ := Kc.free (i := 0) rfl; have hft := fromTerms_at (c := tc) hTL (by rw [hTm]; exact hnn) hTz hone hsz (by rw [hTm]; exact hh1) (by rw [hTm]; exact hh2) (by rw [← List.length_map (f := TE.z), hTm]; exact hlen2))
        | (go_at_call 22; (with_reducible refine hft.mono ?_); rw [hTm, HXY.out.1, HXY.out.2]; rintro ed wd ⟨C7, l7, q7, C8, l8, q8, rfl, d7, d8, gd⟩; have Ke := ((Kc.call gd).add d8).add d7; clear t00 t01 t02 t03 t10 t11 t12 t13 t20 t21 t22 t23 f0 f1 f2 f3; obtain ⟨⟨t00, t01, t02, t03⟩, ⟨t10, t11, t12, t13⟩, ⟨t20, t21, t22, t23⟩, _⟩ := Ke.facts; obtain ⟨f0, f1, f2, f3⟩ := Ke.free (i := 0) rfl)
        | fail)
    all_goals have KR := Ke.put4 0 rfl (decide (X < 0)) C7 l7 q7 (decide (Y < 0)) C8 l8 q8
    all_goals simp only [List.set] at KR
    all_goals obtain ⟨⟨r0, r1, r2, r3⟩, _⟩ := KR.facts
    all_goals go_wp2_with fail
    all_goals exact bodyPost_ret (v := .tuple #[.agg #[.bool (decide (X < 0)), .slice C7 l7 q7, .bool (decide (Y < 0)), .slice C8 l8 q8], .int .i64 0]) (by simp [results, Try.results7, go_sem, r0, r1, r2, r3]) rfl (RetFE.of_st KR)
  have g1_ : ¬ 0 < sg1 := by rw [hsg1.out]; unfold sgn cmpI; split <;> (try split) <;> omega
  by_cases hn : rn c d < 0
  · have hx := neg_lt CP1.out CP2.out hE hn
    have h4 := pos4_of CP2.out.neg CP1.out.neg (neg_le hE) (show 0 < -rn c d by omega)
    have g2_ : sg2 = -1 := by rw [hsg2.out]; exact sgn_n hn
    obtain ⟨R, HR⟩ : ∃ v : Nat, Hid (smK (rd c d) (rd a b) = v) := ⟨_, rfl⟩
    have hRR : rd c d + rd a b ≤ R := by rw [← HR.out]; unfold smK; omega
    have hcf := ct_facts h4 hRR zx2.neg zy2
    have hso := simpl_ok R _ _ _ _ h4 hRR
    have hle := hso.le_lo h4
    obtain ⟨P, HP⟩ : ∃ v, Hid ((simpl R (-rn c d) (rd c d) (-rn a b) (rd a b)).1 = v) := ⟨_, rfl⟩
    obtain ⟨Q, HQ⟩ : ∃ v, Hid ((simpl R (-rn c d) (rd c d) (-rn a b) (rd a b)).2 = v) := ⟨_, rfl⟩
    rw [HP.out, HQ.out] at hso hle
    have cpq : Cp P Q := ⟨hso.pq, hso.gcd⟩
    have zP : Sz P 90 := zx2.neg.le (by have := hso.pp; omega)
    have zQ : Sz Q 90 := zy2.le (by have := hso.pq; omega)
    have zP2 : Sz P 2000 := zP.mono (by decide)
    have zQ2 : Sz Q 2000 := zQ.mono (by decide)
    have kP := zP.ok
    have kQ := zQ.ok
    have r3_ := r_self cpq.pos cpq.one
    have hq : X = -rn P Q ∧ Y = rd P Q := by
      rw [← HXa.out, ← HYa.out, r3_.1, r3_.2, ← HP.out, ← HQ.out, ← HR.out]
      unfold smQ smP
      rw [if_neg hE, if_neg hp, if_pos hn]
      exact ⟨rfl, rfl⟩
    have HXY : Hid (-rn P Q = X ∧ rd P Q = Y) := ⟨hq.1.symm, hq.2.symm⟩
    have hS := (⟨zx2.neg.mono (by decide), zy2.mono (by decide), zx1.neg.mono (by decide), zy1.mono (by decide)⟩ : Sz (-rn c d) 100 ∧ Sz (rd c d) 100 ∧ Sz (-rn a b) 100 ∧ Sz (rd a b) 100)
    obtain ⟨u1, HU1⟩ : ∃ v, Hid (-rn c d = v) := ⟨_, rfl⟩
    obtain ⟨u2, HU2⟩ : ∃ v, Hid (rd c d = v) := ⟨_, rfl⟩
    obtain ⟨u3, HU3⟩ : ∃ v, Hid (-rn a b = v) := ⟨_, rfl⟩
    obtain ⟨u4, HU4⟩ : ∃ v, Hid (rd a b = v) := ⟨_, rfl⟩
    rw [HU1.out, HU2.out, HU3.out, HU4.out] at h4 hcf hS
    rw [HU2.out, HU4.out] at hRR
    have HPP : Hid ((simpl R u1 u2 u3 u4).1 = P ∧ (simpl R u1 u2 u3 u4).2 = Q) := by unfold Hid; rw [← HU1.out, ← HU2.out, ← HU3.out, ← HU4.out]; exact ⟨HP.out, HQ.out⟩
    have ku1 := hS.1.ok
    have ku2 := hS.2.1.ok
    have ku3 := hS.2.2.1.ok
    have ku4 := hS.2.2.2.ok
    obtain ⟨Ts, HTS⟩ : ∃ v, Hid (terms R u1 u2 u3 u4 = v) := ⟨_, rfl⟩
    have hlen := hcf.len
    obtain ⟨_, hnn, hval, hh1, hh2, hone, hsz⟩ := hcf
    rw [HTS.out] at hnn hval hh1 hh2
    have HXP : Hid ((cfrac Ts).1 = P ∧ (cfrac Ts).2 = Q) := by unfold Hid; rw [hval]; exact HPP.out
    have hlen2 : Ts.length ≤ 10000 := by rw [← HTS.out]; exact hlen
    subst g2_
    clear hq r3_ hso hle cpq hn hp hE hx hval
    go_enter Try.func7, Try.ntmps7
    go_upto_region 1 with fail
    have KC := HH.out
    clear HH
    obtain ⟨⟨t00, t01, t02, t03⟩, ⟨t10, t11, t12, t13⟩, ⟨t20, t21, t22, t23⟩, _⟩ := KC.facts
    obtain ⟨f0, f1, f2, f3⟩ := KC.free (i := 0) rfl
    go_upto_region 6 with (first
      | (go_at_call 10; have j1 := KC.ints.2.2.2.1.i; have j2 := KC.ints.2.2.1.i; have j3 := KC.ints.2.1.i; have j4 := KC.ints.1.i; (with_reducible refine (fcompare_at j1 j2 j3 j4 za2 zb2 zc2 zd2).mono ?_); rw [HCV.out]; rintro e1 w1 ⟨rfl, g1⟩; have K1 := KC.call g1; clear j1 j2 j3 j4; clear t00 t01 t02 t03 t10 t11 t12 t13 t20 t21 t22 t23 f0 f1 f2 f3; obtain ⟨⟨t00, t01, t02, t03⟩, ⟨t10, t11, t12, t13⟩, ⟨t20, t21, t22, t23⟩, _⟩ := K1.facts; obtain ⟨f0, f1, f2, f3⟩ := K1.free (i := 0) rfl)
      | (go_at_call_of 21 (Value.agg #[Value.bool s1, Value.slice A1 n1 c1, Value.bool s2, Value.slice A2 n2 c2]); have j1 := K1.ints.2.2.2.1.i; have j2 := K1.ints.2.2.1.i; (with_reducible refine (fsign_at j1 j2).mono ?_); rw [HSG1.out]; rintro e2 gaw ⟨rfl, ga⟩; have K2 := K1.call ga; clear j1 j2; clear t00 t01 t02 t03 t10 t11 t12 t13 t20 t21 t22 t23 f0 f1 f2 f3; obtain ⟨⟨t00, t01, t02, t03⟩, ⟨t10, t11, t12, t13⟩, ⟨t20, t21, t22, t23⟩, _⟩ := K2.facts; obtain ⟨f0, f1, f2, f3⟩ := K2.free (i := 0) rfl)
      | (go_at_call_of 21 (Value.agg #[Value.bool s3, Value.slice A3 n3 c3, Value.bool s4, Value.slice A4 n4 c4]); have j1 := K2.ints.2.1.i; have j2 := K2.ints.1.i; (with_reducible refine (fsign_at j1 j2).mono ?_); rw [HSG2.out]; rintro e2 gbw ⟨rfl, gb⟩; have KQ := K2.call gb; clear j1 j2; clear t00 t01 t02 t03 t10 t11 t12 t13 t20 t21 t22 t23 f0 f1 f2 f3; obtain ⟨⟨t00, t01, t02, t03⟩, ⟨t10, t11, t12, t13⟩, ⟨t20, t21, t22, t23⟩, _⟩ := KQ.facts; obtain ⟨f0, f1, f2, f3⟩ := KQ.free (i := 0) rfl)
      | fail)
    clear KC K1 K2 g1 ga gb
    have Kd := KQ.drew
    clear KQ t00 t01 t02 t03 t10 t11 t12 t13 t20 t21 t22 t23 f0 f1 f2 f3
    obtain ⟨⟨t00, t01, t02, t03⟩, ⟨t10, t11, t12, t13⟩, ⟨t20, t21, t22, t23⟩, _⟩ := Kd.facts
    obtain ⟨f0, f1, f2, f3⟩ := Kd.free (i := 0) rfl
    obtain ⟨n0a, n0b⟩ := Kd.ne 0 1 rfl rfl (by decide)
    obtain ⟨n1a, n1b⟩ := Kd.ne 0 2 rfl rfl (by decide)
    have j1 := Kd.ints.2.1.i
    have j2 := Kd.ints.1.i
    have HNA : Hid (-rn c d = u1 ∧ rd c d = u2) := ⟨HU1.out, HU2.out⟩
    have HNB : Hid (-rn a b = u3 ∧ rd a b = u4) := ⟨HU3.out, HU4.out⟩
    go_region_held3 (fun w' => w'.cell? ⟨w.heap.size + 1, 0, none⟩ = some (.bool s3) ∧ w'.cell? ⟨w.heap.size + 1, 1, none⟩ = some (.slice A3 n3 c3) ∧ w'.cell? ⟨w.heap.size + 1, 2, none⟩ = some (.bool s4) ∧ w'.cell? ⟨w.heap.size + 1, 3, none⟩ = some (.slice A4 n4 c4) ∧ w'.cell? ⟨w.heap.size, 0, none⟩ = some (.bool s1) ∧ w'.cell? ⟨w.heap.size, 1, none⟩ = some (.slice A1 n1 c1) ∧ w'.cell? ⟨w.heap.size, 2, none⟩ = some (.bool s2) ∧ w'.cell? ⟨w.heap.size, 3, none⟩ = some (.slice A2 n2 c2))
      (go_keep)
      (first
        | (go_at_call_of 25 (Value.agg #[Value.bool s3, Value.slice A3 n3 c3, Value.bool s4, Value.slice A4 n4 c4]); (with_reducible refine (fneg_at j1 j2 zc2 zd2).mono ?_); rw [HNA.out.1, HNA.out.2]; rintro ea wa ⟨C1, l1, q1, C2, l2, q2, rfl, d1, d2, ga⟩; have Ka := ((Kd.call ga).add d2).add d1; clear t00 t01 t02 t03 t10 t11 t12 t13 t20 t21 t22 t23 f0 f1 f2 f3; obtain ⟨⟨t00, t01, t02, t03⟩, ⟨t10, t11, t12, t13⟩, ⟨t20, t21, t22, t23⟩, _⟩ := Ka.facts; obtain ⟨f0, f1, f2, f3⟩ := Ka.free (i := 0) rfl; have j3 := Ka.ints.2.2.2.2.2.1.i; have j4 := Ka.ints.2.2.2.2.1.i)
        | (go_at_call_of 25 (Value.agg #[Value.bool s1, Value.slice A1 n1 c1, Value.bool s2, Value.slice A2 n2 c2]); (with_reducible refine (fneg_at j3 j4 za2 zb2).mono ?_); rw [HNB.out.1, HNB.out.2]; rintro eb wb ⟨C3, l3, q3, C4, l4, q4, rfl, d3, d4, gb⟩; have Kb := ((Ka.call gb).add d4).add d3; clear t00 t01 t02 t03 t10 t11 t12 t13 t20 t21 t22 t23 f0 f1 f2 f3; obtain ⟨⟨t00, t01, t02, t03⟩, ⟨t10, t11, t12, t13⟩, ⟨t20, t21, t22, t23⟩, _⟩ := Kb.facts; obtain ⟨f0, f1, f2, f3⟩ := Kb.free (i := 0) rfl; have i1 := Kb.ints.2.2.1.ci ku1; have i2 := Kb.ints.2.2.2.1.ci ku2; have i3 := Kb.ints.1.ci ku3; have i4 := Kb.ints.2.1.ci ku4)
        | (go_at_call 23; (with_reducible refine (commonTerms_at i1 i2 i3 i4 hS h4 hRR hlen).mono ?_); rw [HTS.out]; rintro ec wc ⟨TA, tc, TL_, rfl, hTL, hTm, hTz, gc⟩; have Kc := Kb.call gc; clear t00 t01 t02 t03 t10 t11 t12 t13 t20 t21 t22 t23 f0 f1 f2 f3; obtain ⟨⟨t00, t01, t02, t03⟩, ⟨t10, t11, t12, t13⟩, ⟨t20, t21, t22, t23⟩, _⟩ := Kc.facts; obtain ⟨f0, f1, f2, f3⟩ := Kc.free (i := 0) rfl; have hft := fromTerms_at (c := tc) hTL (by rw [hTm]; exact hnn) hTz hone hsz (by rw [hTm]; exact hh1) (by rw [hTm]; exact hh2) (by rw [← List.length_map (f := TE.z), hTm]; exact hlen2))
        | (go_at_call 22; (with_reducible refine hft.mono ?_); rw [hTm, HXP.out.1, HXP.out.2]; rintro ed wd ⟨C5, l5, q5, C6, l6, q6, rfl, d5, d6, gd⟩; have Ke := ((Kc.call gd).add d6).add d5; clear t00 t01 t02 t03 t10 t11 t12 t13 t20 t21 t22 t23 f0 f1 f2 f3; obtain ⟨⟨t00, t01, t02, t03⟩, ⟨t10, t11, t12, t13⟩, ⟨t20, t21, t22, t23⟩, _⟩ := Ke.facts; obtain ⟨f0, f1, f2, f3⟩ := Ke.free (i := 0) rfl; have iP := Ke.ints.1.ci kP; have iQ := Ke.ints.2.1.ci kQ)
        | (go_at_call 25; (with_reducible refine (fneg_at iP iQ zP2 zQ2).mono ?_); rw [HXY.out.1, HXY.out.2]; rintro ef wf ⟨C7, l7, q7, C8, l8, q8, rfl, d7, d8, gf⟩; have Kf := ((Ke.call gf).add d8).add d7; clear t00 t01 t02 t03 t10 t11 t12 t13 t20 t21 t22 t23 f0 f1 f2 f3; obtain ⟨⟨t00, t01, t02, t03⟩, ⟨t10, t11, t12, t13⟩, ⟨t20, t21, t22, t23⟩, _⟩ := Kf.facts; obtain ⟨f0, f1, f2, f3⟩ := Kf.free (i := 0) rfl)
        | fail)
    all_goals have KR := Kf.put4 0 rfl (decide (X < 0)) C7 l7 q7 (decide (Y < 0)) C8 l8 q8
    all_goals simp only [List.set] at KR
    all_goals obtain ⟨⟨r0, r1, r2, r3⟩, _⟩ := KR.facts
    all_goals go_wp2_with fail
    all_goals exact bodyPost_ret (v := .tuple #[.agg #[.bool (decide (X < 0)), .slice C7 l7 q7, .bool (decide (Y < 0)), .slice C8 l8 q8], .int .i64 0]) (by simp [results, Try.results7, go_sem, r0, r1, r2, r3]) rfl (RetFE.of_st KR)
  have g2_ : ¬ sg2 < 0 := by rw [hsg2.out]; unfold sgn cmpI; split <;> (try split) <;> omega
  obtain ⟨u, HU⟩ : ∃ v, Hid (rn 0 0 = v) := ⟨_, rfl⟩
  obtain ⟨v, HV⟩ : ∃ v, Hid (rd 0 0 = v) := ⟨_, rfl⟩
  have hq : (smQ (rn a b) (rd a b) (rn c d) (rd c d)).1 = u ∧ (smQ (rn a b) (rd a b) (rn c d) (rd c d)).2 = v := by
    unfold smQ
    rw [if_neg hE, if_neg hp, if_neg hn, ← HU.out, ← HV.out, (r_zero 0).1, (r_zero 0).2]
    exact ⟨rfl, rfl⟩
  rw [HXa.out, HYa.out] at hq
  obtain ⟨rfl, rfl⟩ := hq
  clear hn hp hE
  go_enter Try.func7, Try.ntmps7
  go_upto_region 1 with fail
  have KC := HH.out
  clear HH
  obtain ⟨⟨t00, t01, t02, t03⟩, ⟨t10, t11, t12, t13⟩, ⟨t20, t21, t22, t23⟩, _⟩ := KC.facts
  obtain ⟨f0, f1, f2, f3⟩ := KC.free (i := 0) rfl
  go_wp2_with (first
    | (go_at_call 10; have j1 := KC.ints.2.2.2.1.i; have j2 := KC.ints.2.2.1.i; have j3 := KC.ints.2.1.i; have j4 := KC.ints.1.i; (with_reducible refine (fcompare_at j1 j2 j3 j4 za2 zb2 zc2 zd2).mono ?_); rw [HCV.out]; rintro e1 w1 ⟨rfl, g1⟩; have K1 := KC.call g1; clear j1 j2 j3 j4; clear t00 t01 t02 t03 t10 t11 t12 t13 t20 t21 t22 t23 f0 f1 f2 f3; obtain ⟨⟨t00, t01, t02, t03⟩, ⟨t10, t11, t12, t13⟩, ⟨t20, t21, t22, t23⟩, _⟩ := K1.facts; obtain ⟨f0, f1, f2, f3⟩ := K1.free (i := 0) rfl)
    | (go_at_call_of 21 (Value.agg #[Value.bool s1, Value.slice A1 n1 c1, Value.bool s2, Value.slice A2 n2 c2]); have j1 := K1.ints.2.2.2.1.i; have j2 := K1.ints.2.2.1.i; (with_reducible refine (fsign_at j1 j2).mono ?_); rw [HSG1.out]; rintro e2 gaw ⟨rfl, ga⟩; have K2 := K1.call ga; clear j1 j2; clear t00 t01 t02 t03 t10 t11 t12 t13 t20 t21 t22 t23 f0 f1 f2 f3; obtain ⟨⟨t00, t01, t02, t03⟩, ⟨t10, t11, t12, t13⟩, ⟨t20, t21, t22, t23⟩, _⟩ := K2.facts; obtain ⟨f0, f1, f2, f3⟩ := K2.free (i := 0) rfl)
    | (go_at_call_of 21 (Value.agg #[Value.bool s3, Value.slice A3 n3 c3, Value.bool s4, Value.slice A4 n4 c4]); have j1 := K2.ints.2.1.i; have j2 := K2.ints.1.i; (with_reducible refine (fsign_at j1 j2).mono ?_); rw [HSG2.out]; rintro e2 gbw ⟨rfl, gb⟩; have K3 := K2.call gb; clear j1 j2; clear t00 t01 t02 t03 t10 t11 t12 t13 t20 t21 t22 t23 f0 f1 f2 f3; obtain ⟨⟨t00, t01, t02, t03⟩, ⟨t10, t11, t12, t13⟩, ⟨t20, t21, t22, t23⟩, _⟩ := K3.facts; obtain ⟨f0, f1, f2, f3⟩ := K3.free (i := 0) rfl)
    | (go_at_call 26; (with_reducible refine (canonFrac_at (IntAt.nul _) (IntAt.nul _) (Sz.zero _) (Sz.zero _)).mono ?_); rw [HU.out, HV.out]; rintro e9 w9 ⟨D1, l1, e1, D2, l2, e2, rfl, v1, v2, g9⟩; have KE := ((K3.call g9).add v2).add v1; clear t00 t01 t02 t03 t10 t11 t12 t13 t20 t21 t22 t23 f0 f1 f2 f3; obtain ⟨⟨t00, t01, t02, t03⟩, ⟨t10, t11, t12, t13⟩, ⟨t20, t21, t22, t23⟩, _⟩ := KE.facts; obtain ⟨f0, f1, f2, f3⟩ := KE.free (i := 0) rfl)
    | fail)
  have KR := KE.put4 0 rfl (decide (X < 0)) D1 l1 e1 (decide (Y < 0)) D2 l2 e2
  simp only [List.set] at KR
  obtain ⟨⟨r0, r1, r2, r3⟩, _⟩ := KR.facts
  exact bodyPost_ret (v := .tuple #[.agg #[.bool (decide (X < 0)), .slice D1 l1 e1, .bool (decide (Y < 0)), .slice D2 l2 e2], .int .i64 0]) (by simp [results, Try.results7, go_sem, r0, r1, r2, r3]) rfl (RetFE.of_st KR)
end Go.Proofs.Ytgjkgmlcfieodaa

