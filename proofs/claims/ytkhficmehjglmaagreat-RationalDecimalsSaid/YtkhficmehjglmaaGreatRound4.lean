/-
  Rounding to the nearest integer by the reference.
-/
import Derived.Test.YtkhficmehjglmaaGreatRndA
set_option linter.unusedVariables false
set_option linter.unusedSimpArgs false
namespace Go.Proofs.YtkhficmehjglmaaGreat
open Go.RowKit

set_option maxHeartbeats 8000000 in
set_option maxRecDepth 100000 in
theorem rround_at {w : World} {s1 s2 : Bool} {A1 A2 : Option Addr} {n1 c1 n2 c2 : Nat} {a b : Int} (h1 : IntAt w s1 A1 n1 c1 a) (h2 : IntAt w s2 A2 n2 c2 b) (za : Sz a 200) (zb : Sz b 200) :
    Calls Tryz.prog 49 #[.agg #[.bool s1, .slice A1 n1 c1, .bool s2, .slice A2 n2 c2]] w (RetZ w (rdV a b)) := by
  have H0 := ((((St.start w).addI h1).addI h2).new 26 (Plains.four s1 A1 n1 c1 s2 A2 n2 c2)).new 24 (Plains.two false none 0 0)
  simp only [World.size_alloc] at H0
  have HH := Lib.hid H0
  clear H0 h1 h2
  obtain ⟨q, HQ⟩ : ∃ v, Hid (dmQ a b = v) := ⟨_, rfl⟩
  obtain ⟨z, HZ⟩ : ∃ v, Hid (rdV a b = v) := ⟨_, rfl⟩
  obtain ⟨v, HV⟩ : ∃ v, Hid (refV a b = v) := ⟨_, rfl⟩
  obtain ⟨ob, HOB⟩ : ∃ v, Hid (oddB q = v) := ⟨_, rfl⟩
  have hcs := r_cases a b
  rw [HQ.out, HV.out, HOB.out] at hcs
  have HCS := Lib.hid hcs
  clear hcs
  obtain ⟨dn, HDN⟩ : ∃ v, Hid (aN a b (-q) 1 = v) := ⟨_, rfl⟩
  obtain ⟨dd, HDD⟩ : ∃ v, Hid (aD a b (-q) 1 = v) := ⟨_, rfl⟩
  obtain ⟨mn, HMN⟩ : ∃ v, Hid (rn (dn * 2) (dd * 1) = v) := ⟨_, rfl⟩
  obtain ⟨md, HMD⟩ : ∃ v, Hid (rd (dn * 2) (dd * 1) = v) := ⟨_, rfl⟩
  have HV2 : Hid (cmpI (rn mn md * rd 1 1) (rn 1 1 * rd mn md) = v) := by
    unfold Hid
    rw [← HV.out, ← HMN.out, ← HMD.out, ← HDN.out, ← HDD.out, ← HQ.out]; rfl
  have zq : Sz q 200 := by rw [← HQ.out, dm_u]; exact za.le (Nat.le_trans (Int.natAbs_ediv_le_natAbs _ _) (un_abs a b))
  have z1 : Sz 1 2 := sz_i64 (by decide) (by decide)
  have z2 : Sz 2 2 := sz_i64 (by decide) (by decide)
  have zdd : Sz dn 405 ∧ Sz dd 405 := by
    have h1 : Sz (rn a b * rd (-q) 1) 203 := ((sz_rn za).mul (sz_rd z1 (by decide))).mono (by decide)
    have h2 : Sz (rn (-q) 1 * rd a b) 401 := (sz_rn zq.neg).mul (sz_rd zb (by decide))
    have h3 : Sz (rd a b * rd (-q) 1) 204 := (sz_rd zb (by decide)).mul (sz_rd z1 (by decide))
    rw [← HDN.out, ← HDD.out]
    exact ⟨(sz_rn ((h1.mono (by decide)).add h2)).mono (by decide), (sz_rd h3 (by decide)).mono (by decide)⟩
  have zmm : Sz mn 410 ∧ Sz md 410 := by
    rw [← HMN.out, ← HMD.out]
    exact ⟨(sz_rn (zdd.1.mul z2)).mono (by decide), (sz_rd (zdd.2.mul z1) (by decide)).mono (by decide)⟩
  have za9 : Sz a 900 := za.mono (by decide)
  have zb9 : Sz b 900 := zb.mono (by decide)
  have za19 : Sz a 1900 := za.mono (by decide)
  have zb19 : Sz b 1900 := zb.mono (by decide)
  have zq9 : Sz q 900 := zq.mono (by decide)
  have zq19 : Sz q 1900 := zq.mono (by decide)
  have z19 : Sz 1 900 := z1.mono (by decide)
  have z29 : Sz 2 900 := z2.mono (by decide)
  have zdn9 : Sz dn 900 := zdd.1.mono (by decide)
  have zdd9 : Sz dd 900 := zdd.2.mono (by decide)
  have zmn9 : Sz mn 900 := zmm.1.mono (by decide)
  have zmd9 : Sz md 900 := zmm.2.mono (by decide)
  have kq := zq.ok
  have kk1 := z1.ok
  have kk2 := z2.ok
  have kdn := zdn9.ok
  have kdd := zdd9.ok
  have kmn := zmn9.ok
  have kmd := zmd9.ok
  rw [HZ.out]
  go_enter Tryz.func49, Tryz.ntmps49
  go_upto_region 2 with (first
    | (go_at_call 84; have K := HH.out; clear HH; have i1 := K.ints.2.1.i; have i2 := K.ints.1.i; (with_reducible refine (rfloor_at i1 i2 za19 zb19).mono ?_); rw [HQ.out]; rintro e w1 ⟨B1, m1, k1, rfl, d1, u1, v1, g1⟩; have K1 := ((K.call g1).add (CanAt.mk_ d1 u1 v1)).new 24 (Plains.two (decide (q < 0)) B1 m1 k1))
    | fail)
  (try simp only [World.size_alloc] at K1)
  clear K i1 i2 d1 g1
  generalize w1.alloc (.cells #[.bool (decide (q < 0)), .slice B1 m1 k1] 24) = W1 at K1 ⊢
  generalize w1.heap.size = h3 at K1 ⊢
  have Kd := K1.drew
  clear K1
  obtain ⟨⟨q0, q1⟩, _, ⟨p0, p1, p2, p3⟩, _⟩ := Kd.facts
  have iq := Kd.ints.1.ci kq
  have hqm : m1 ≤ 100000 := by rw [← Kd.ints.1.c.2.1.len]; exact zq.len2
  have i1 := Kd.ints.2.2.1.i
  have i2 := Kd.ints.2.1.i
  have jq := Kd.ints.1.c
  have KL := Kd
  clear Kd
  go_region_held3 (fun w' => w'.cell? ⟨h3, 0, none⟩ = some (.bool (decide (q < 0))) ∧ w'.cell? ⟨h3, 1, none⟩ = some (.slice B1 m1 k1) ∧ w'.cell? ⟨w.heap.size, 0, none⟩ = some (.bool s1) ∧ w'.cell? ⟨w.heap.size, 1, none⟩ = some (.slice A1 n1 c1) ∧ w'.cell? ⟨w.heap.size, 2, none⟩ = some (.bool s2) ∧ w'.cell? ⟨w.heap.size, 3, none⟩ = some (.slice A2 n2 c2))
    (go_keep)
    (first
      | (go_at_call 33; (with_reducible refine (rfromInt_at iq zq19).mono ?_); rw [(r_int q).1, (r_int q).2]; rintro e wa ⟨C1, l1, t1, C2, l2, t2, rfl, e1, e2, ga⟩; have KM := KL.call ga; clear KL; have KL := KM; clear KM; clear q0 q1 p0 p1 p2 p3; obtain ⟨⟨q0, q1⟩, _, ⟨p0, p1, p2, p3⟩, _⟩ := KL.facts; replace i1 := i1.call ga; replace i2 := i2.call ga; replace jq := jq.call ga; have j1 := e1.at_ kq; have j2 := CanAt.at_ (show CanAt wa false C2 l2 t2 1 from e2) kk1)
      | (go_at_call 86; (with_reducible refine (rsubF_at i1 i2 j1 j2 za9 zb9 zq9 z19).mono ?_); rw [HDN.out, HDD.out]; rintro e wb ⟨C3, l3, t3, C4, l4, t4, rfl, e3, e4, gb⟩; have KM := KL.call gb; clear KL; have KL := KM; clear KM; clear q0 q1 p0 p1 p2 p3; obtain ⟨⟨q0, q1⟩, _, ⟨p0, p1, p2, p3⟩, _⟩ := KL.facts; replace i1 := i1.call gb; replace i2 := i2.call gb; replace jq := jq.call gb; have j3 := e3.at_ kdn; have j4 := e4.at_ kdd; have m3 : l3 ≤ 100000 := (by rw [← e3.2.1.len]; exact zdn9.len2); have m4 : l4 ≤ 100000 := (by rw [← e4.2.1.len]; exact zdd9.len2))
      | (go_at_call_of 87 (Value.int IntKind.i64 2); (with_reducible refine (whole_any 2 (by decide) (by decide) _).mono ?_); rw [(r_int 2).1, (r_int 2).2]; rintro e wc ⟨C5, l5, t5, C6, l6, t6, rfl, e5, e6, gc⟩; have KM := KL.call gc; clear KL; have KL := KM; clear KM; clear q0 q1 p0 p1 p2 p3; obtain ⟨⟨q0, q1⟩, _, ⟨p0, p1, p2, p3⟩, _⟩ := KL.facts; replace i1 := i1.call gc; replace i2 := i2.call gc; replace jq := jq.call gc; replace j3 := j3.call gc; replace j4 := j4.call gc; have e5 := (show CanAt wc false C5 l5 t5 2 from e5); have e6 := (show CanAt wc false C6 l6 t6 1 from e6); have j5 := e5.at_ kk2; have j6 := e6.at_ kk1; have m5 : l5 ≤ 100000 := (by rw [← e5.2.1.len]; exact z29.len2); have m6 : l6 ≤ 100000 := (by rw [← e6.2.1.len]; exact z19.len2))
      | (go_at_call 50; (with_reducible refine (rmulF_at j3 j4 j5 j6 zdn9 zdd9 z29 z19 m3 m4 m5 m6).mono ?_); rw [HMN.out, HMD.out]; rintro e wd ⟨C7, l7, t7, C8, l8, t8, rfl, e7, e8, gd⟩; have KM := KL.call gd; clear KL; have KL := KM; clear KM; clear q0 q1 p0 p1 p2 p3; obtain ⟨⟨q0, q1⟩, _, ⟨p0, p1, p2, p3⟩, _⟩ := KL.facts; replace i1 := i1.call gd; replace i2 := i2.call gd; replace jq := jq.call gd; have j7 := e7.at_ kmn; have j8 := e8.at_ kmd)
      | (go_at_call 87; (with_reducible refine (whole_any 1 (by decide) (by decide) _).mono ?_); rw [(r_int 1).1, (r_int 1).2]; rintro e wf ⟨D1, l9, t9, D2, la, ta, rfl, e9, ea, ge⟩; have KM := KL.call ge; clear KL; have KL := KM; clear KM; clear q0 q1 p0 p1 p2 p3; obtain ⟨⟨q0, q1⟩, _, ⟨p0, p1, p2, p3⟩, _⟩ := KL.facts; replace i1 := i1.call ge; replace i2 := i2.call ge; replace jq := jq.call ge; replace j7 := j7.call ge; replace j8 := j8.call ge; have j9 := CanAt.at_ (show CanAt wf false D1 l9 t9 1 from e9) kk1; have ja := CanAt.at_ (show CanAt wf false D2 la ta 1 from ea) kk1)
      | (go_at_call 85; (with_reducible refine (rcompareF_at j7 j8 j9 ja zmn9 zmd9 z19 z19).mono ?_); rw [HV2.out]; rintro e wg ⟨rfl, gf⟩; have KM := KL.call gf; clear KL; have KL := KM; clear KM; clear q0 q1 p0 p1 p2 p3; obtain ⟨⟨q0, q1⟩, _, ⟨p0, p1, p2, p3⟩, _⟩ := KL.facts; replace i1 := i1.call gf; replace i2 := i2.call gf; replace jq := jq.call gf)
      | fail)
  have Ke := KL
  clear KL i1 i2 iq
  rcases HCS.out with ⟨rfl, hrd⟩ | ⟨rfl, rfl, hrd⟩ | ⟨rfl, rfl, hrd⟩ | ⟨rfl, hrd⟩
  · have HRD : Hid (rdV a b = dmQ a b + 1) := by unfold Hid; rw [hrd, HQ.out]
    clear hrd
    by_cases hn : 0 < m1
    · obtain ⟨bb, off, rfl, hbb, hcell⟩ := can_digit jq hn
      have hodd := odd_pos jq hn
      rw [HOB.out] at hodd
      obtain ⟨x0, HX0⟩ : ∃ v, Hid ((digs q.natAbs).getD 0 0 = v) := ⟨_, rfl⟩
      rw [HX0.out] at hcell hodd
      have hbit := hodd.symm
      have i1 : (0 : Int) < (m1 : Int) := by omega
      clear hodd
      have HS : Hid (q + 1 = z) := by unfold Hid; rw [← HZ.out, HRD.out, HQ.out]
      go_upto_region 5 with fail
      have Kd := Ke.drew
      clear Ke q0 q1 p0 p1 p2 p3
      obtain ⟨⟨o0, o1⟩, _⟩ := Kd.facts
      obtain ⟨y1, y2⟩ := Kd.ne 0 1 rfl rfl (by decide)
      go_region_held3 (fun w' => w'.cell? ⟨h3, 0, none⟩ = some (.bool (decide (q < 0))) ∧ w'.cell? ⟨h3, 1, none⟩ = some (.slice (some ⟨bb, off, none⟩) m1 k1))
        (go_keep)
        (first
          | (go_at_call 35; (with_reducible refine (rone_any _).mono ?_); rintro e wf ⟨D1, o1', t1, rfl, d1, u1, v1, g1⟩; have Ka := (Kd.call g1).add (show CanAt wf false D1 o1' t1 1 from CanAt.mk_ d1 u1 v1); clear o0 o1; obtain ⟨⟨o0, o1⟩, _⟩ := Ka.facts; have jq2 := Ka.ints.2.1.ci kq; have j1 := Ka.ints.1.ci kk1; have l1 : o1' ≤ 100000 := (by rw [← d1.len]; exact z1.len2))
          | (go_at_call 76; (with_reducible refine (radd_at jq2 j1 hqm l1).mono ?_); rw [HS.out]; rintro e wg ⟨D2, o2, t2, rfl, d2, u2, v2, g2⟩; have Kb := (Ka.call g2).add (CanAt.mk_ d2 u2 v2); clear o0 o1; obtain ⟨⟨o0, o1⟩, ⟨f4, f5⟩, _⟩ := Kb.facts; obtain ⟨f0, f1⟩ := Kb.free (i := 1) rfl)
          | fail)
      have K4 := Kb.put 1 rfl (decide (z < 0)) D2 o2 t2
      simp only [List.set] at K4
      obtain ⟨_, ⟨r0, r1⟩, _⟩ := K4.facts
      go_wp2_with fail
      exact bodyPost_ret (v := .agg #[.bool (decide (z < 0)), .slice D2 o2 t2]) (by simp [results, Tryz.results49, go_sem, r0, r1]) rfl (RetZ.of_st K4)
    · have hodd := odd_zero jq (by omega)
      rw [HOB.out] at hodd
      have i1 : ¬ (0 : Int) < (m1 : Int) := by omega
      have i2 : decide (0 < m1) = false := by simpa using hn
      have HS : Hid (q + 1 = z) := by unfold Hid; rw [← HZ.out, HRD.out, HQ.out]
      go_upto_region 5 with fail
      have Kd := Ke.drew
      clear Ke q0 q1 p0 p1 p2 p3
      obtain ⟨⟨o0, o1⟩, _⟩ := Kd.facts
      obtain ⟨y1, y2⟩ := Kd.ne 0 1 rfl rfl (by decide)
      go_region_held3 (fun w' => w'.cell? ⟨h3, 0, none⟩ = some (.bool (decide (q < 0))) ∧ w'.cell? ⟨h3, 1, none⟩ = some (.slice B1 m1 k1))
        (go_keep)
        (first
          | (go_at_call 35; (with_reducible refine (rone_any _).mono ?_); rintro e wf ⟨D1, o1', t1, rfl, d1, u1, v1, g1⟩; have Ka := (Kd.call g1).add (show CanAt wf false D1 o1' t1 1 from CanAt.mk_ d1 u1 v1); clear o0 o1; obtain ⟨⟨o0, o1⟩, _⟩ := Ka.facts; have jq2 := Ka.ints.2.1.ci kq; have j1 := Ka.ints.1.ci kk1; have l1 : o1' ≤ 100000 := (by rw [← d1.len]; exact z1.len2))
          | (go_at_call 76; (with_reducible refine (radd_at jq2 j1 hqm l1).mono ?_); rw [HS.out]; rintro e wg ⟨D2, o2, t2, rfl, d2, u2, v2, g2⟩; have Kb := (Ka.call g2).add (CanAt.mk_ d2 u2 v2); clear o0 o1; obtain ⟨⟨o0, o1⟩, ⟨f4, f5⟩, _⟩ := Kb.facts; obtain ⟨f0, f1⟩ := Kb.free (i := 1) rfl)
          | fail)
      have K4 := Kb.put 1 rfl (decide (z < 0)) D2 o2 t2
      simp only [List.set] at K4
      obtain ⟨_, ⟨r0, r1⟩, _⟩ := K4.facts
      go_wp2_with fail
      exact bodyPost_ret (v := .agg #[.bool (decide (z < 0)), .slice D2 o2 t2]) (by simp [results, Tryz.results49, go_sem, r0, r1]) rfl (RetZ.of_st K4)
  · have HRD : Hid (rdV a b = dmQ a b + 1) := by unfold Hid; rw [hrd, HQ.out]
    clear hrd
    by_cases hn : 0 < m1
    · obtain ⟨bb, off, rfl, hbb, hcell⟩ := can_digit jq hn
      have hodd := odd_pos jq hn
      rw [HOB.out] at hodd
      obtain ⟨x0, HX0⟩ : ∃ v, Hid ((digs q.natAbs).getD 0 0 = v) := ⟨_, rfl⟩
      rw [HX0.out] at hcell hodd
      have hbit := hodd.symm
      have i1 : (0 : Int) < (m1 : Int) := by omega
      clear hodd
      have HS : Hid (q + 1 = z) := by unfold Hid; rw [← HZ.out, HRD.out, HQ.out]
      go_upto_region 5 with fail
      have Kd := Ke.drew
      clear Ke q0 q1 p0 p1 p2 p3
      obtain ⟨⟨o0, o1⟩, _⟩ := Kd.facts
      obtain ⟨y1, y2⟩ := Kd.ne 0 1 rfl rfl (by decide)
      go_region_held3 (fun w' => w'.cell? ⟨h3, 0, none⟩ = some (.bool (decide (q < 0))) ∧ w'.cell? ⟨h3, 1, none⟩ = some (.slice (some ⟨bb, off, none⟩) m1 k1))
        (go_keep)
        (first
          | (go_at_call 35; (with_reducible refine (rone_any _).mono ?_); rintro e wf ⟨D1, o1', t1, rfl, d1, u1, v1, g1⟩; have Ka := (Kd.call g1).add (show CanAt wf false D1 o1' t1 1 from CanAt.mk_ d1 u1 v1); clear o0 o1; obtain ⟨⟨o0, o1⟩, _⟩ := Ka.facts; have jq2 := Ka.ints.2.1.ci kq; have j1 := Ka.ints.1.ci kk1; have l1 : o1' ≤ 100000 := (by rw [← d1.len]; exact z1.len2))
          | (go_at_call 76; (with_reducible refine (radd_at jq2 j1 hqm l1).mono ?_); rw [HS.out]; rintro e wg ⟨D2, o2, t2, rfl, d2, u2, v2, g2⟩; have Kb := (Ka.call g2).add (CanAt.mk_ d2 u2 v2); clear o0 o1; obtain ⟨⟨o0, o1⟩, ⟨f4, f5⟩, _⟩ := Kb.facts; obtain ⟨f0, f1⟩ := Kb.free (i := 1) rfl)
          | fail)
      have K4 := Kb.put 1 rfl (decide (z < 0)) D2 o2 t2
      simp only [List.set] at K4
      obtain ⟨_, ⟨r0, r1⟩, _⟩ := K4.facts
      go_wp2_with fail
      exact bodyPost_ret (v := .agg #[.bool (decide (z < 0)), .slice D2 o2 t2]) (by simp [results, Tryz.results49, go_sem, r0, r1]) rfl (RetZ.of_st K4)
    · have hodd := odd_zero jq (by omega)
      rw [HOB.out] at hodd
      have i1 : ¬ (0 : Int) < (m1 : Int) := by omega
      have i2 : decide (0 < m1) = false := by simpa using hn
      cases hodd
  · have HRD : Hid (rdV a b = dmQ a b) := by unfold Hid; rw [hrd, HQ.out]
    clear hrd
    by_cases hn : 0 < m1
    · obtain ⟨bb, off, rfl, hbb, hcell⟩ := can_digit jq hn
      have hodd := odd_pos jq hn
      rw [HOB.out] at hodd
      obtain ⟨x0, HX0⟩ : ∃ v, Hid ((digs q.natAbs).getD 0 0 = v) := ⟨_, rfl⟩
      rw [HX0.out] at hcell hodd
      have hbit := hodd.symm
      have i1 : (0 : Int) < (m1 : Int) := by omega
      clear hodd
      obtain rfl : q = z := by rw [← HZ.out, HRD.out, HQ.out]
      go_upto_region 6 with fail
      obtain ⟨⟨o2, o3⟩, ⟨f4, f5⟩, _⟩ := Ke.facts
      obtain ⟨f0, f1⟩ := Ke.free (i := 1) rfl
      obtain ⟨y1, y2⟩ := Ke.ne 0 1 rfl rfl (by decide)
      have K4 := Ke.put 1 rfl (decide (q < 0)) (some ⟨bb, off, none⟩) m1 k1
      simp only [List.set] at K4
      obtain ⟨_, ⟨r0, r1⟩, _⟩ := K4.facts
      go_wp2_with fail
      exact bodyPost_ret (v := .agg #[.bool (decide (q < 0)), .slice (some ⟨bb, off, none⟩) m1 k1]) (by simp [results, Tryz.results49, go_sem, r0, r1]) rfl (RetZ.of_st (K4.ints_ K4.ints))
    · have hodd := odd_zero jq (by omega)
      rw [HOB.out] at hodd
      have i1 : ¬ (0 : Int) < (m1 : Int) := by omega
      have i2 : decide (0 < m1) = false := by simpa using hn
      obtain rfl : q = z := by rw [← HZ.out, HRD.out, HQ.out]
      go_upto_region 6 with fail
      obtain ⟨⟨o2, o3⟩, ⟨f4, f5⟩, _⟩ := Ke.facts
      obtain ⟨f0, f1⟩ := Ke.free (i := 1) rfl
      obtain ⟨y1, y2⟩ := Ke.ne 0 1 rfl rfl (by decide)
      have K4 := Ke.put 1 rfl (decide (q < 0)) B1 m1 k1
      simp only [List.set] at K4
      obtain ⟨_, ⟨r0, r1⟩, _⟩ := K4.facts
      go_wp2_with fail
      exact bodyPost_ret (v := .agg #[.bool (decide (q < 0)), .slice B1 m1 k1]) (by simp [results, Tryz.results49, go_sem, r0, r1]) rfl (RetZ.of_st (K4.ints_ K4.ints))
  · have HRD : Hid (rdV a b = dmQ a b) := by unfold Hid; rw [hrd, HQ.out]
    clear hrd
    by_cases hn : 0 < m1
    · obtain ⟨bb, off, rfl, hbb, hcell⟩ := can_digit jq hn
      have hodd := odd_pos jq hn
      rw [HOB.out] at hodd
      obtain ⟨x0, HX0⟩ : ∃ v, Hid ((digs q.natAbs).getD 0 0 = v) := ⟨_, rfl⟩
      rw [HX0.out] at hcell hodd
      have hbit := hodd.symm
      have i1 : (0 : Int) < (m1 : Int) := by omega
      clear hodd
      obtain rfl : q = z := by rw [← HZ.out, HRD.out, HQ.out]
      go_upto_region 6 with fail
      obtain ⟨⟨o2, o3⟩, ⟨f4, f5⟩, _⟩ := Ke.facts
      obtain ⟨f0, f1⟩ := Ke.free (i := 1) rfl
      obtain ⟨y1, y2⟩ := Ke.ne 0 1 rfl rfl (by decide)
      have K4 := Ke.put 1 rfl (decide (q < 0)) (some ⟨bb, off, none⟩) m1 k1
      simp only [List.set] at K4
      obtain ⟨_, ⟨r0, r1⟩, _⟩ := K4.facts
      go_wp2_with fail
      exact bodyPost_ret (v := .agg #[.bool (decide (q < 0)), .slice (some ⟨bb, off, none⟩) m1 k1]) (by simp [results, Tryz.results49, go_sem, r0, r1]) rfl (RetZ.of_st (K4.ints_ K4.ints))
    · have hodd := odd_zero jq (by omega)
      rw [HOB.out] at hodd
      have i1 : ¬ (0 : Int) < (m1 : Int) := by omega
      have i2 : decide (0 < m1) = false := by simpa using hn
      obtain rfl : q = z := by rw [← HZ.out, HRD.out, HQ.out]
      go_upto_region 6 with fail
      obtain ⟨⟨o2, o3⟩, ⟨f4, f5⟩, _⟩ := Ke.facts
      obtain ⟨f0, f1⟩ := Ke.free (i := 1) rfl
      obtain ⟨y1, y2⟩ := Ke.ne 0 1 rfl rfl (by decide)
      have K4 := Ke.put 1 rfl (decide (q < 0)) B1 m1 k1
      simp only [List.set] at K4
      obtain ⟨_, ⟨r0, r1⟩, _⟩ := K4.facts
      go_wp2_with fail
      exact bodyPost_ret (v := .agg #[.bool (decide (q < 0)), .slice B1 m1 k1]) (by simp [results, Tryz.results49, go_sem, r0, r1]) rfl (RetZ.of_st (K4.ints_ K4.ints))
end Go.Proofs.YtkhficmehjglmaaGreat

