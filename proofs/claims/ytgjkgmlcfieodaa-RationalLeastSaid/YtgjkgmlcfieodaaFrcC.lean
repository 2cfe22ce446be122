/-
  The program: arithmetic of fractions; its check.
-/
import Derived.Test.YtgjkgmlcfieodaaFrcB
import Derived.Test.YtgjkgmlcfieodaaFrM
set_option linter.unusedVariables false
set_option linter.unusedSimpArgs false
namespace Go.Proofs.Ytgjkgmlcfieodaa
section
open Go.RowKit

theorem sz_rn {z d : Int} {k : Nat} (h : Sz z k) : Sz (rn z d) k := h.le (rn_abs z d)
theorem sz_ud {z d : Int} {k : Nat} (h : Sz d k) (hk : 0 < k) : Sz (ud z d) (k + 1) := by
  have h3 := ud_abs z d
  have h4 : Sz ((d.natAbs : Int) + 1) (k + 1) := Sz.add (x := (d.natAbs : Int)) (by show (d.natAbs : Int).natAbs < _; rw [Int.natAbs_natCast]; exact h) (Sz.mono (k := 1) (by show (1 : Int).natAbs < BB ^ 1; rw [BB_eq]; decide) (by omega))
  exact h4.le (by omega)
theorem sz_rd {z d : Int} {k : Nat} (h : Sz d k) (hk : 0 < k) : Sz (rd z d) (k + 1) := (sz_ud h hk).le (rd_abs z d)
theorem sz_un {z d : Int} {k : Nat} (h : Sz z k) : Sz (un z d) k := h.le (un_abs z d)

set_option maxHeartbeats 8000000 in
set_option maxRecDepth 100000 in
theorem fadd_at {w : World} {s1 s2 s3 s4 : Bool} {A1 A2 A3 A4 : Option Addr} {n1 c1 n2 c2 n3 c3 n4 c4 : Nat} {a b c d : Int} (h1 : IntAt w s1 A1 n1 c1 a) (h2 : IntAt w s2 A2 n2 c2 b) (h3 : IntAt w s3 A3 n3 c3 c) (h4 : IntAt w s4 A4 n4 c4 d) (za : Sz a 900) (zb : Sz b 900) (zc : Sz c 900) (zd : Sz d 900) :
    Calls Try.prog 20 #[.agg #[.bool s1, .slice A1 n1 c1, .bool s2, .slice A2 n2 c2], .agg #[.bool s3, .slice A3 n3 c3, .bool s4, .slice A4 n4 c4]] w (RetFr w (aN a b c d) (aD a b c d)) := by
  have H0 := (((((((St.start w).addI h1).addI h2).addI h3).addI h4).new 26 (Plains.four s1 A1 n1 c1 s2 A2 n2 c2)).new 26 (Plains.four s3 A3 n3 c3 s4 A4 n4 c4)).new 26 (Plains.four false none 0 0 false none 0 0)
  (try simp only [World.size_alloc] at H0)
  have HH := Lib.hid H0
  clear H0 h1 h2 h3 h4
  have za2 : Sz a 2000 := za.mono (by decide)
  have zb2 : Sz b 2000 := zb.mono (by decide)
  have zc2 : Sz c 2000 := zc.mono (by decide)
  have zd2 : Sz d 2000 := zd.mono (by decide)
  obtain ⟨x, HX⟩ : ∃ v, Hid (aN a b c d = v) := ⟨_, rfl⟩
  obtain ⟨y, HY⟩ : ∃ v, Hid (aD a b c d = v) := ⟨_, rfl⟩
  obtain ⟨u1, HU1⟩ : ∃ v, Hid (rn a b = v) := ⟨_, rfl⟩
  obtain ⟨t1, HT1⟩ : ∃ v, Hid (rd a b = v) := ⟨_, rfl⟩
  obtain ⟨u2, HU2⟩ : ∃ v, Hid (rn c d = v) := ⟨_, rfl⟩
  obtain ⟨t2, HT2⟩ : ∃ v, Hid (rd c d = v) := ⟨_, rfl⟩
  have q1 : 0 < t1 := by rw [← HT1.out]; exact rd_pos ..
  have q2 : 0 < t2 := by rw [← HT2.out]; exact rd_pos ..
  have q3 : Int.gcd u1 t1 = 1 := by rw [← HU1.out, ← HT1.out]; exact rn_gcd ..
  have q4 : Int.gcd u2 t2 = 1 := by rw [← HU2.out, ← HT2.out]; exact rn_gcd ..
  have zu1 : Sz u1 4000 := by rw [← HU1.out]; exact (sz_rn za).mono (by decide)
  have zt1 : Sz t1 4000 := by rw [← HT1.out]; exact (sz_rd zb (by decide)).mono (by decide)
  have zu2 : Sz u2 4000 := by rw [← HU2.out]; exact (sz_rn zc).mono (by decide)
  have zt2 : Sz t2 4000 := by rw [← HT2.out]; exact (sz_rd zd (by decide)).mono (by decide)
  have HEX : Hid (rn (u1 * t2 + u2 * t1) (t1 * t2) = x) := by unfold Hid; rw [← HX.out, ← HU1.out, ← HU2.out, ← HT1.out, ← HT2.out]; rfl
  have HEY : Hid (rd (u1 * t2 + u2 * t1) (t1 * t2) = y) := by unfold Hid; rw [← HY.out, ← HU1.out, ← HU2.out, ← HT1.out, ← HT2.out]; rfl
  have HQ := Lib.hid (And.intro q1 (And.intro q2 (And.intro q3 q4)))
  clear q1 q2 q3 q4
  rw [HX.out, HY.out]
  go_enter Try.func20, Try.ntmps20
  go_upto_region 2 with (first
    | (go_at_call 43; have K := HH.out; clear HH; have i1 := K.ints.2.2.2.1.i; have i2 := K.ints.2.2.1.i; have i3 := K.ints.2.1.i; have i4 := K.ints.1.i; (with_reducible refine (addWords_at i1 i2 i3 i4).mono ?_); rintro e w1 ⟨x1, y1, ok, hk, A5, n5, c5, A6, n6, c6, rfl, d5, d6, g5⟩; have HK := Lib.hid hk; clear hk; have K1 := (((K.call g5).add d6).add d5).new 26 (Plains.four (decide (x1 < 0)) A5 n5 c5 (decide (y1 < 0)) A6 n6 c6))
    | fail)
  clear K i1 i2 i3 i4 d5 d6 g5
  generalize w1.alloc (.cells #[.bool (decide (x1 < 0)), .slice A5 n5 c5, .bool (decide (y1 < 0)), .slice A6 n6 c6] 26) = W1 at K1 ⊢
  generalize w1.heap.size = h5 at K1 ⊢
  cases ok with
  | true =>
    obtain ⟨e1, e2⟩ := HK.out rfl
    rw [HX.out] at e1
    rw [HY.out] at e2
    subst e1 e2
    go_upto_region 3 with fail
    obtain ⟨⟨p0, p1, p2, p3⟩, ⟨q0, q1, q2, q3⟩, _⟩ := K1.facts
    obtain ⟨f0, f1, f2, f3⟩ := K1.free (i := 1) rfl
    obtain ⟨z1, z2⟩ := K1.ne 0 1 rfl rfl (by decide)
    have K4 := K1.put4 1 rfl (decide (x1 < 0)) A5 n5 c5 (decide (y1 < 0)) A6 n6 c6
    simp only [List.set] at K4
    obtain ⟨_, ⟨r0, r1, r2, r3⟩, _⟩ := K4.facts
    go_wp2_with fail
    exact bodyPost_ret (v := .agg #[.bool (decide (x1 < 0)), .slice A5 n5 c5, .bool (decide (y1 < 0)), .slice A6 n6 c6]) (by simp [results, Try.results20, go_sem, r0, r1, r2, r3]) rfl (RetFr.of_st K4)
  | false =>
    clear HK
    go_upto_region 4 with fail
    have Kd := K1.drew
    clear K1
    obtain ⟨_, ⟨q0, q1, q2, q3⟩, ⟨p4, p5, p6, p7⟩, ⟨p0, p1, p2, p3⟩, _⟩ := Kd.facts
    obtain ⟨z1, z2⟩ := Kd.ne 1 2 rfl rfl (by decide)
    obtain ⟨z3, z4⟩ := Kd.ne 1 3 rfl rfl (by decide)
    have i1 := Kd.ints.2.2.2.2.2.1.i
    have i2 := Kd.ints.2.2.2.2.1.i
    go_region_held3 (fun w' => w'.cell? ⟨w.heap.size, 0, none⟩ = some (.bool s1) ∧ w'.cell? ⟨w.heap.size, 1, none⟩ = some (.slice A1 n1 c1) ∧ w'.cell? ⟨w.heap.size, 2, none⟩ = some (.bool s2) ∧ w'.cell? ⟨w.heap.size, 3, none⟩ = some (.slice A2 n2 c2) ∧ w'.cell? ⟨w.heap.size + 1, 0, none⟩ = some (.bool s3) ∧ w'.cell? ⟨w.heap.size + 1, 1, none⟩ = some (.slice A3 n3 c3) ∧ w'.cell? ⟨w.heap.size + 1, 2, none⟩ = some (.bool s4) ∧ w'.cell? ⟨w.heap.size + 1, 3, none⟩ = some (.slice A4 n4 c4))
      (go_keep)
      (first
        | (go_at_call_of 26 (Value.agg #[Value.bool s1, Value.slice A1 n1 c1, Value.bool s2, Value.slice A2 n2 c2]); (with_reducible refine (canonFrac_at i1 i2 za2 zb2).mono ?_); rw [HU1.out, HT1.out]; rintro e wa ⟨B1, m1, k1, B2, m2, k2, rfl, d1, d2, ga⟩; have Ka := ((Kd.call ga).add d2).add d1; clear p0 p1 p2 p3 p4 p5 p6 p7; obtain ⟨_, _, ⟨p4, p5, p6, p7⟩, ⟨p0, p1, p2, p3⟩, _⟩ := Ka.facts; have i3 := Ka.ints.2.2.2.2.2.1.i; have i4 := Ka.ints.2.2.2.2.1.i)
        | (go_at_call_of 26 (Value.agg #[Value.bool s3, Value.slice A3 n3 c3, Value.bool s4, Value.slice A4 n4 c4]); (with_reducible refine (canonFrac_at i3 i4 zc2 zd2).mono ?_); rw [HU2.out, HT2.out]; rintro e wb ⟨B3, m3, k3, B4, m4, k4, rfl, d3, d4, gb⟩; have Kb := ((Ka.call gb).add d4).add d3; clear p0 p1 p2 p3 p4 p5 p6 p7; obtain ⟨_, _, ⟨p4, p5, p6, p7⟩, ⟨p0, p1, p2, p3⟩, _⟩ := Kb.facts; have j1 := Kb.ints.2.2.1.c; have j2 := Kb.ints.2.2.2.1.c; have j3 := Kb.ints.1.c; have j4 := Kb.ints.2.1.c)
        | (go_at_call 44; (with_reducible refine (addCanonical_at j1 j2 j3 j4 zu1 zt1 zu2 zt2 HQ.out.1 HQ.out.2.1 HQ.out.2.2.1 HQ.out.2.2.2).mono ?_); rw [HEX.out, HEY.out]; rintro e wc ⟨B5, m5, k5, B6, m6, k6, rfl, d5, d6, gc⟩; have Kc := ((Kb.call gc).add d6).add d5; clear p0 p1 p2 p3 p4 p5 p6 p7; obtain ⟨_, ⟨q4, q5, q6, q7⟩, ⟨p4, p5, p6, p7⟩, ⟨p0, p1, p2, p3⟩, _⟩ := Kc.facts; obtain ⟨f0, f1, f2, f3⟩ := Kc.free (i := 1) rfl)
        | fail)
    have K4 := Kc.put4 1 rfl (decide (x < 0)) B5 m5 k5 (decide (y < 0)) B6 m6 k6
    simp only [List.set] at K4
    obtain ⟨_, ⟨r0, r1, r2, r3⟩, _⟩ := K4.facts
    go_wp2_with fail
    exact bodyPost_ret (v := .agg #[.bool (decide (x < 0)), .slice B5 m5 k5, .bool (decide (y < 0)), .slice B6 m6 k6]) (by simp [results, Try.results20, go_sem, r0, r1, r2, r3]) rfl (RetFr.of_st K4)

set_option maxHeartbeats 8000000 in
set_option maxRecDepth 100000 in
theorem fmul_at {w : World} {s1 s2 s3 s4 : Bool} {A1 A2 A3 A4 : Option Addr} {n1 c1 n2 c2 n3 c3 n4 c4 : Nat} {a b c d : Int} (h1 : IntAt w s1 A1 n1 c1 a) (h2 : IntAt w s2 A2 n2 c2 b) (h3 : IntAt w s3 A3 n3 c3 c) (h4 : IntAt w s4 A4 n4 c4 d) (za : Sz a 900) (zb : Sz b 900) (zc : Sz c 900) (zd : Sz d 900) :
    Calls Try.prog 15 #[.agg #[.bool s1, .slice A1 n1 c1, .bool s2, .slice A2 n2 c2], .agg #[.bool s3, .slice A3 n3 c3, .bool s4, .slice A4 n4 c4]] w (RetFr w (rn (a * c) (b * d)) (rd (a * c) (b * d))) := by
  have H0 := (((((((St.start w).addI h1).addI h2).addI h3).addI h4).new 26 (Plains.four s1 A1 n1 c1 s2 A2 n2 c2)).new 26 (Plains.four s3 A3 n3 c3 s4 A4 n4 c4)).new 26 (Plains.four false none 0 0 false none 0 0)
  (try simp only [World.size_alloc] at H0)
  have HH := Lib.hid H0
  clear H0 h1 h2 h3 h4
  obtain ⟨p, HP⟩ : ∃ v, Hid (a * c = v) := ⟨_, rfl⟩
  obtain ⟨q, HQ⟩ : ∃ v, Hid (b * d = v) := ⟨_, rfl⟩
  have zp : Sz p 2000 := by rw [← HP.out]; exact (za.mul zc).mono (by decide)
  have zq : Sz q 2000 := by rw [← HQ.out]; exact (zb.mul zd).mono (by decide)
  have kp := zp.ok
  have kq := zq.ok
  rw [HP.out, HQ.out]
  obtain ⟨x, HX⟩ : ∃ v, Hid (rn p q = v) := ⟨_, rfl⟩
  obtain ⟨y, HY⟩ : ∃ v, Hid (rd p q = v) := ⟨_, rfl⟩
  rw [HX.out, HY.out]
  go_enter Try.func15, Try.ntmps15
  go_upto_region 1 with fail
  have Kd := HH.out.drew
  clear HH
  obtain ⟨_, ⟨p4, p5, p6, p7⟩, ⟨p0, p1, p2, p3⟩, _⟩ := Kd.facts
  obtain ⟨z1, z2⟩ := Kd.ne 0 1 rfl rfl (by decide)
  obtain ⟨z3, z4⟩ := Kd.ne 0 2 rfl rfl (by decide)
  have i1 := Kd.ints.2.2.2.1.i
  have i3 := Kd.ints.2.1.i
  go_region_held3 (fun w' => w'.cell? ⟨w.heap.size, 0, none⟩ = some (.bool s1) ∧ w'.cell? ⟨w.heap.size, 1, none⟩ = some (.slice A1 n1 c1) ∧ w'.cell? ⟨w.heap.size, 2, none⟩ = some (.bool s2) ∧ w'.cell? ⟨w.heap.size, 3, none⟩ = some (.slice A2 n2 c2) ∧ w'.cell? ⟨w.heap.size + 1, 0, none⟩ = some (.bool s3) ∧ w'.cell? ⟨w.heap.size + 1, 1, none⟩ = some (.slice A3 n3 c3) ∧ w'.cell? ⟨w.heap.size + 1, 2, none⟩ = some (.bool s4) ∧ w'.cell? ⟨w.heap.size + 1, 3, none⟩ = some (.slice A4 n4 c4))
    (go_keep)
    (first
      | (go_at_call_of 34 (Value.agg #[Value.bool s1, Value.slice A1 n1 c1]); (with_reducible refine (mul_at i1 i3).mono ?_); rw [HP.out]; rintro e wa ⟨B1, m1, k1, rfl, d1, u1, v1, ga⟩; have Ka := (Kd.call ga).add (CanAt.mk_ d1 u1 v1); clear p0 p1 p2 p3 p4 p5 p6 p7; obtain ⟨_, ⟨p4, p5, p6, p7⟩, ⟨p0, p1, p2, p3⟩, _⟩ := Ka.facts; have i2 := Ka.ints.2.2.2.1.i; have i4 := Ka.ints.2.1.i)
      | (go_at_call_of 34 (Value.agg #[Value.bool s2, Value.slice A2 n2 c2]); (with_reducible refine (mul_at i2 i4).mono ?_); rw [HQ.out]; rintro e wb ⟨B2, m2, k2, rfl, d2, u2, v2, gb⟩; have Kb := (Ka.call gb).add (CanAt.mk_ d2 u2 v2); clear p0 p1 p2 p3 p4 p5 p6 p7; obtain ⟨_, ⟨p4, p5, p6, p7⟩, ⟨p0, p1, p2, p3⟩, _⟩ := Kb.facts; have j1 := Kb.ints.2.1.ci kp; have j2 := Kb.ints.1.ci kq)
      | (go_at_call 26; (with_reducible refine (canonFrac_at j1 j2 zp zq).mono ?_); rw [HX.out, HY.out]; rintro e wc ⟨B5, m5, k5, B6, m6, k6, rfl, d5, d6, gc⟩; have Kc := ((Kb.call gc).add d6).add d5; clear p0 p1 p2 p3 p4 p5 p6 p7; obtain ⟨⟨q4, q5, q6, q7⟩, ⟨p4, p5, p6, p7⟩, ⟨p0, p1, p2, p3⟩, _⟩ := Kc.facts; obtain ⟨f0, f1, f2, f3⟩ := Kc.free (i := 0) rfl)
      | fail)
  have K4 := Kc.put4 0 rfl (decide (x < 0)) B5 m5 k5 (decide (y < 0)) B6 m6 k6
  simp only [List.set] at K4
  obtain ⟨⟨r0, r1, r2, r3⟩, _⟩ := K4.facts
  go_wp2_with fail
  exact bodyPost_ret (v := .agg #[.bool (decide (x < 0)), .slice B5 m5 k5, .bool (decide (y < 0)), .slice B6 m6 k6]) (by simp [results, Try.results15, go_sem, r0, r1, r2, r3]) rfl (RetFr.of_st K4)

set_option maxHeartbeats 8000000 in
set_option maxRecDepth 100000 in
theorem fsign_at {w : World} {s1 s2 : Bool} {A1 A2 : Option Addr} {n1 c1 n2 c2 : Nat} {a b : Int} (h1 : IntAt w s1 A1 n1 c1 a) (h2 : IntAt w s2 A2 n2 c2 b) :
    Calls Try.prog 21 #[.agg #[.bool s1, .slice A1 n1 c1, .bool s2, .slice A2 n2 c2]] w (RetN w (sgn a * sgn b)) := by
  have H0 := (((St.start w).addI h1).addI h2).new 26 (Plains.four s1 A1 n1 c1 s2 A2 n2 c2)
  (try simp only [World.size_alloc] at H0)
  have HH := Lib.hid H0
  clear H0 h1 h2
  obtain ⟨x, HX⟩ : ∃ v, Hid (sgn a = v) := ⟨_, rfl⟩
  obtain ⟨y, HY⟩ : ∃ v, Hid (sgn b = v) := ⟨_, rfl⟩
  obtain ⟨z, HZ⟩ : ∃ v, Hid (x * y = v) := ⟨_, rfl⟩
  have hz : IntKind.i64.wrap z = z := by
    refine IntWalk.i64_in _ ?_
    rw [← HZ.out, ← HX.out, ← HY.out]
    rcases sgn_cases a with h | h | h <;> rcases sgn_cases b with h' | h' | h' <;> rw [h, h'] <;> decide
  have HW := Lib.hid hz
  clear hz
  rw [HX.out, HY.out, HZ.out]
  go_enter Try.func21, Try.ntmps21
  go_upto_region 1 with fail
  have Kd := HH.out.drew
  clear HH
  obtain ⟨⟨p0, p1, p2, p3⟩, _⟩ := Kd.facts
  have i1 := Kd.ints.2.1.i
  have iw1 := HW.out
  have iw2 : x * y = z := HZ.out
  go_region_held3 (fun w' => w'.cell? ⟨w.heap.size, 0, none⟩ = some (.bool s1) ∧ w'.cell? ⟨w.heap.size, 1, none⟩ = some (.slice A1 n1 c1) ∧ w'.cell? ⟨w.heap.size, 2, none⟩ = some (.bool s2) ∧ w'.cell? ⟨w.heap.size, 3, none⟩ = some (.slice A2 n2 c2))
    (go_keep)
    (first
      | (go_at_call_of 45 (Value.agg #[Value.bool s1, Value.slice A1 n1 c1]); (with_reducible refine (sign_at i1).mono ?_); rw [HX.out]; rintro e wa ⟨rfl, ga⟩; have Ka := Kd.call ga; clear p0 p1 p2 p3; obtain ⟨⟨p0, p1, p2, p3⟩, _⟩ := Ka.facts; have i2 := Ka.ints.1.i)
      | (go_at_call_of 45 (Value.agg #[Value.bool s2, Value.slice A2 n2 c2]); (with_reducible refine (sign_at i2).mono ?_); rw [HY.out]; rintro e wb ⟨rfl, gb⟩; have Kb := Ka.call gb; clear p0 p1 p2 p3; obtain ⟨⟨p0, p1, p2, p3⟩, _⟩ := Kb.facts)
      | fail)
  go_wp2_with fail
  go_ret
  exact ⟨rfl, Kb.below⟩

set_option maxHeartbeats 8000000 in
set_option maxRecDepth 100000 in
theorem fneg_at {w : World} {s1 s2 : Bool} {A1 A2 : Option Addr} {n1 c1 n2 c2 : Nat} {a b : Int} (h1 : IntAt w s1 A1 n1 c1 a) (h2 : IntAt w s2 A2 n2 c2 b) (za : Sz a 2000) (zb : Sz b 2000) :
    Calls Try.prog 25 #[.agg #[.bool s1, .slice A1 n1 c1, .bool s2, .slice A2 n2 c2]] w (RetFr w (-rn a b) (rd a b)) := by
  have H0 := ((((St.start w).addI h1).addI h2).new 26 (Plains.four s1 A1 n1 c1 s2 A2 n2 c2)).new 26 (Plains.four false none 0 0 false none 0 0)
  (try simp only [World.size_alloc] at H0)
  have HH := Lib.hid H0
  clear H0 h1 h2
  obtain ⟨x, HX⟩ : ∃ v, Hid (rn a b = v) := ⟨_, rfl⟩
  obtain ⟨y, HY⟩ : ∃ v, Hid (rd a b = v) := ⟨_, rfl⟩
  have kx : (digs x.natAbs).length ≤ 1000000 := by rw [← HX.out]; exact (sz_rn za).ok
  rw [HX.out, HY.out]
  obtain ⟨z, HZ⟩ : ∃ v, Hid (-x = v) := ⟨_, rfl⟩
  rw [HZ.out]
  go_enter Try.func25, Try.ntmps25
  go_upto_region 2 with (first
    | (go_at_call 26; have K := HH.out; clear HH; have i1 := K.ints.2.1.i; have i2 := K.ints.1.i; (with_reducible refine (canonFrac_at i1 i2 za zb).mono ?_); rw [HX.out, HY.out]; rintro e wa ⟨B1, m1, k1, B2, m2, k2, rfl, d1, d2, ga⟩; have Ka := ((K.call ga).add d2).add d1; obtain ⟨_, ⟨p0, p1, p2, p3⟩, _⟩ := Ka.facts; obtain ⟨f0, f1, f2, f3⟩ := Ka.free (i := 1) rfl)
    | fail)
  have Kp := Ka.put4 1 rfl (decide (x < 0)) B1 m1 k1 (decide (y < 0)) B2 m2 k2
  simp only [List.set] at Kp
  clear K Ka i1 i2 p0 p1 p2 p3 f0 f1 f2 f3 d1 d2 ga
  generalize ((((wa.setCell ⟨w.heap.size, 0, none⟩ (.bool (decide (x < 0)))).setCell ⟨w.heap.size, 1, none⟩ (.slice B1 m1 k1)).setCell ⟨w.heap.size, 2, none⟩ (.bool (decide (y < 0)))).setCell ⟨w.heap.size, 3, none⟩ (.slice B2 m2 k2)) = W4 at Kp ⊢
  have Kd := Kp.drew
  clear Kp
  obtain ⟨_, ⟨p0, p1, p2, p3⟩, _⟩ := Kd.facts
  obtain ⟨z1, z2⟩ := Kd.ne 0 1 rfl rfl (by decide)
  have ix := Kd.ints.1.ci kx
  go_region_held3 (fun w' => w'.cell? ⟨w.heap.size, 0, none⟩ = some (.bool (decide (x < 0))) ∧ w'.cell? ⟨w.heap.size, 1, none⟩ = some (.slice B1 m1 k1) ∧ w'.cell? ⟨w.heap.size, 2, none⟩ = some (.bool (decide (y < 0))) ∧ w'.cell? ⟨w.heap.size, 3, none⟩ = some (.slice B2 m2 k2))
    (go_keep)
    (first
      | (go_at_call 39; (with_reducible refine (negate_at ix).mono ?_); rw [HZ.out]; rintro e wb ⟨B3, m3, k3, rfl, d3, u3, v3, gb⟩; have Kb := (Kd.call gb).add (CanAt.mk_ d3 u3 v3); clear p0 p1 p2 p3; obtain ⟨⟨q0, q1, q2, q3⟩, ⟨p0, p1, p2, p3⟩, _⟩ := Kb.facts; obtain ⟨f0, f1, f2, f3⟩ := Kb.free (i := 0) rfl)
      | fail)
  have K4 := Kb.put4 0 rfl (decide (z < 0)) B3 m3 k3 (decide (y < 0)) B2 m2 k2
  simp only [List.set] at K4
  obtain ⟨⟨r0, r1, r2, r3⟩, _⟩ := K4.facts
  go_wp2_with fail
  refine bodyPost_ret (v := .agg #[.bool (decide (z < 0)), .slice B3 m3 k3, .bool (decide (y < 0)), .slice B2 m2 k2]) (by simp [results, Try.results25, go_sem, r0, r1, r2, r3]) rfl ?_
  exact ⟨B3, m3, k3, B2, m2, k2, rfl, K4.ints.1.c, K4.ints.2.2.1.c, K4.below⟩

end
section
open Go.RowKit

theorem formatInt_at {w : World} {s : Bool} {A : Option Addr} {n c : Nat} {x : Int} (h : IntAt w s A n c x) (hn : n ≤ 100000) : Calls Try.prog 42 #[.agg #[.bool s, .slice A n c]] w (RetS w (decZ x)) := by
  obtain ⟨ds, h1, h2, h3, rfl, h5⟩ := h
  exact format_any s A n c ds w h1 h2 h3 hn
theorem fmt5 : decZ 5 = [53] := by unfold decZ; rw [if_neg (by decide), decs_small (by decide)]; rfl
theorem fmt6 : decZ 6 = [54] := by unfold decZ; rw [if_neg (by decide), decs_small (by decide)]; rfl
theorem half_third : (nwN 1 2 = 1 ∧ nwD 1 2 = 2 ∧ nwE 2 = 0) ∧ (nwN 1 3 = 1 ∧ nwD 1 3 = 3 ∧ nwE 3 = 0) ∧ (aN 1 2 1 3 = 5 ∧ aD 1 2 1 3 = 6) ∧ (rn 5 6 = 5 ∧ rd 5 6 = 6) := by decide +kernel

theorem sz_small {x : Int} (h1 : 0 ≤ x) (h2 : x ≤ 100) (k : Nat) (hk : 1 ≤ k) : Sz x k := Sz.mono (k := 1) (by unfold Sz; rw [Nat.pow_one, BB_eq]; omega) hk

set_option maxHeartbeats 4000000 in
set_option maxRecDepth 100000 in
theorem format56 {w : World} {s1 s2 : Bool} {A1 A2 : Option Addr} {n1 c1 n2 c2 : Nat} (h1 : CanAt w s1 A1 n1 c1 5) (h2 : CanAt w s2 A2 n2 c2 6) :
    Calls Try.prog 19 #[.agg #[.bool s1, .slice A1 n1 c1, .bool s2, .slice A2 n2 c2]] w (RetS w [53, 47, 54]) := by
  have z5 := fun k hk => sz_small (x := 5) (by decide) (by decide) k hk
  have z6 := fun k hk => sz_small (x := 6) (by decide) (by decide) k hk
  have k5 := (z5 1 (by decide)).ok
  have k6 := (z6 1 (by decide)).ok
  have l5 : (digs (5 : Int).natAbs).length ≤ 100000 := (z5 1 (by decide)).len2
  have l6 : (digs (6 : Int).natAbs).length ≤ 100000 := (z6 1 (by decide)).len2
  have zz5 := z5 2000 (by decide)
  have zz6 := z6 2000 (by decide)
  clear z5 z6
  have H0 := (((St.start w).add h1).add h2).new 26 (Plains.four s1 A1 n1 c1 s2 A2 n2 c2)
  have HH := Lib.hid H0
  clear H0 h1 h2
  go_enter Try.func19, Try.ntmps19
  go_upto_region 2 with (first
    | (go_at_call 26; have K := HH.out; clear HH; have i1 := K.ints.2.1.ci k5; have i2 := K.ints.1.ci k6; (with_reducible refine (canonFrac_at i1 i2 zz5 zz6).mono ?_); rw [half_third.2.2.2.1, half_third.2.2.2.2]; rintro e wa ⟨B1, m1, q1, B2, m2, q2, rfl, d1, d2, ga⟩; have Ka := ((K.call ga).add (show CanAt wa false B2 m2 q2 6 from d2)).add (show CanAt wa false B1 m1 q1 5 from d1); obtain ⟨⟨p0, p1, p2, p3⟩, _⟩ := Ka.facts; obtain ⟨f0, f1, f2, f3⟩ := Ka.free (i := 0) rfl)
    | fail)
  have Kp := Ka.put4 0 rfl false B1 m1 q1 false B2 m2 q2
  simp only [List.set] at Kp
  clear K Ka i1 i2 p0 p1 p2 p3 f0 f1 f2 f3 d1 d2 ga
  generalize ((((wa.setCell ⟨w.heap.size, 0, none⟩ (.bool false)).setCell ⟨w.heap.size, 1, none⟩ (.slice B1 m1 q1)).setCell ⟨w.heap.size, 2, none⟩ (.bool false)).setCell ⟨w.heap.size, 3, none⟩ (.slice B2 m2 q2)) = W4 at Kp ⊢
  have Kd := Kp.drew
  clear Kp
  obtain ⟨⟨p0, p1, p2, p3⟩, _⟩ := Kd.facts
  have i5 := Kd.ints.1.ci k5
  have hm1 : m1 ≤ 100000 := by rw [← Kd.ints.1.c.2.1.len]; exact l5
  have hm2 : m2 ≤ 100000 := by rw [← Kd.ints.2.1.c.2.1.len]; exact l6
  go_region_held3 (fun w' => w'.cell? ⟨w.heap.size, 0, none⟩ = some (.bool false) ∧ w'.cell? ⟨w.heap.size, 1, none⟩ = some (.slice B1 m1 q1) ∧ w'.cell? ⟨w.heap.size, 2, none⟩ = some (.bool false) ∧ w'.cell? ⟨w.heap.size, 3, none⟩ = some (.slice B2 m2 q2))
    (go_keep)
    (first
      | (go_at_call_of 42 (Value.agg #[Value.bool false, Value.slice B1 m1 q1]); (with_reducible refine (formatInt_at i5 hm1).mono ?_); rw [fmt5]; rintro e wb ⟨rfl, gb⟩; have Kb := Kd.call gb; clear p0 p1 p2 p3; obtain ⟨⟨p0, p1, p2, p3⟩, _⟩ := Kb.facts; have i6 := Kb.ints.2.1.ci k6)
      | (go_at_call_of 42 (Value.agg #[Value.bool false, Value.slice B2 m2 q2]); (with_reducible refine (formatInt_at i6 hm2).mono ?_); rw [fmt6]; rintro e wc ⟨rfl, gc⟩; have Kc := Kb.call gc; clear p0 p1 p2 p3; obtain ⟨⟨p0, p1, p2, p3⟩, _⟩ := Kc.facts)
      | fail)
  go_wp2_with fail
  go_ret
  exact ⟨rfl, Kc.below⟩

set_option maxHeartbeats 4000000 in
set_option maxRecDepth 100000 in
theorem awake2_any (w : World) : Calls Try.prog 6 #[] w (RetT1 w) := by
  have z1 := fun k hk => sz_small (x := 1) (by decide) (by decide) k hk
  have z2 := fun k hk => sz_small (x := 2) (by decide) (by decide) k hk
  have z3 := fun k hk => sz_small (x := 3) (by decide) (by decide) k hk
  have k1 := (z1 1 (by decide)).ok
  have k2 := (z2 1 (by decide)).ok
  have k3 := (z3 1 (by decide)).ok
  have y1 := z1 900 (by decide)
  have y2 := z2 900 (by decide)
  have y3 := z3 900 (by decide)
  clear z1 z2 z3
  have HH := Lib.hid (St.start w)
  go_enter Try.func6, Try.ntmps6
  go_upto_region 3 with (first
    | (go_at_call_of 18 (Value.int IntKind.i64 2); have K := HH.out; clear HH; (with_reducible refine (fromInts_any 1 2 (by decide) (by decide) (by decide) (by decide) _).mono ?_); rw [half_third.1.1, half_third.1.2.1, half_third.1.2.2]; rintro e wa ⟨B1, m1, q1, B2, m2, q2, rfl, d1, d2, ga⟩; have Ka := (((K.call ga).add (show CanAt wa false B2 m2 q2 2 from d2)).add (show CanAt wa false B1 m1 q1 1 from d1)).new 26 (Plains.four false B1 m1 q1 false B2 m2 q2))
    | (go_at_call_of 18 (Value.int IntKind.i64 3); (with_reducible refine (fromInts_any 1 3 (by decide) (by decide) (by decide) (by decide) _).mono ?_); rw [half_third.2.1.1, half_third.2.1.2.1, half_third.2.1.2.2]; rintro e wb ⟨B3, m3, q3, B4, m4, q4, rfl, d3, d4, gb⟩; have Kb := (((Ka.call gb).add (show CanAt wb false B4 m4 q4 3 from d4)).add (show CanAt wb false B3 m3 q3 1 from d3)).new 26 (Plains.four false B3 m3 q3 false B4 m4 q4))
    | fail)
  obtain ⟨⟨p0, p1, p2, p3⟩, ⟨p4, p5, p6, p7⟩, _⟩ := Kb.facts
  have i1 := Kb.ints.2.2.1.ci k1
  have i2 := Kb.ints.2.2.2.1.ci k2
  have i3 := Kb.ints.1.ci k1
  have i4 := Kb.ints.2.1.ci k3
  go_wp2_with (first
    | (go_at_call 20; (with_reducible refine (fadd_at i1 i2 i3 i4 y1 y2 y1 y3).mono ?_); rw [half_third.2.2.1.1, half_third.2.2.1.2]; rintro e wc ⟨B5, m5, q5, B6, m6, q6, rfl, d5, d6, gc⟩; have Kc := Kb.call gc)
    | (go_at_call 19; (with_reducible refine (format56 (show CanAt _ false B5 m5 q5 5 from d5) (show CanAt _ false B6 m6 q6 6 from d6)).mono ?_); rintro e wd ⟨rfl, gd⟩; have Kd := Kc.call gd)
    | fail)
  go_ret
  exact ⟨rfl, Kd.below⟩
end
section
open Go.RowKit

theorem IntAt.flip {w : World} {s : Bool} {A : Option Addr} {n c : Nat} {x : Int} (h : IntAt w s A n c x) : IntAt w (!s) A n c (-x) := by
  obtain ⟨ds, h1, h2, h3, rfl, h5⟩ := h
  exact ⟨ds, h1, h2, h3, zOf_not s _, h5⟩

set_option maxHeartbeats 8000000 in
set_option maxRecDepth 100000 in
theorem fcompare_at {w : World} {s1 s2 s3 s4 : Bool} {A1 A2 A3 A4 : Option Addr} {n1 c1 n2 c2 n3 c3 n4 c4 : Nat} {a b c d : Int} (h1 : IntAt w s1 A1 n1 c1 a) (h2 : IntAt w s2 A2 n2 c2 b) (h3 : IntAt w s3 A3 n3 c3 c) (h4 : IntAt w s4 A4 n4 c4 d) (za : Sz a 2000) (zb : Sz b 2000) (zc : Sz c 2000) (zd : Sz d 2000) :
    Calls Try.prog 10 #[.agg #[.bool s1, .slice A1 n1 c1, .bool s2, .slice A2 n2 c2], .agg #[.bool s3, .slice A3 n3 c3, .bool s4, .slice A4 n4 c4]] w (RetN w (cmpI (un a b * ud c d) (un c d * ud a b))) := by
  have H0 := (((((((St.start w).addI h1).addI h2).addI h3).addI h4).new 26 (Plains.four s1 A1 n1 c1 s2 A2 n2 c2)).new 26 (Plains.four s3 A3 n3 c3 s4 A4 n4 c4))
  (try simp only [World.size_alloc] at H0)
  have HH := Lib.hid H0
  clear H0 h1 h2 h3 h4
  obtain ⟨x1, HX1⟩ : ∃ v, Hid (un a b = v) := ⟨_, rfl⟩
  obtain ⟨y1, HY1⟩ : ∃ v, Hid (ud a b = v) := ⟨_, rfl⟩
  obtain ⟨x2, HX2⟩ : ∃ v, Hid (un c d = v) := ⟨_, rfl⟩
  obtain ⟨y2, HY2⟩ : ∃ v, Hid (ud c d = v) := ⟨_, rfl⟩
  have ka := za.ok
  have kb := zb.ok
  have kc := zc.ok
  have kd := zd.ok
  have zx1 : Sz x1 2000 := by rw [← HX1.out]; exact sz_un za
  have zx2 : Sz x2 2000 := by rw [← HX2.out]; exact sz_un zc
  have zy1 : Sz y1 2001 := by rw [← HY1.out]; exact sz_ud zb (by decide)
  have zy2 : Sz y2 2001 := by rw [← HY2.out]; exact sz_ud zd (by decide)
  obtain ⟨p, HP⟩ : ∃ v, Hid (x1 * y2 = v) := ⟨_, rfl⟩
  obtain ⟨q, HQ⟩ : ∃ v, Hid (x2 * y1 = v) := ⟨_, rfl⟩
  obtain ⟨v, HV⟩ : ∃ v, Hid (cmpI p q = v) := ⟨_, rfl⟩
  have kp : (digs p.natAbs).length ≤ 1000000 := by rw [← HP.out]; exact (zx1.mul zy2).ok
  have kq : (digs q.natAbs).length ≤ 1000000 := by rw [← HQ.out]; exact (zx2.mul zy1).ok
  rw [HX1.out, HX2.out, HY1.out, HY2.out, HP.out, HQ.out, HV.out]
  go_enter Try.func10, Try.ntmps10
  go_upto_region 1 with fail
  have KC := HH.out
  clear HH
  go_cut [] (fun wx => ∃ (s5 : Bool) (A5 : Option Addr) (n5 c5 : Nat) (s6 : Bool) (A6 : Option Addr) (n6 c6 : Nat) (s7 : Bool) (A7 : Option Addr) (n7 c7 : Nat) (s8 : Bool) (A8 : Option Addr) (n8 c8 : Nat), St w wx [vf (w.heap.size + 1) s7 A7 n7 c7 s8 A8 n8 c8, vf w.heap.size s5 A5 n5 c5 s6 A6 n6 c6] [(s7, A7, n7, c7, x2, false), (s8, A8, n8, c8, y2, false), (s5, A5, n5, c5, x1, false), (s6, A6, n6, c6, y1, false)])
  case first =>
    have Kd := KC.drew
    clear KC
    obtain ⟨⟨p4, p5, p6, p7⟩, ⟨p0, p1, p2, p3⟩, _⟩ := Kd.facts
    obtain ⟨z1, z2⟩ := Kd.ne 0 1 rfl rfl (by decide)
    have i1 := Kd.ints.2.2.2.1.i
    have i2 := Kd.ints.2.2.1.i
    skip
    refine wp_region_held_drew (S := fun w' => True) (by kernel_rfl) ?_ (fun hHeld0 => ?_)
    · (first | trivial | ((try dsimp only); go_keep))
    refine wpAnyH_ready (rs := [0, 2]) (by kernel_rfl) (by simp) ?_
    refine AllReadyH.cons (o := ⟨some 5, _, _, _, _, _⟩) rfl (fun K hK => ?_) ?_
    · skip
      go_simp
      refine hK.out _ _ ?_ (fun hHeld1 => ?_)
      · (first | trivial | ((try dsimp only); go_keep))
      clear hK K hHeld0
      (try simp only [Act.put, List.setIfInBounds_toArray, List.set_cons_zero, List.set_cons_succ])
      refine wpAnyH_ready (rs := [1, 2]) (by kernel_rfl) (by simp) ?_
      refine AllReadyH.cons (o := ⟨some 6, _, _, _, _, _⟩) rfl (fun K hK => ?_) ?_
      · skip
        go_simp
        (first | (go_at_call_of 24 (Value.agg #[Value.bool s1, Value.slice A1 n1 c1, Value.bool s2, Value.slice A2 n2 c2]); (with_reducible refine (upright_at i1 i2 ka kb).mono ?_); rw [HX1.out, HY1.out]; rintro e wa ⟨s5, A5, n5, c5, s6, A6, n6, c6, rfl, d5, d6, g5⟩; have Ka := ((Kd.call g5).addI d6).addI d5; clear p0 p1 p2 p3 p4 p5 p6 p7; obtain ⟨⟨p4, p5, p6, p7⟩, ⟨p0, p1, p2, p3⟩, _⟩ := Ka.facts; have i3 := Ka.ints.2.2.2.1.i; have i4 := Ka.ints.2.2.1.i) | (go_at_call_of 24 (Value.agg #[Value.bool s3, Value.slice A3 n3 c3, Value.bool s4, Value.slice A4 n4 c4]); (with_reducible refine (upright_at i3 i4 kc kd).mono ?_); rw [HX2.out, HY2.out]; rintro e wb ⟨s7, A7, n7, c7, s8, A8, n8, c8, rfl, d7, d8, g7⟩; have Kb := ((Ka.call g7).addI d8).addI d7; clear p0 p1 p2 p3 p4 p5 p6 p7; obtain ⟨⟨p4, p5, p6, p7⟩, ⟨p0, p1, p2, p3⟩, _⟩ := Kb.facts; obtain ⟨f0, f1, f2, f3⟩ := Kb.free (i := 0) rfl; obtain ⟨f4, f5, f6, f7⟩ := Kb.free (i := 1) rfl) | fail)
        (try go_wp2_with fail)
        refine hK.out _ _ ?_ (fun hHeld2 => ?_)
        · (first | trivial | ((try dsimp only); go_keep))
        clear hK K hHeld1
        (try simp only [Act.put, List.setIfInBounds_toArray, List.set_cons_zero, List.set_cons_succ])
        refine wpAnyH_ready (rs := [2]) (by kernel_rfl) (by simp) ?_
        refine AllReadyH.cons (o := ⟨some 7, _, _, _, _, _⟩) rfl (fun K hK => ?_) AllReadyH.nil
        go_simp
        refine hK.out _ _ ?_ (fun hHeld3 => ?_)
        · (first | trivial | ((try dsimp only); go_keep))
        clear hK K hHeld2
        (try simp only [Act.put, List.setIfInBounds_toArray, List.set_cons_zero, List.set_cons_succ])
        refine wpAnyH_ready (rs := [3]) (by kernel_rfl) (by simp) ?_
        refine AllReadyH.cons (o := ⟨some 8, _, _, _, _, _⟩) rfl (fun K hK => ?_) AllReadyH.nil
        go_simp
        (first | (go_at_call_of 24 (Value.agg #[Value.bool s1, Value.slice A1 n1 c1, Value.bool s2, Value.slice A2 n2 c2]); (with_reducible refine (upright_at i1 i2 ka kb).mono ?_); rw [HX1.out, HY1.out]; rintro e wa ⟨s5, A5, n5, c5, s6, A6, n6, c6, rfl, d5, d6, g5⟩; have Ka := ((Kd.call g5).addI d6).addI d5; clear p0 p1 p2 p3 p4 p5 p6 p7; obtain ⟨⟨p4, p5, p6, p7⟩, ⟨p0, p1, p2, p3⟩, _⟩ := Ka.facts; have i3 := Ka.ints.2.2.2.1.i; have i4 := Ka.ints.2.2.1.i) | (go_at_call_of 24 (Value.agg #[Value.bool s3, Value.slice A3 n3 c3, Value.bool s4, Value.slice A4 n4 c4]); (with_reducible refine (upright_at i3 i4 kc kd).mono ?_); rw [HX2.out, HY2.out]; rintro e wb ⟨s7, A7, n7, c7, s8, A8, n8, c8, rfl, d7, d8, g7⟩; have Kb := ((Ka.call g7).addI d8).addI d7; clear p0 p1 p2 p3 p4 p5 p6 p7; obtain ⟨⟨p4, p5, p6, p7⟩, ⟨p0, p1, p2, p3⟩, _⟩ := Kb.facts; obtain ⟨f0, f1, f2, f3⟩ := Kb.free (i := 0) rfl; obtain ⟨f4, f5, f6, f7⟩ := Kb.free (i := 1) rfl) | fail)
        (try go_wp2_with fail)
        refine hK.out _ _ ?_ (fun hHeld4 => ?_)
        · (first | trivial | ((try dsimp only); go_keep))
        clear hK K hHeld3
        (try simp only [Act.put, List.setIfInBounds_toArray, List.set_cons_zero, List.set_cons_succ])
        refine wpAnyH_ready (rs := [4]) (by kernel_rfl) (by simp) ?_
        refine AllReadyH.cons (o := ⟨none, _, _, _, _, _⟩) rfl (fun K hK => ?_) AllReadyH.nil
        go_simp
        refine hK.out _ _ ?_ (fun hHeld5 => ?_)
        · (first | trivial | ((try dsimp only); go_keep))
        clear hK K hHeld4
        (try simp only [Act.put, List.setIfInBounds_toArray, List.set_cons_zero, List.set_cons_succ])
        refine wpAnyH_ready (rs := [5]) (by kernel_rfl) (by simp) ?_
        refine AllReadyH.cons (o := ⟨none, _, _, _, _, _⟩) rfl (fun K hK => ?_) AllReadyH.nil
        go_simp
        refine hK.out _ _ ?_ (fun hHeld6 => ?_)
        · (first | trivial | ((try dsimp only); go_keep))
        clear hK K hHeld5
        (try simp only [Act.put, List.setIfInBounds_toArray, List.set_cons_zero, List.set_cons_succ])
        refine wpAnyH_done (by kernel_rfl) ?_ _
        go_wp2_with fail
        go_meet
        have KF := (Kb.put4 1 rfl s5 A5 n5 c5 s6 A6 n6 c6).put4 0 rfl s7 A7 n7 c7 s8 A8 n8 c8
        simp only [List.set] at KF
        exact ⟨s5, A5, n5, c5, s6, A6, n6, c6, s7, A7, n7, c7, s8, A8, n8, c8, KF.ints_ ⟨KF.ints.1, KF.ints.2.1, KF.ints.2.2.1, KF.ints.2.2.2.1, trivial⟩⟩
      refine AllReadyH.cons (o := ⟨some 7, _, _, _, _, _⟩) rfl (fun K hK => ?_) AllReadyH.nil
      go_simp
      refine hK.out _ _ ?_ (fun hHeld2 => ?_)
      · (first | trivial | ((try dsimp only); go_keep))
      clear hK K hHeld1
      (try simp only [Act.put, List.setIfInBounds_toArray, List.set_cons_zero, List.set_cons_succ])
      refine wpAnyH_ready (rs := [1]) (by kernel_rfl) (by simp) ?_
      refine AllReadyH.cons (o := ⟨some 6, _, _, _, _, _⟩) rfl (fun K hK => ?_) AllReadyH.nil
      go_simp
      (first | (go_at_call_of 24 (Value.agg #[Value.bool s1, Value.slice A1 n1 c1, Value.bool s2, Value.slice A2 n2 c2]); (with_reducible refine (upright_at i1 i2 ka kb).mono ?_); rw [HX1.out, HY1.out]; rintro e wa ⟨s5, A5, n5, c5, s6, A6, n6, c6, rfl, d5, d6, g5⟩; have Ka := ((Kd.call g5).addI d6).addI d5; clear p0 p1 p2 p3 p4 p5 p6 p7; obtain ⟨⟨p4, p5, p6, p7⟩, ⟨p0, p1, p2, p3⟩, _⟩ := Ka.facts; have i3 := Ka.ints.2.2.2.1.i; have i4 := Ka.ints.2.2.1.i) | (go_at_call_of 24 (Value.agg #[Value.bool s3, Value.slice A3 n3 c3, Value.bool s4, Value.slice A4 n4 c4]); (with_reducible refine (upright_at i3 i4 kc kd).mono ?_); rw [HX2.out, HY2.out]; rintro e wb ⟨s7, A7, n7, c7, s8, A8, n8, c8, rfl, d7, d8, g7⟩; have Kb := ((Ka.call g7).addI d8).addI d7; clear p0 p1 p2 p3 p4 p5 p6 p7; obtain ⟨⟨p4, p5, p6, p7⟩, ⟨p0, p1, p2, p3⟩, _⟩ := Kb.facts; obtain ⟨f0, f1, f2, f3⟩ := Kb.free (i := 0) rfl; obtain ⟨f4, f5, f6, f7⟩ := Kb.free (i := 1) rfl) | fail)
      (try go_wp2_with fail)
      refine hK.out _ _ ?_ (fun hHeld3 => ?_)
      · (first | trivial | ((try dsimp only); go_keep))
      clear hK K hHeld2
      (try simp only [Act.put, List.setIfInBounds_toArray, List.set_cons_zero, List.set_cons_succ])
      refine wpAnyH_ready (rs := [3]) (by kernel_rfl) (by simp) ?_
      refine AllReadyH.cons (o := ⟨some 8, _, _, _, _, _⟩) rfl (fun K hK => ?_) AllReadyH.nil
      go_simp
      (first | (go_at_call_of 24 (Value.agg #[Value.bool s1, Value.slice A1 n1 c1, Value.bool s2, Value.slice A2 n2 c2]); (with_reducible refine (upright_at i1 i2 ka kb).mono ?_); rw [HX1.out, HY1.out]; rintro e wa ⟨s5, A5, n5, c5, s6, A6, n6, c6, rfl, d5, d6, g5⟩; have Ka := ((Kd.call g5).addI d6).addI d5; clear p0 p1 p2 p3 p4 p5 p6 p7; obtain ⟨⟨p4, p5, p6, p7⟩, ⟨p0, p1, p2, p3⟩, _⟩ := Ka.facts; have i3 := Ka.ints.2.2.2.1.i; have i4 := Ka.ints.2.2.1.i) | (go_at_call_of 24 (Value.agg #[Value.bool s3, Value.slice A3 n3 c3, Value.bool s4, Value.slice A4 n4 c4]); (with_reducible refine (upright_at i3 i4 kc kd).mono ?_); rw [HX2.out, HY2.out]; rintro e wb ⟨s7, A7, n7, c7, s8, A8, n8, c8, rfl, d7, d8, g7⟩; have Kb := ((Ka.call g7).addI d8).addI d7; clear p0 p1 p2 p3 p4 p5 p6 p7; obtain ⟨⟨p4, p5, p6, p7⟩, ⟨p0, p1, p2, p3⟩, _⟩ := Kb.facts; obtain ⟨f0, f1, f2, f3⟩ := Kb.free (i := 0) rfl; obtain ⟨f4, f5, f6, f7⟩ := Kb.free (i := 1) rfl) | fail)
      (try go_wp2_with fail)
      refine hK.out _ _ ?_ (fun hHeld4 => ?_)
      · (first | trivial | ((try dsimp only); go_keep))
      clear hK K hHeld3
      (try simp only [Act.put, List.setIfInBounds_toArray, List.set_cons_zero, List.set_cons_succ])
      refine wpAnyH_ready (rs := [4]) (by kernel_rfl) (by simp) ?_
      refine AllReadyH.cons (o := ⟨none, _, _, _, _, _⟩) rfl (fun K hK => ?_) AllReadyH.nil
      go_simp
      refine hK.out _ _ ?_ (fun hHeld5 => ?_)
      · (first | trivial | ((try dsimp only); go_keep))
      clear hK K hHeld4
      (try simp only [Act.put, List.setIfInBounds_toArray, List.set_cons_zero, List.set_cons_succ])
      refine wpAnyH_ready (rs := [5]) (by kernel_rfl) (by simp) ?_
      refine AllReadyH.cons (o := ⟨none, _, _, _, _, _⟩) rfl (fun K hK => ?_) AllReadyH.nil
      go_simp
      refine hK.out _ _ ?_ (fun hHeld6 => ?_)
      · (first | trivial | ((try dsimp only); go_keep))
      clear hK K hHeld5
      (try simp only [Act.put, List.setIfInBounds_toArray, List.set_cons_zero, List.set_cons_succ])
      refine wpAnyH_done (by kernel_rfl) ?_ _
      go_wp2_with fail
      go_meet
      have KF := (Kb.put4 1 rfl s5 A5 n5 c5 s6 A6 n6 c6).put4 0 rfl s7 A7 n7 c7 s8 A8 n8 c8
      simp only [List.set] at KF
      exact ⟨s5, A5, n5, c5, s6, A6, n6, c6, s7, A7, n7, c7, s8, A8, n8, c8, KF.ints_ ⟨KF.ints.1, KF.ints.2.1, KF.ints.2.2.1, KF.ints.2.2.2.1, trivial⟩⟩
    refine AllReadyH.cons (o := ⟨some 7, _, _, _, _, _⟩) rfl (fun K hK => ?_) AllReadyH.nil
    go_simp
    refine hK.out _ _ ?_ (fun hHeld1 => ?_)
    · (first | trivial | ((try dsimp only); go_keep))
    clear hK K hHeld0
    (try simp only [Act.put, List.setIfInBounds_toArray, List.set_cons_zero, List.set_cons_succ])
    refine wpAnyH_ready (rs := [0]) (by kernel_rfl) (by simp) ?_
    refine AllReadyH.cons (o := ⟨some 5, _, _, _, _, _⟩) rfl (fun K hK => ?_) AllReadyH.nil
    go_simp
    refine hK.out _ _ ?_ (fun hHeld2 => ?_)
    · (first | trivial | ((try dsimp only); go_keep))
    clear hK K hHeld1
    (try simp only [Act.put, List.setIfInBounds_toArray, List.set_cons_zero, List.set_cons_succ])
    refine wpAnyH_ready (rs := [1]) (by kernel_rfl) (by simp) ?_
    refine AllReadyH.cons (o := ⟨some 6, _, _, _, _, _⟩) rfl (fun K hK => ?_) AllReadyH.nil
    go_simp
    (first | (go_at_call_of 24 (Value.agg #[Value.bool s1, Value.slice A1 n1 c1, Value.bool s2, Value.slice A2 n2 c2]); (with_reducible refine (upright_at i1 i2 ka kb).mono ?_); rw [HX1.out, HY1.out]; rintro e wa ⟨s5, A5, n5, c5, s6, A6, n6, c6, rfl, d5, d6, g5⟩; have Ka := ((Kd.call g5).addI d6).addI d5; clear p0 p1 p2 p3 p4 p5 p6 p7; obtain ⟨⟨p4, p5, p6, p7⟩, ⟨p0, p1, p2, p3⟩, _⟩ := Ka.facts; have i3 := Ka.ints.2.2.2.1.i; have i4 := Ka.ints.2.2.1.i) | (go_at_call_of 24 (Value.agg #[Value.bool s3, Value.slice A3 n3 c3, Value.bool s4, Value.slice A4 n4 c4]); (with_reducible refine (upright_at i3 i4 kc kd).mono ?_); rw [HX2.out, HY2.out]; rintro e wb ⟨s7, A7, n7, c7, s8, A8, n8, c8, rfl, d7, d8, g7⟩; have Kb := ((Ka.call g7).addI d8).addI d7; clear p0 p1 p2 p3 p4 p5 p6 p7; obtain ⟨⟨p4, p5, p6, p7⟩, ⟨p0, p1, p2, p3⟩, _⟩ := Kb.facts; obtain ⟨f0, f1, f2, f3⟩ := Kb.free (i := 0) rfl; obtain ⟨f4, f5, f6, f7⟩ := Kb.free (i := 1) rfl) | fail)
    (try go_wp2_with fail)
    refine hK.out _ _ ?_ (fun hHeld3 => ?_)
    · (first | trivial | ((try dsimp only); go_keep))
    clear hK K hHeld2
    (try simp only [Act.put, List.setIfInBounds_toArray, List.set_cons_zero, List.set_cons_succ])
    refine wpAnyH_ready (rs := [3]) (by kernel_rfl) (by simp) ?_
    refine AllReadyH.cons (o := ⟨some 8, _, _, _, _, _⟩) rfl (fun K hK => ?_) AllReadyH.nil
    go_simp
    (first | (go_at_call_of 24 (Value.agg #[Value.bool s1, Value.slice A1 n1 c1, Value.bool s2, Value.slice A2 n2 c2]); (with_reducible refine (upright_at i1 i2 ka kb).mono ?_); rw [HX1.out, HY1.out]; rintro e wa ⟨s5, A5, n5, c5, s6, A6, n6, c6, rfl, d5, d6, g5⟩; have Ka := ((Kd.call g5).addI d6).addI d5; clear p0 p1 p2 p3 p4 p5 p6 p7; obtain ⟨⟨p4, p5, p6, p7⟩, ⟨p0, p1, p2, p3⟩, _⟩ := Ka.facts; have i3 := Ka.ints.2.2.2.1.i; have i4 := Ka.ints.2.2.1.i) | (go_at_call_of 24 (Value.agg #[Value.bool s3, Value.slice A3 n3 c3, Value.bool s4, Value.slice A4 n4 c4]); (with_reducible refine (upright_at i3 i4 kc kd).mono ?_); rw [HX2.out, HY2.out]; rintro e wb ⟨s7, A7, n7, c7, s8, A8, n8, c8, rfl, d7, d8, g7⟩; have Kb := ((Ka.call g7).addI d8).addI d7; clear p0 p1 p2 p3 p4 p5 p6 p7; obtain ⟨⟨p4, p5, p6, p7⟩, ⟨p0, p1, p2, p3⟩, _⟩ := Kb.facts; obtain ⟨f0, f1, f2, f3⟩ := Kb.free (i := 0) rfl; obtain ⟨f4, f5, f6, f7⟩ := Kb.free (i := 1) rfl) | fail)
    (try go_wp2_with fail)
    refine hK.out _ _ ?_ (fun hHeld4 => ?_)
    · (first | trivial | ((try dsimp only); go_keep))
    clear hK K hHeld3
    (try simp only [Act.put, List.setIfInBounds_toArray, List.set_cons_zero, List.set_cons_succ])
    refine wpAnyH_ready (rs := [4]) (by kernel_rfl) (by simp) ?_
    refine AllReadyH.cons (o := ⟨none, _, _, _, _, _⟩) rfl (fun K hK => ?_) AllReadyH.nil
    go_simp
    refine hK.out _ _ ?_ (fun hHeld5 => ?_)
    · (first | trivial | ((try dsimp only); go_keep))
    clear hK K hHeld4
    (try simp only [Act.put, List.setIfInBounds_toArray, List.set_cons_zero, List.set_cons_succ])
    refine wpAnyH_ready (rs := [5]) (by kernel_rfl) (by simp) ?_
    refine AllReadyH.cons (o := ⟨none, _, _, _, _, _⟩) rfl (fun K hK => ?_) AllReadyH.nil
    go_simp
    refine hK.out _ _ ?_ (fun hHeld6 => ?_)
    · (first | trivial | ((try dsimp only); go_keep))
    clear hK K hHeld5
    (try simp only [Act.put, List.setIfInBounds_toArray, List.set_cons_zero, List.set_cons_succ])
    refine wpAnyH_done (by kernel_rfl) ?_ _
    go_wp2_with fail
    go_meet
    have KF := (Kb.put4 1 rfl s5 A5 n5 c5 s6 A6 n6 c6).put4 0 rfl s7 A7 n7 c7 s8 A8 n8 c8
    simp only [List.set] at KF
    exact ⟨s5, A5, n5, c5, s6, A6, n6, c6, s7, A7, n7, c7, s8, A8, n8, c8, KF.ints_ ⟨KF.ints.1, KF.ints.2.1, KF.ints.2.2.1, KF.ints.2.2.2.1, trivial⟩⟩
  case rest =>
    clear KC
    obtain ⟨s5, A5, n5, c5, s6, A6, n6, c6, s7, A7, n7, c7, s8, A8, n8, c8, KC⟩ := hcut
    have Kd := KC.drew
    clear KC
    obtain ⟨⟨p4, p5, p6, p7⟩, ⟨p0, p1, p2, p3⟩, _⟩ := Kd.facts
    have j1 := Kd.ints.2.2.1.i
    have j4 := Kd.ints.2.1.i
    go_upto_region 2 with fail
    go_region_held3 (fun w' => w'.cell? ⟨w.heap.size, 0, none⟩ = some (.bool s5) ∧ w'.cell? ⟨w.heap.size, 1, none⟩ = some (.slice A5 n5 c5) ∧ w'.cell? ⟨w.heap.size, 2, none⟩ = some (.bool s6) ∧ w'.cell? ⟨w.heap.size, 3, none⟩ = some (.slice A6 n6 c6) ∧ w'.cell? ⟨w.heap.size + 1, 0, none⟩ = some (.bool s7) ∧ w'.cell? ⟨w.heap.size + 1, 1, none⟩ = some (.slice A7 n7 c7) ∧ w'.cell? ⟨w.heap.size + 1, 2, none⟩ = some (.bool s8) ∧ w'.cell? ⟨w.heap.size + 1, 3, none⟩ = some (.slice A8 n8 c8))
      (go_keep)
      (first
        | (go_at_call_of 34 (Value.agg #[Value.bool s5, Value.slice A5 n5 c5]); (with_reducible refine (mul_at j1 j4).mono ?_); rw [HP.out]; rintro e wc ⟨C1, m1, k1, rfl, d1, u1, v1, g1⟩; have Ke := (Kd.call g1).add (CanAt.mk_ d1 u1 v1); clear p0 p1 p2 p3 p4 p5 p6 p7; obtain ⟨⟨p4, p5, p6, p7⟩, ⟨p0, p1, p2, p3⟩, _⟩ := Ke.facts; have j3 := Ke.ints.2.1.i; have j2 := Ke.ints.2.2.2.2.1.i)
        | (go_at_call_of 34 (Value.agg #[Value.bool s7, Value.slice A7 n7 c7]); (with_reducible refine (mul_at j3 j2).mono ?_); rw [HQ.out]; rintro e wd ⟨C2, m2, k2, rfl, d2, u2, v2, g2⟩; have Kf := (Ke.call g2).add (CanAt.mk_ d2 u2 v2); clear p0 p1 p2 p3 p4 p5 p6 p7; obtain ⟨⟨p4, p5, p6, p7⟩, ⟨p0, p1, p2, p3⟩, _⟩ := Kf.facts; have jp := Kf.ints.2.1.ci kp; have jq := Kf.ints.1.ci kq)
        | (go_at_call 11; (with_reducible refine (compare_at jp jq).mono ?_); rw [HV.out]; rintro e we ⟨rfl, g3⟩; have Kg := Kf.call g3; clear p0 p1 p2 p3 p4 p5 p6 p7; obtain ⟨⟨p4, p5, p6, p7⟩, ⟨p0, p1, p2, p3⟩, _⟩ := Kg.facts)
        | fail)
    go_wp2_with fail
    go_ret
    exact ⟨rfl, Kg.below⟩

/-- What Div returns: the zero value with the error 11 if the divisor is 0. -/
def dvN (a b c d : Int) : Int := if c = 0 ∨ d = 0 then 0 else rn (a * d) (b * c)
def dvD (a b c d : Int) : Int := if c = 0 ∨ d = 0 then 0 else rd (a * d) (b * c)
def dvE (c d : Int) : Int := if c = 0 ∨ d = 0 then 11 else 0
theorem sgn_eq_zero {x : Int} : sgn x = 0 ↔ x = 0 := by
  constructor
  · intro h; unfold sgn cmpI at h; split at h <;> (try split at h) <;> omega
  · rintro rfl; rfl
end
end Go.Proofs.Ytgjkgmlcfieodaa

