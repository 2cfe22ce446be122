/-
  Sums of canonical fractions and of words.
-/
import Derived.Test.YtgjkgmlcfieodaaFrcA
import Derived.Test.YtgjkgmlcfieodaaFrM
set_option linter.unusedVariables false
set_option linter.unusedSimpArgs false
namespace Go.Proofs.Ytgjkgmlcfieodaa
section
open Go.RowKit

theorem gcd_le_right {x y : Int} (hy : y ≠ 0) : Int.gcd x y ≤ y.natAbs := Nat.le_of_dvd (by omega) (Int.gcd_dvd_natAbs_right ..)
theorem ediv_mul_of {x g q : Int} (hg : 0 < g) (h : g ∣ x) (hq : dmQ x g = q) : q * g = x := by
  rw [← hq, dmQ_pos hg]; exact Int.ediv_mul_cancel h
theorem abs_of_mul {x g q : Int} (hg : 0 < g) (h : q * g = x) : q.natAbs ≤ x.natAbs := by
  rw [← h, Int.natAbs_mul]; exact Nat.le_mul_of_pos_right _ (by omega)

set_option maxHeartbeats 16000000 in
set_option maxRecDepth 100000 in
theorem addCanonical_at {w : World} {s1 s2 s3 s4 : Bool} {A1 A2 A3 A4 : Option Addr} {n1 c1 n2 c2 n3 c3 n4 c4 : Nat} {a b c d : Int} (h1 : CanAt w s1 A1 n1 c1 a) (h2 : CanAt w s2 A2 n2 c2 b) (h3 : CanAt w s3 A3 n3 c3 c) (h4 : CanAt w s4 A4 n4 c4 d)
    (za : Sz a 4000) (zb : Sz b 4000) (zc : Sz c 4000) (zd : Sz d 4000) (hb : 0 < b) (hd : 0 < d) (hab : Int.gcd a b = 1) (hcd : Int.gcd c d = 1) :
    Calls Try.prog 44 #[.agg #[.bool s1, .slice A1 n1 c1, .bool s2, .slice A2 n2 c2], .agg #[.bool s3, .slice A3 n3 c3, .bool s4, .slice A4 n4 c4]] w (RetFr w (rn (a * d + c * b) (b * d)) (rd (a * d + c * b) (b * d))) := by
  have H0 := (((((((St.start w).add h1).add h2).add h3).add h4).new 26 (Plains.four s1 A1 n1 c1 s2 A2 n2 c2)).new 26 (Plains.four s3 A3 n3 c3 s4 A4 n4 c4)).new 26 (Plains.four false none 0 0 false none 0 0)
  simp only [World.size_alloc] at H0
  have HH := Lib.hid H0
  clear H0 h1 h2 h3 h4
  obtain ⟨g, HG⟩ : ∃ v, Hid (((Int.gcd b d : Nat) : Int) = v) := ⟨_, rfl⟩
  obtain ⟨e, HE⟩ : ∃ v, Hid (dmQ b g = v) := ⟨_, rfl⟩
  obtain ⟨f, HF⟩ : ∃ v, Hid (dmQ d g = v) := ⟨_, rfl⟩
  obtain ⟨p, HP⟩ : ∃ v, Hid (a * f = v) := ⟨_, rfl⟩
  obtain ⟨q, HQ⟩ : ∃ v, Hid (c * e = v) := ⟨_, rfl⟩
  obtain ⟨t, HT⟩ : ∃ v, Hid (p + q = v) := ⟨_, rfl⟩
  obtain ⟨h, HHG⟩ : ∃ v, Hid (((Int.gcd t g : Nat) : Int) = v) := ⟨_, rfl⟩
  obtain ⟨x, HX⟩ : ∃ v, Hid (dmQ t h = v) := ⟨_, rfl⟩
  obtain ⟨y, HY⟩ : ∃ v, Hid (dmQ d h = v) := ⟨_, rfl⟩
  obtain ⟨v, HV⟩ : ∃ v, Hid (e * y = v) := ⟨_, rfl⟩
  have g0 : 0 < g := by rw [← HG.out]; have := Int.gcd_pos_iff.2 (Or.inr (show d ≠ 0 by omega) : b ≠ 0 ∨ d ≠ 0); omega
  have h0 : 0 < h := by rw [← HHG.out]; have := Int.gcd_pos_iff.2 (Or.inr (show g ≠ 0 by omega) : t ≠ 0 ∨ g ≠ 0); omega
  have gb : g ∣ b := by rw [← HG.out]; exact Int.gcd_dvd_left ..
  have gd : g ∣ d := by rw [← HG.out]; exact Int.gcd_dvd_right ..
  have ht : h ∣ t := by rw [← HHG.out]; exact Int.gcd_dvd_left ..
  have hg : h ∣ g := by rw [← HHG.out]; exact Int.gcd_dvd_right ..
  have eb := ediv_mul_of g0 gb HE.out
  have fd := ediv_mul_of g0 gd HF.out
  have xt := ediv_mul_of h0 ht HX.out
  have yd := ediv_mul_of h0 (Int.dvd_trans hg gd) HY.out
  have HEND : Hid (x = rn (a * d + c * b) (b * d) ∧ v = rd (a * d + c * b) (b * d)) := by
    have H : AddC a b c d g e f t h x y := by
      refine ⟨g0, eb.symm, fd.symm, ?_, by rw [HP.out, HQ.out, HT.out], h0, HHG.out, xt, yd⟩
      have h5 := Int.gcd_ediv_gcd_ediv_gcd (i := b) (j := d) (by have := HG.out; omega)
      rw [HG.out] at h5
      rw [← HE.out, ← HF.out, dmQ_pos g0, dmQ_pos g0]
      exact h5
    have := H.end_ hb hd hab hcd
    rw [HV.out] at this
    exact this
  rw [← HEND.out.1, ← HEND.out.2]
  have zg : Sz g 4000 := zd.le (by rw [← HG.out, Int.natAbs_natCast]; exact gcd_le_right (by omega))
  have ze : Sz e 4000 := zb.le (abs_of_mul g0 eb)
  have zf : Sz f 4000 := zd.le (abs_of_mul g0 fd)
  have zp : Sz p 8000 := by rw [← HP.out]; exact za.mul zf
  have zq : Sz q 8000 := by rw [← HQ.out]; exact zc.mul ze
  have zt : Sz t 8001 := by rw [← HT.out]; exact zp.add zq
  have zh : Sz h 4000 := zg.le (by rw [← HHG.out, Int.natAbs_natCast]; exact gcd_le_right (by omega))
  have zx : Sz x 8001 := zt.le (abs_of_mul h0 xt)
  have zy : Sz y 4000 := zd.le (abs_of_mul h0 yd)
  have ka := za.ok
  have kb := zb.ok
  have kc := zc.ok
  have kd := zd.ok
  have kg := zg.ok
  have ke := ze.ok
  have kf := zf.ok
  have kp := zp.ok
  have kq := zq.ok
  have kt := zt.ok
  have kh := zh.ok
  have ky := zy.ok
  clear gb gd ht hg eb fd xt yd hab hcd za zb zc zd zg ze zf zp zq zt zh zx zy hb hd g0 h0
  go_enter Try.func44, Try.ntmps44
  go_upto_region 2 with (first
    | (go_at_call 50; have K := HH.out; clear HH; have ib := K.ints.2.2.1.ci kb; have id := K.ints.1.ci kd; (with_reducible refine (gcd_at ib id).mono ?_); rw [HG.out]; rintro ee w5 ⟨C5, l5, q5, rfl, d5, u5, v5, g5⟩; have K5 := ((K.call g5).add (CanAt.mk_ d5 u5 v5)).new 24 (Plains.two (decide (g < 0)) C5 l5 q5))
    | fail)
  clear K ib id d5 g5
  generalize w5.alloc (.cells #[.bool (decide (g < 0)), .slice C5 l5 q5] 24) = W5 at K5 ⊢
  generalize w5.heap.size = h5 at K5 ⊢
  obtain ⟨⟨p0, p1⟩, _, _, ⟨p2, p3, p4, p5⟩, _⟩ := K5.facts
  have ib := K5.ints.2.2.2.1.ci kb
  have ig := K5.ints.1.ci kg
  go_upto_region 3 with (first
    | (go_at_call 40; (with_reducible refine (quotient_at ib ig).mono ?_); rw [HE.out]; rintro ee w6 ⟨C6, l6, q6, rfl, d6, u6, v6, g6⟩; have K6 := ((K5.call g6).add (CanAt.mk_ d6 u6 v6)).new 24 (Plains.two (decide (e < 0)) C6 l6 q6))
    | fail)
  clear K5 ib ig d6 g6 p0 p1 p2 p3 p4 p5
  generalize w6.alloc (.cells #[.bool (decide (e < 0)), .slice C6 l6 q6] 24) = W6 at K6 ⊢
  generalize w6.heap.size = h6 at K6 ⊢
  go_cut [7] (fun v7 wx => ∃ (h7 : Nat) (B4 : Option Addr) (m4 k4 : Nat), v7 = .pointer (some ⟨h7, 0, none⟩) ∧
    St w wx [vi h7 (decide (t < 0)) B4 m4 k4, vi h6 (decide (e < 0)) C6 l6 q6, vi h5 (decide (g < 0)) C5 l5 q5, vf (w.heap.size + 1 + 1) false none 0 0 false none 0 0, vf (w.heap.size + 1) s3 A3 n3 c3 s4 A4 n4 c4, vf w.heap.size s1 A1 n1 c1 s2 A2 n2 c2] [(decide (t < 0), B4, m4, k4, t, true), (decide (e < 0), C6, l6, q6, e, true), (decide (g < 0), C5, l5, q5, g, true), (s4, A4, n4, c4, d, true), (s3, A3, n3, c3, c, true), (s2, A2, n2, c2, b, true), (s1, A1, n1, c1, a, true)])
  case first =>
    have KZ := K6
    clear K6
    obtain ⟨⟨o0, o1⟩, ⟨o2, o3⟩, _, ⟨o4, o5, o6, o7⟩, ⟨o8, o9, oa, ob⟩, _⟩ := KZ.facts
    skip
    refine wp_region_held_drew (S := fun w' => w'.cell? ⟨h6, 0, none⟩ = some (.bool (decide (e < 0))) ∧ w'.cell? ⟨h6, 1, none⟩ = some (.slice C6 l6 q6) ∧ w'.cell? ⟨h5, 0, none⟩ = some (.bool (decide (g < 0))) ∧ w'.cell? ⟨h5, 1, none⟩ = some (.slice C5 l5 q5) ∧ w'.cell? ⟨w.heap.size + 1, 0, none⟩ = some (.bool s3) ∧ w'.cell? ⟨w.heap.size + 1, 1, none⟩ = some (.slice A3 n3 c3) ∧ w'.cell? ⟨w.heap.size + 1, 2, none⟩ = some (.bool s4) ∧ w'.cell? ⟨w.heap.size + 1, 3, none⟩ = some (.slice A4 n4 c4) ∧ w'.cell? ⟨w.heap.size, 0, none⟩ = some (.bool s1) ∧ w'.cell? ⟨w.heap.size, 1, none⟩ = some (.slice A1 n1 c1) ∧ w'.cell? ⟨w.heap.size, 2, none⟩ = some (.bool s2) ∧ w'.cell? ⟨w.heap.size, 3, none⟩ = some (.slice A2 n2 c2)) (by kernel_rfl) ?_ (fun hHeld0 => ?_)
    · ((try dsimp only); go_keep)
    refine wpAnyH_take (i := 0) (oi := ⟨some 18, _, _, _, _, _⟩) (v := ?_) rfl (by kernel_rfl) (by kernel_rfl) (by kernel_rfl) (fun _ _ _ h => h) (Or.inl ⟨by rfl, ?_⟩) (by assumption) ?_
    rotate_left
    · (intro w' hSw; (try dsimp only at hSw); go_simp; (try with_reducible rfl))
    (try simp only [Act.put, List.setIfInBounds_toArray, List.set_cons_zero, List.set_cons_succ])
    refine wpAnyH_take (i := 1) (oi := ⟨some 19, _, _, _, _, _⟩) (v := ?_) rfl (by kernel_rfl) (by kernel_rfl) (by kernel_rfl) (fun _ _ _ h => h) (Or.inl ⟨by rfl, ?_⟩) (by assumption) ?_
    rotate_left
    · (intro w' hSw; (try dsimp only at hSw); go_simp; (try with_reducible rfl))
    (try simp only [Act.put, List.setIfInBounds_toArray, List.set_cons_zero, List.set_cons_succ])
    refine wpAnyH_take (i := 2) (oi := ⟨some 20, _, _, _, _, _⟩) (v := ?_) rfl (by kernel_rfl) (by kernel_rfl) (by kernel_rfl) (fun _ _ _ h => h) (Or.inl ⟨by rfl, ?_⟩) (by assumption) ?_
    rotate_left
    · (intro w' hSw; (try dsimp only at hSw); go_simp; (try with_reducible rfl))
    (try simp only [Act.put, List.setIfInBounds_toArray, List.set_cons_zero, List.set_cons_succ])
    refine wpAnyH_take (i := 3) (oi := ⟨some 21, _, _, _, _, _⟩) (v := ?_) rfl (by kernel_rfl) (by kernel_rfl) (by kernel_rfl) (fun _ _ _ h => h) (Or.inl ⟨by rfl, ?_⟩) (by assumption) ?_
    rotate_left
    · (intro w' hSw; (try dsimp only at hSw); go_simp; (try with_reducible rfl))
    (try simp only [Act.put, List.setIfInBounds_toArray, List.set_cons_zero, List.set_cons_succ])
    refine wpAnyH_take (i := 4) (oi := ⟨some 22, _, _, _, _, _⟩) (v := ?_) rfl (by kernel_rfl) (by kernel_rfl) (by kernel_rfl) (fun _ _ _ h => h) (Or.inl ⟨by rfl, ?_⟩) (by assumption) ?_
    rotate_left
    · (intro w' hSw; (try dsimp only at hSw); go_simp; (try with_reducible rfl))
    (try simp only [Act.put, List.setIfInBounds_toArray, List.set_cons_zero, List.set_cons_succ])
    refine wpAnyH_take (i := 7) (oi := ⟨some 25, _, _, _, _, _⟩) (v := ?_) rfl (by kernel_rfl) (by kernel_rfl) (by kernel_rfl) (fun _ _ _ h => h) (Or.inl ⟨by rfl, ?_⟩) (by assumption) ?_
    rotate_left
    · (intro w' hSw; (try dsimp only at hSw); go_simp; (try with_reducible rfl))
    (try simp only [Act.put, List.setIfInBounds_toArray, List.set_cons_zero, List.set_cons_succ])
    refine wpAnyH_take (i := 8) (oi := ⟨some 26, _, _, _, _, _⟩) (v := ?_) rfl (by kernel_rfl) (by kernel_rfl) (by kernel_rfl) (fun _ _ _ h => h) (Or.inl ⟨by rfl, ?_⟩) (by assumption) ?_
    rotate_left
    · (intro w' hSw; (try dsimp only at hSw); go_simp; (try with_reducible rfl))
    (try simp only [Act.put, List.setIfInBounds_toArray, List.set_cons_zero, List.set_cons_succ])
    refine wpAnyH_take (i := 9) (oi := ⟨some 27, _, _, _, _, _⟩) (v := ?_) rfl (by kernel_rfl) (by kernel_rfl) (by kernel_rfl) (fun _ _ _ h => h) (Or.inl ⟨by rfl, ?_⟩) (by assumption) ?_
    rotate_left
    · (intro w' hSw; (try dsimp only at hSw); go_simp; (try with_reducible rfl))
    (try simp only [Act.put, List.setIfInBounds_toArray, List.set_cons_zero, List.set_cons_succ])
    refine wpAnyH_ready (rs := [5, 12]) (by kernel_rfl) (by simp) ?_
    refine AllReadyH.cons (o := ⟨some 23, _, _, _, _, _⟩) rfl (fun K hK => ?_) ?_
    · skip
      go_simp
      have iq1 := KZ.drew.ints.2.2.1.ci kd
      have iq2 := KZ.drew.ints.2.1.ci kg
      (go_at_call 40; (with_reducible refine (quotient_at iq1 iq2).mono ?_); rw [HF.out]; rintro ee w1 ⟨B1, m1, k1, rfl, d1, u1, v1, g1⟩)
      (try go_wp2_with fail)
      have K5 := (KZ.drew.call g1).add (CanAt.mk_ d1 u1 v1)
      clear o0 o1 o2 o3 o4 o5 o6 o7 o8 o9 oa ob
      obtain ⟨⟨p0c0n1, p0c1n1⟩, ⟨p1c0n1, p1c1n1⟩, _, ⟨p3c0n1, p3c1n1, p3c2n1, p3c3n1⟩, ⟨p4c0n1, p4c1n1, p4c2n1, p4c3n1⟩, _⟩ := K5.facts
      refine hK.out _ _ ?_ (fun hHeld1 => ?_)
      · ((try dsimp only); first | go_keep | (trace_state; fail))
      clear hK K hHeld0
      (try simp only [Act.put, List.setIfInBounds_toArray, List.set_cons_zero, List.set_cons_succ])
      refine wpAnyH_ready (rs := [6, 12]) (by kernel_rfl) (by simp) ?_
      refine AllReadyH.cons (o := ⟨some 24, _, _, _, _, _⟩) rfl (fun K hK => ?_) ?_
      · skip
        go_simp
        have iq3 := K5.ints.2.2.2.2.2.2.1.ci ka
        have iq4 := K5.ints.1.ci kf
        (go_at_call 34; (with_reducible refine (mul_at iq3 iq4).mono ?_); rw [HP.out]; rintro ee w2 ⟨B2, m2, k2, rfl, d2, u2, v2, g2⟩)
        (try go_wp2_with fail)
        have K6 := (K5.call g2).add (CanAt.mk_ d2 u2 v2)
        clear p0c0n1 p0c1n1 p1c0n1 p1c1n1 p3c0n1 p3c1n1 p3c2n1 p3c3n1 p4c0n1 p4c1n1 p4c2n1 p4c3n1
        obtain ⟨⟨p0c0n2, p0c1n2⟩, ⟨p1c0n2, p1c1n2⟩, _, ⟨p3c0n2, p3c1n2, p3c2n2, p3c3n2⟩, ⟨p4c0n2, p4c1n2, p4c2n2, p4c3n2⟩, _⟩ := K6.facts
        refine hK.out _ _ ?_ (fun hHeld2 => ?_)
        · ((try dsimp only); first | go_keep | (trace_state; fail))
        clear hK K hHeld1
        (try simp only [Act.put, List.setIfInBounds_toArray, List.set_cons_zero, List.set_cons_succ])
        refine wpAnyH_ready (rs := [10, 12]) (by kernel_rfl) (by simp) ?_
        refine AllReadyH.cons (o := ⟨some 28, _, _, _, _, _⟩) rfl (fun K hK => ?_) ?_
        · skip
          go_simp
          have iq5 := K6.ints.2.2.2.2.2.1.ci kc
          have iq6 := K6.ints.2.2.1.ci ke
          (go_at_call 34; (with_reducible refine (mul_at iq5 iq6).mono ?_); rw [HQ.out]; rintro ee w3 ⟨B3, m3, k3, rfl, d3, u3, v3, g3⟩)
          (try go_wp2_with fail)
          have K10 := (K6.call g3).add (CanAt.mk_ d3 u3 v3)
          clear p0c0n2 p0c1n2 p1c0n2 p1c1n2 p3c0n2 p3c1n2 p3c2n2 p3c3n2 p4c0n2 p4c1n2 p4c2n2 p4c3n2
          obtain ⟨⟨p0c0n3, p0c1n3⟩, ⟨p1c0n3, p1c1n3⟩, _, ⟨p3c0n3, p3c1n3, p3c2n3, p3c3n3⟩, ⟨p4c0n3, p4c1n3, p4c2n3, p4c3n3⟩, _⟩ := K10.facts
          refine hK.out _ _ ?_ (fun hHeld3 => ?_)
          · ((try dsimp only); first | go_keep | (trace_state; fail))
          clear hK K hHeld2
          (try simp only [Act.put, List.setIfInBounds_toArray, List.set_cons_zero, List.set_cons_succ])
          refine wpAnyH_ready (rs := [11, 12]) (by kernel_rfl) (by simp) ?_
          refine AllReadyH.cons (o := ⟨some 29, _, _, _, _, _⟩) rfl (fun K hK => ?_) ?_
          · skip
            go_simp
            have iq7 := K10.ints.2.1.ci kp
            have iq8 := K10.ints.1.ci kq
            (go_at_call 46; (with_reducible refine (add_at iq7 iq8).mono ?_); rw [HT.out]; rintro ee w4 ⟨B4, m4, k4, rfl, d4, u4, v4, g4⟩)
            (try go_wp2_with fail)
            have K11 := (K10.call g4).add (CanAt.mk_ d4 u4 v4)
            clear p0c0n3 p0c1n3 p1c0n3 p1c1n3 p3c0n3 p3c1n3 p3c2n3 p3c3n3 p4c0n3 p4c1n3 p4c2n3 p4c3n3
            obtain ⟨⟨p0c0n4, p0c1n4⟩, ⟨p1c0n4, p1c1n4⟩, _, ⟨p3c0n4, p3c1n4, p3c2n4, p3c3n4⟩, ⟨p4c0n4, p4c1n4, p4c2n4, p4c3n4⟩, _⟩ := K11.facts
            refine hK.out _ _ ?_ (fun hHeld4 => ?_)
            · ((try dsimp only); first | go_keep | (trace_state; fail))
            clear hK K hHeld3
            (try simp only [Act.put, List.setIfInBounds_toArray, List.set_cons_zero, List.set_cons_succ])
            refine wpAnyH_ready (rs := [12]) (by kernel_rfl) (by simp) ?_
            refine AllReadyH.cons (o := ⟨some 7, _, _, _, _, _⟩) rfl (fun K hK => ?_) AllReadyH.nil
            go_simp
            have KA12 := K11.new 24 (Plains.two false none 0 0)
            (try simp only [World.size_alloc] at KA12)
            obtain ⟨⟨b12x5, b12y5⟩, ⟨p0c0n5, p0c1n5⟩, ⟨p1c0n5, p1c1n5⟩, _, ⟨p3c0n5, p3c1n5, p3c2n5, p3c3n5⟩, ⟨p4c0n5, p4c1n5, p4c2n5, p4c3n5⟩, _⟩ := KA12.facts
            obtain ⟨f12x5, f12y5⟩ := KA12.free (i := 0) rfl
            obtain ⟨e12m0x5, e12m0y5⟩ := KA12.ne 0 1 rfl rfl (by decide)
            obtain ⟨e12m1x5, e12m1y5⟩ := KA12.ne 0 2 rfl rfl (by decide)
            obtain ⟨e12m3x5, e12m3y5⟩ := KA12.ne 0 4 rfl rfl (by decide)
            obtain ⟨e12m4x5, e12m4y5⟩ := KA12.ne 0 5 rfl rfl (by decide)
            refine hK.out _ _ ?_ (fun hHeld5 => ?_)
            · ((try dsimp only); first | go_keep | (trace_state; fail))
            clear hK K hHeld4
            (try simp only [Act.put, List.setIfInBounds_toArray, List.set_cons_zero, List.set_cons_succ])
            refine wpAnyH_ready (rs := [13]) (by kernel_rfl) (by simp) ?_
            refine AllReadyH.cons (o := ⟨none, _, _, _, _, _⟩) rfl (fun K hK => ?_) AllReadyH.nil
            go_simp
            refine hK.out _ _ ?_ (fun hHeld6 => ?_)
            · ((try dsimp only); first | go_keep | (trace_state; fail))
            clear hK K hHeld5
            (try simp only [Act.put, List.setIfInBounds_toArray, List.set_cons_zero, List.set_cons_succ])
            refine wpAnyH_done (by kernel_rfl) ?_ _
            go_wp2_with fail
            go_meet
            first | (have KF := (K11.new 24 (Plains.two (decide (t < 0)) B4 m4 k4)); (try simp only [List.set, World.size_alloc, World.size_setCell] at KF); have KG := KF; exact ⟨_, B4, m4, k4, rfl, KG.ints_ ⟨KG.ints.1, KG.ints.2.2.2.2.1, KG.ints.2.2.2.2.2.1, KG.ints.2.2.2.2.2.2.1, KG.ints.2.2.2.2.2.2.2.1, KG.ints.2.2.2.2.2.2.2.2.1, KG.ints.2.2.2.2.2.2.2.2.2.1, trivial⟩⟩) | (have KF := (K11.new 24 (Plains.two (decide (t < 0)) B4 m4 k4)); (try simp only [List.set, World.size_alloc, World.size_setCell] at KF); have KG := KF; exact ⟨_, B4, m4, k4, rfl, KG.ints_ ⟨KG.ints.1, KG.ints.2.2.2.2.1, KG.ints.2.2.2.2.2.1, KG.ints.2.2.2.2.2.2.1, KG.ints.2.2.2.2.2.2.2.1, KG.ints.2.2.2.2.2.2.2.2.1, KG.ints.2.2.2.2.2.2.2.2.2.1, trivial⟩⟩) | (have KF := ((K11.new 24 (Plains.two false none 0 0)).put 0 rfl (decide (t < 0)) B4 m4 k4); (try simp only [List.set, World.size_alloc, World.size_setCell] at KF); have KG := KF; exact ⟨_, B4, m4, k4, rfl, KG.ints_ ⟨KG.ints.1, KG.ints.2.2.2.2.1, KG.ints.2.2.2.2.2.1, KG.ints.2.2.2.2.2.2.1, KG.ints.2.2.2.2.2.2.2.1, KG.ints.2.2.2.2.2.2.2.2.1, KG.ints.2.2.2.2.2.2.2.2.2.1, trivial⟩⟩) | (trace_state; fail)
          refine AllReadyH.cons (o := ⟨some 7, _, _, _, _, _⟩) rfl (fun K hK => ?_) AllReadyH.nil
          go_simp
          have KA12 := K10.new 24 (Plains.two false none 0 0)
          (try simp only [World.size_alloc] at KA12)
          obtain ⟨⟨b12x4, b12y4⟩, ⟨p0c0n4, p0c1n4⟩, ⟨p1c0n4, p1c1n4⟩, _, ⟨p3c0n4, p3c1n4, p3c2n4, p3c3n4⟩, ⟨p4c0n4, p4c1n4, p4c2n4, p4c3n4⟩, _⟩ := KA12.facts
          obtain ⟨f12x4, f12y4⟩ := KA12.free (i := 0) rfl
          obtain ⟨e12m0x4, e12m0y4⟩ := KA12.ne 0 1 rfl rfl (by decide)
          obtain ⟨e12m1x4, e12m1y4⟩ := KA12.ne 0 2 rfl rfl (by decide)
          obtain ⟨e12m3x4, e12m3y4⟩ := KA12.ne 0 4 rfl rfl (by decide)
          obtain ⟨e12m4x4, e12m4y4⟩ := KA12.ne 0 5 rfl rfl (by decide)
          refine hK.out _ _ ?_ (fun hHeld4 => ?_)
          · ((try dsimp only); first | go_keep | (trace_state; fail))
          clear hK K hHeld3
          (try simp only [Act.put, List.setIfInBounds_toArray, List.set_cons_zero, List.set_cons_succ])
          refine wpAnyH_ready (rs := [11]) (by kernel_rfl) (by simp) ?_
          refine AllReadyH.cons (o := ⟨some 29, _, _, _, _, _⟩) rfl (fun K hK => ?_) AllReadyH.nil
          go_simp
          have iq7 := KA12.ints.2.1.ci kp
          have iq8 := KA12.ints.1.ci kq
          (go_at_call 46; (with_reducible refine (add_at iq7 iq8).mono ?_); rw [HT.out]; rintro ee w4 ⟨B4, m4, k4, rfl, d4, u4, v4, g4⟩)
          (try go_wp2_with fail)
          have K11 := (KA12.call g4).add (CanAt.mk_ d4 u4 v4)
          clear p0c0n3 p0c1n3 p1c0n3 p1c1n3 p3c0n3 p3c1n3 p3c2n3 p3c3n3 p4c0n3 p4c1n3 p4c2n3 p4c3n3 b12x4 b12y4 p0c0n4 p0c1n4 p1c0n4 p1c1n4 p3c0n4 p3c1n4 p3c2n4 p3c3n4 p4c0n4 p4c1n4 p4c2n4 p4c3n4 f12x4 f12y4 e12m0x4 e12m0y4 e12m1x4 e12m1y4 e12m3x4 e12m3y4 e12m4x4 e12m4y4
          obtain ⟨⟨b12x5, b12y5⟩, ⟨p0c0n5, p0c1n5⟩, ⟨p1c0n5, p1c1n5⟩, _, ⟨p3c0n5, p3c1n5, p3c2n5, p3c3n5⟩, ⟨p4c0n5, p4c1n5, p4c2n5, p4c3n5⟩, _⟩ := K11.facts
          obtain ⟨f12x5, f12y5⟩ := K11.free (i := 0) rfl
          obtain ⟨e12m0x5, e12m0y5⟩ := K11.ne 0 1 rfl rfl (by decide)
          obtain ⟨e12m1x5, e12m1y5⟩ := K11.ne 0 2 rfl rfl (by decide)
          obtain ⟨e12m3x5, e12m3y5⟩ := K11.ne 0 4 rfl rfl (by decide)
          obtain ⟨e12m4x5, e12m4y5⟩ := K11.ne 0 5 rfl rfl (by decide)
          refine hK.out _ _ ?_ (fun hHeld5 => ?_)
          · ((try dsimp only); first | go_keep | (trace_state; fail))
          clear hK K hHeld4
          (try simp only [Act.put, List.setIfInBounds_toArray, List.set_cons_zero, List.set_cons_succ])
          refine wpAnyH_ready (rs := [13]) (by kernel_rfl) (by simp) ?_
          refine AllReadyH.cons (o := ⟨none, _, _, _, _, _⟩) rfl (fun K hK => ?_) AllReadyH.nil
          go_simp
          refine hK.out _ _ ?_ (fun hHeld6 => ?_)
          · ((try dsimp only); first | go_keep | (trace_state; fail))
          clear hK K hHeld5
          (try simp only [Act.put, List.setIfInBounds_toArray, List.set_cons_zero, List.set_cons_succ])
          refine wpAnyH_done (by kernel_rfl) ?_ _
          go_wp2_with fail
          go_meet
          first | (have KF := (K11.put 0 rfl (decide (t < 0)) B4 m4 k4); (try simp only [List.set, World.size_alloc, World.size_setCell] at KF); have KG := KF; exact ⟨_, B4, m4, k4, rfl, KG.ints_ ⟨KG.ints.1, KG.ints.2.2.2.2.1, KG.ints.2.2.2.2.2.1, KG.ints.2.2.2.2.2.2.1, KG.ints.2.2.2.2.2.2.2.1, KG.ints.2.2.2.2.2.2.2.2.1, KG.ints.2.2.2.2.2.2.2.2.2.1, trivial⟩⟩) | (have KF := (K11.put 0 rfl (decide (t < 0)) B4 m4 k4); (try simp only [List.set, World.size_alloc, World.size_setCell] at KF); have KG := KF; exact ⟨_, B4, m4, k4, rfl, KG.ints_ ⟨KG.ints.1, KG.ints.2.2.2.2.1, KG.ints.2.2.2.2.2.1, KG.ints.2.2.2.2.2.2.1, KG.ints.2.2.2.2.2.2.2.1, KG.ints.2.2.2.2.2.2.2.2.1, KG.ints.2.2.2.2.2.2.2.2.2.1, trivial⟩⟩) | (have KF := (K11.put 0 rfl (decide (t < 0)) B4 m4 k4); (try simp only [List.set, World.size_alloc, World.size_setCell] at KF); have KG := KF; exact ⟨_, B4, m4, k4, rfl, KG.ints_ ⟨KG.ints.1, KG.ints.2.2.2.2.1, KG.ints.2.2.2.2.2.1, KG.ints.2.2.2.2.2.2.1, KG.ints.2.2.2.2.2.2.2.1, KG.ints.2.2.2.2.2.2.2.2.1, KG.ints.2.2.2.2.2.2.2.2.2.1, trivial⟩⟩) | (trace_state; fail)
        refine AllReadyH.cons (o := ⟨some 7, _, _, _, _, _⟩) rfl (fun K hK => ?_) AllReadyH.nil
        go_simp
        have KA12 := K6.new 24 (Plains.two false none 0 0)
        (try simp only [World.size_alloc] at KA12)
        obtain ⟨⟨b12x3, b12y3⟩, ⟨p0c0n3, p0c1n3⟩, ⟨p1c0n3, p1c1n3⟩, _, ⟨p3c0n3, p3c1n3, p3c2n3, p3c3n3⟩, ⟨p4c0n3, p4c1n3, p4c2n3, p4c3n3⟩, _⟩ := KA12.facts
        obtain ⟨f12x3, f12y3⟩ := KA12.free (i := 0) rfl
        obtain ⟨e12m0x3, e12m0y3⟩ := KA12.ne 0 1 rfl rfl (by decide)
        obtain ⟨e12m1x3, e12m1y3⟩ := KA12.ne 0 2 rfl rfl (by decide)
        obtain ⟨e12m3x3, e12m3y3⟩ := KA12.ne 0 4 rfl rfl (by decide)
        obtain ⟨e12m4x3, e12m4y3⟩ := KA12.ne 0 5 rfl rfl (by decide)
        refine hK.out _ _ ?_ (fun hHeld3 => ?_)
        · ((try dsimp only); first | go_keep | (trace_state; fail))
        clear hK K hHeld2
        (try simp only [Act.put, List.setIfInBounds_toArray, List.set_cons_zero, List.set_cons_succ])
        refine wpAnyH_ready (rs := [10]) (by kernel_rfl) (by simp) ?_
        refine AllReadyH.cons (o := ⟨some 28, _, _, _, _, _⟩) rfl (fun K hK => ?_) AllReadyH.nil
        go_simp
        have iq5 := KA12.ints.2.2.2.2.2.1.ci kc
        have iq6 := KA12.ints.2.2.1.ci ke
        (go_at_call 34; (with_reducible refine (mul_at iq5 iq6).mono ?_); rw [HQ.out]; rintro ee w3 ⟨B3, m3, k3, rfl, d3, u3, v3, g3⟩)
        (try go_wp2_with fail)
        have K10 := (KA12.call g3).add (CanAt.mk_ d3 u3 v3)
        clear p0c0n2 p0c1n2 p1c0n2 p1c1n2 p3c0n2 p3c1n2 p3c2n2 p3c3n2 p4c0n2 p4c1n2 p4c2n2 p4c3n2 b12x3 b12y3 p0c0n3 p0c1n3 p1c0n3 p1c1n3 p3c0n3 p3c1n3 p3c2n3 p3c3n3 p4c0n3 p4c1n3 p4c2n3 p4c3n3 f12x3 f12y3 e12m0x3 e12m0y3 e12m1x3 e12m1y3 e12m3x3 e12m3y3 e12m4x3 e12m4y3
        obtain ⟨⟨b12x4, b12y4⟩, ⟨p0c0n4, p0c1n4⟩, ⟨p1c0n4, p1c1n4⟩, _, ⟨p3c0n4, p3c1n4, p3c2n4, p3c3n4⟩, ⟨p4c0n4, p4c1n4, p4c2n4, p4c3n4⟩, _⟩ := K10.facts
        obtain ⟨f12x4, f12y4⟩ := K10.free (i := 0) rfl
        obtain ⟨e12m0x4, e12m0y4⟩ := K10.ne 0 1 rfl rfl (by decide)
        obtain ⟨e12m1x4, e12m1y4⟩ := K10.ne 0 2 rfl rfl (by decide)
        obtain ⟨e12m3x4, e12m3y4⟩ := K10.ne 0 4 rfl rfl (by decide)
        obtain ⟨e12m4x4, e12m4y4⟩ := K10.ne 0 5 rfl rfl (by decide)
        refine hK.out _ _ ?_ (fun hHeld4 => ?_)
        · ((try dsimp only); first | go_keep | (trace_state; fail))
        clear hK K hHeld3
        (try simp only [Act.put, List.setIfInBounds_toArray, List.set_cons_zero, List.set_cons_succ])
        refine wpAnyH_ready (rs := [11]) (by kernel_rfl) (by simp) ?_
        refine AllReadyH.cons (o := ⟨some 29, _, _, _, _, _⟩) rfl (fun K hK => ?_) AllReadyH.nil
        go_simp
        have iq7 := K10.ints.2.1.ci kp
        have iq8 := K10.ints.1.ci kq
        (go_at_call 46; (with_reducible refine (add_at iq7 iq8).mono ?_); rw [HT.out]; rintro ee w4 ⟨B4, m4, k4, rfl, d4, u4, v4, g4⟩)
        (try go_wp2_with fail)
        have K11 := (K10.call g4).add (CanAt.mk_ d4 u4 v4)
        clear b12x4 b12y4 p0c0n4 p0c1n4 p1c0n4 p1c1n4 p3c0n4 p3c1n4 p3c2n4 p3c3n4 p4c0n4 p4c1n4 p4c2n4 p4c3n4 f12x4 f12y4 e12m0x4 e12m0y4 e12m1x4 e12m1y4 e12m3x4 e12m3y4 e12m4x4 e12m4y4
        obtain ⟨⟨b12x5, b12y5⟩, ⟨p0c0n5, p0c1n5⟩, ⟨p1c0n5, p1c1n5⟩, _, ⟨p3c0n5, p3c1n5, p3c2n5, p3c3n5⟩, ⟨p4c0n5, p4c1n5, p4c2n5, p4c3n5⟩, _⟩ := K11.facts
        obtain ⟨f12x5, f12y5⟩ := K11.free (i := 0) rfl
        obtain ⟨e12m0x5, e12m0y5⟩ := K11.ne 0 1 rfl rfl (by decide)
        obtain ⟨e12m1x5, e12m1y5⟩ := K11.ne 0 2 rfl rfl (by decide)
        obtain ⟨e12m3x5, e12m3y5⟩ := K11.ne 0 4 rfl rfl (by decide)
        obtain ⟨e12m4x5, e12m4y5⟩ := K11.ne 0 5 rfl rfl (by decide)
        refine hK.out _ _ ?_ (fun hHeld5 => ?_)
        · ((try dsimp only); first | go_keep | (trace_state; fail))
        clear hK K hHeld4
        (try simp only [Act.put, List.setIfInBounds_toArray, List.set_cons_zero, List.set_cons_succ])
        refine wpAnyH_ready (rs := [13]) (by kernel_rfl) (by simp) ?_
        refine AllReadyH.cons (o := ⟨none, _, _, _, _, _⟩) rfl (fun K hK => ?_) AllReadyH.nil
        go_simp
        refine hK.out _ _ ?_ (fun hHeld6 => ?_)
        · ((try dsimp only); first | go_keep | (trace_state; fail))
        clear hK K hHeld5
        (try simp only [Act.put, List.setIfInBounds_toArray, List.set_cons_zero, List.set_cons_succ])
        refine wpAnyH_done (by kernel_rfl) ?_ _
        go_wp2_with fail
        go_meet
        first | (have KF := (K11.put 0 rfl (decide (t < 0)) B4 m4 k4); (try simp only [List.set, World.size_alloc, World.size_setCell] at KF); have KG := KF; exact ⟨_, B4, m4, k4, rfl, KG.ints_ ⟨KG.ints.1, KG.ints.2.2.2.2.1, KG.ints.2.2.2.2.2.1, KG.ints.2.2.2.2.2.2.1, KG.ints.2.2.2.2.2.2.2.1, KG.ints.2.2.2.2.2.2.2.2.1, KG.ints.2.2.2.2.2.2.2.2.2.1, trivial⟩⟩) | (have KF := (K11.put 0 rfl (decide (t < 0)) B4 m4 k4); (try simp only [List.set, World.size_alloc, World.size_setCell] at KF); have KG := KF; exact ⟨_, B4, m4, k4, rfl, KG.ints_ ⟨KG.ints.1, KG.ints.2.2.2.2.1, KG.ints.2.2.2.2.2.1, KG.ints.2.2.2.2.2.2.1, KG.ints.2.2.2.2.2.2.2.1, KG.ints.2.2.2.2.2.2.2.2.1, KG.ints.2.2.2.2.2.2.2.2.2.1, trivial⟩⟩) | (have KF := (K11.put 0 rfl (decide (t < 0)) B4 m4 k4); (try simp only [List.set, World.size_alloc, World.size_setCell] at KF); have KG := KF; exact ⟨_, B4, m4, k4, rfl, KG.ints_ ⟨KG.ints.1, KG.ints.2.2.2.2.1, KG.ints.2.2.2.2.2.1, KG.ints.2.2.2.2.2.2.1, KG.ints.2.2.2.2.2.2.2.1, KG.ints.2.2.2.2.2.2.2.2.1, KG.ints.2.2.2.2.2.2.2.2.2.1, trivial⟩⟩) | (trace_state; fail)
      refine AllReadyH.cons (o := ⟨some 7, _, _, _, _, _⟩) rfl (fun K hK => ?_) AllReadyH.nil
      go_simp
      have KA12 := K5.new 24 (Plains.two false none 0 0)
      (try simp only [World.size_alloc] at KA12)
      obtain ⟨⟨b12x2, b12y2⟩, ⟨p0c0n2, p0c1n2⟩, ⟨p1c0n2, p1c1n2⟩, _, ⟨p3c0n2, p3c1n2, p3c2n2, p3c3n2⟩, ⟨p4c0n2, p4c1n2, p4c2n2, p4c3n2⟩, _⟩ := KA12.facts
      obtain ⟨f12x2, f12y2⟩ := KA12.free (i := 0) rfl
      obtain ⟨e12m0x2, e12m0y2⟩ := KA12.ne 0 1 rfl rfl (by decide)
      obtain ⟨e12m1x2, e12m1y2⟩ := KA12.ne 0 2 rfl rfl (by decide)
      obtain ⟨e12m3x2, e12m3y2⟩ := KA12.ne 0 4 rfl rfl (by decide)
      obtain ⟨e12m4x2, e12m4y2⟩ := KA12.ne 0 5 rfl rfl (by decide)
      refine hK.out _ _ ?_ (fun hHeld2 => ?_)
      · ((try dsimp only); first | go_keep | (trace_state; fail))
      clear hK K hHeld1
      (try simp only [Act.put, List.setIfInBounds_toArray, List.set_cons_zero, List.set_cons_succ])
      refine wpAnyH_ready (rs := [6]) (by kernel_rfl) (by simp) ?_
      refine AllReadyH.cons (o := ⟨some 24, _, _, _, _, _⟩) rfl (fun K hK => ?_) AllReadyH.nil
      go_simp
      have iq3 := KA12.ints.2.2.2.2.2.2.1.ci ka
      have iq4 := KA12.ints.1.ci kf
      (go_at_call 34; (with_reducible refine (mul_at iq3 iq4).mono ?_); rw [HP.out]; rintro ee w2 ⟨B2, m2, k2, rfl, d2, u2, v2, g2⟩)
      (try go_wp2_with fail)
      have K6 := (KA12.call g2).add (CanAt.mk_ d2 u2 v2)
      clear p0c0n1 p0c1n1 p1c0n1 p1c1n1 p3c0n1 p3c1n1 p3c2n1 p3c3n1 p4c0n1 p4c1n1 p4c2n1 p4c3n1 b12x2 b12y2 p0c0n2 p0c1n2 p1c0n2 p1c1n2 p3c0n2 p3c1n2 p3c2n2 p3c3n2 p4c0n2 p4c1n2 p4c2n2 p4c3n2 f12x2 f12y2 e12m0x2 e12m0y2 e12m1x2 e12m1y2 e12m3x2 e12m3y2 e12m4x2 e12m4y2
      obtain ⟨⟨b12x3, b12y3⟩, ⟨p0c0n3, p0c1n3⟩, ⟨p1c0n3, p1c1n3⟩, _, ⟨p3c0n3, p3c1n3, p3c2n3, p3c3n3⟩, ⟨p4c0n3, p4c1n3, p4c2n3, p4c3n3⟩, _⟩ := K6.facts
      obtain ⟨f12x3, f12y3⟩ := K6.free (i := 0) rfl
      obtain ⟨e12m0x3, e12m0y3⟩ := K6.ne 0 1 rfl rfl (by decide)
      obtain ⟨e12m1x3, e12m1y3⟩ := K6.ne 0 2 rfl rfl (by decide)
      obtain ⟨e12m3x3, e12m3y3⟩ := K6.ne 0 4 rfl rfl (by decide)
      obtain ⟨e12m4x3, e12m4y3⟩ := K6.ne 0 5 rfl rfl (by decide)
      refine hK.out _ _ ?_ (fun hHeld3 => ?_)
      · ((try dsimp only); first | go_keep | (trace_state; fail))
      clear hK K hHeld2
      (try simp only [Act.put, List.setIfInBounds_toArray, List.set_cons_zero, List.set_cons_succ])
      refine wpAnyH_ready (rs := [10]) (by kernel_rfl) (by simp) ?_
      refine AllReadyH.cons (o := ⟨some 28, _, _, _, _, _⟩) rfl (fun K hK => ?_) AllReadyH.nil
      go_simp
      have iq5 := K6.ints.2.2.2.2.2.1.ci kc
      have iq6 := K6.ints.2.2.1.ci ke
      (go_at_call 34; (with_reducible refine (mul_at iq5 iq6).mono ?_); rw [HQ.out]; rintro ee w3 ⟨B3, m3, k3, rfl, d3, u3, v3, g3⟩)
      (try go_wp2_with fail)
      have K10 := (K6.call g3).add (CanAt.mk_ d3 u3 v3)
      clear b12x3 b12y3 p0c0n3 p0c1n3 p1c0n3 p1c1n3 p3c0n3 p3c1n3 p3c2n3 p3c3n3 p4c0n3 p4c1n3 p4c2n3 p4c3n3 f12x3 f12y3 e12m0x3 e12m0y3 e12m1x3 e12m1y3 e12m3x3 e12m3y3 e12m4x3 e12m4y3
      obtain ⟨⟨b12x4, b12y4⟩, ⟨p0c0n4, p0c1n4⟩, ⟨p1c0n4, p1c1n4⟩, _, ⟨p3c0n4, p3c1n4, p3c2n4, p3c3n4⟩, ⟨p4c0n4, p4c1n4, p4c2n4, p4c3n4⟩, _⟩ := K10.facts
      obtain ⟨f12x4, f12y4⟩ := K10.free (i := 0) rfl
      obtain ⟨e12m0x4, e12m0y4⟩ := K10.ne 0 1 rfl rfl (by decide)
      obtain ⟨e12m1x4, e12m1y4⟩ := K10.ne 0 2 rfl rfl (by decide)
      obtain ⟨e12m3x4, e12m3y4⟩ := K10.ne 0 4 rfl rfl (by decide)
      obtain ⟨e12m4x4, e12m4y4⟩ := K10.ne 0 5 rfl rfl (by decide)
      refine hK.out _ _ ?_ (fun hHeld4 => ?_)
      · ((try dsimp only); first | go_keep | (trace_state; fail))
      clear hK K hHeld3
      (try simp only [Act.put, List.setIfInBounds_toArray, List.set_cons_zero, List.set_cons_succ])
      refine wpAnyH_ready (rs := [11]) (by kernel_rfl) (by simp) ?_
      refine AllReadyH.cons (o := ⟨some 29, _, _, _, _, _⟩) rfl (fun K hK => ?_) AllReadyH.nil
      go_simp
      have iq7 := K10.ints.2.1.ci kp
      have iq8 := K10.ints.1.ci kq
      (go_at_call 46; (with_reducible refine (add_at iq7 iq8).mono ?_); rw [HT.out]; rintro ee w4 ⟨B4, m4, k4, rfl, d4, u4, v4, g4⟩)
      (try go_wp2_with fail)
      have K11 := (K10.call g4).add (CanAt.mk_ d4 u4 v4)
      clear b12x4 b12y4 p0c0n4 p0c1n4 p1c0n4 p1c1n4 p3c0n4 p3c1n4 p3c2n4 p3c3n4 p4c0n4 p4c1n4 p4c2n4 p4c3n4 f12x4 f12y4 e12m0x4 e12m0y4 e12m1x4 e12m1y4 e12m3x4 e12m3y4 e12m4x4 e12m4y4
      obtain ⟨⟨b12x5, b12y5⟩, ⟨p0c0n5, p0c1n5⟩, ⟨p1c0n5, p1c1n5⟩, _, ⟨p3c0n5, p3c1n5, p3c2n5, p3c3n5⟩, ⟨p4c0n5, p4c1n5, p4c2n5, p4c3n5⟩, _⟩ := K11.facts
      obtain ⟨f12x5, f12y5⟩ := K11.free (i := 0) rfl
      obtain ⟨e12m0x5, e12m0y5⟩ := K11.ne 0 1 rfl rfl (by decide)
      obtain ⟨e12m1x5, e12m1y5⟩ := K11.ne 0 2 rfl rfl (by decide)
      obtain ⟨e12m3x5, e12m3y5⟩ := K11.ne 0 4 rfl rfl (by decide)
      obtain ⟨e12m4x5, e12m4y5⟩ := K11.ne 0 5 rfl rfl (by decide)
      refine hK.out _ _ ?_ (fun hHeld5 => ?_)
      · ((try dsimp only); first | go_keep | (trace_state; fail))
      clear hK K hHeld4
      (try simp only [Act.put, List.setIfInBounds_toArray, List.set_cons_zero, List.set_cons_succ])
      refine wpAnyH_ready (rs := [13]) (by kernel_rfl) (by simp) ?_
      refine AllReadyH.cons (o := ⟨none, _, _, _, _, _⟩) rfl (fun K hK => ?_) AllReadyH.nil
      go_simp
      refine hK.out _ _ ?_ (fun hHeld6 => ?_)
      · ((try dsimp only); first | go_keep | (trace_state; fail))
      clear hK K hHeld5
      (try simp only [Act.put, List.setIfInBounds_toArray, List.set_cons_zero, List.set_cons_succ])
      refine wpAnyH_done (by kernel_rfl) ?_ _
      go_wp2_with fail
      go_meet
      first | (have KF := (K11.put 0 rfl (decide (t < 0)) B4 m4 k4); (try simp only [List.set, World.size_alloc, World.size_setCell] at KF); have KG := KF; exact ⟨_, B4, m4, k4, rfl, KG.ints_ ⟨KG.ints.1, KG.ints.2.2.2.2.1, KG.ints.2.2.2.2.2.1, KG.ints.2.2.2.2.2.2.1, KG.ints.2.2.2.2.2.2.2.1, KG.ints.2.2.2.2.2.2.2.2.1, KG.ints.2.2.2.2.2.2.2.2.2.1, trivial⟩⟩) | (have KF := (K11.put 0 rfl (decide (t < 0)) B4 m4 k4); (try simp only [List.set, World.size_alloc, World.size_setCell] at KF); have KG := KF; exact ⟨_, B4, m4, k4, rfl, KG.ints_ ⟨KG.ints.1, KG.ints.2.2.2.2.1, KG.ints.2.2.2.2.2.1, KG.ints.2.2.2.2.2.2.1, KG.ints.2.2.2.2.2.2.2.1, KG.ints.2.2.2.2.2.2.2.2.1, KG.ints.2.2.2.2.2.2.2.2.2.1, trivial⟩⟩) | (have KF := (K11.put 0 rfl (decide (t < 0)) B4 m4 k4); (try simp only [List.set, World.size_alloc, World.size_setCell] at KF); have KG := KF; exact ⟨_, B4, m4, k4, rfl, KG.ints_ ⟨KG.ints.1, KG.ints.2.2.2.2.1, KG.ints.2.2.2.2.2.1, KG.ints.2.2.2.2.2.2.1, KG.ints.2.2.2.2.2.2.2.1, KG.ints.2.2.2.2.2.2.2.2.1, KG.ints.2.2.2.2.2.2.2.2.2.1, trivial⟩⟩) | (trace_state; fail)
    refine AllReadyH.cons (o := ⟨some 7, _, _, _, _, _⟩) rfl (fun K hK => ?_) AllReadyH.nil
    go_simp
    have KA12 := KZ.new 24 (Plains.two false none 0 0)
    (try simp only [World.size_alloc] at KA12)
    obtain ⟨⟨b12x1, b12y1⟩, ⟨p0c0n1, p0c1n1⟩, ⟨p1c0n1, p1c1n1⟩, _, ⟨p3c0n1, p3c1n1, p3c2n1, p3c3n1⟩, ⟨p4c0n1, p4c1n1, p4c2n1, p4c3n1⟩, _⟩ := KA12.facts
    obtain ⟨f12x1, f12y1⟩ := KA12.free (i := 0) rfl
    obtain ⟨e12m0x1, e12m0y1⟩ := KA12.ne 0 1 rfl rfl (by decide)
    obtain ⟨e12m1x1, e12m1y1⟩ := KA12.ne 0 2 rfl rfl (by decide)
    obtain ⟨e12m3x1, e12m3y1⟩ := KA12.ne 0 4 rfl rfl (by decide)
    obtain ⟨e12m4x1, e12m4y1⟩ := KA12.ne 0 5 rfl rfl (by decide)
    refine hK.out _ _ ?_ (fun hHeld1 => ?_)
    · ((try dsimp only); first | go_keep | (trace_state; fail))
    clear hK K hHeld0
    (try simp only [Act.put, List.setIfInBounds_toArray, List.set_cons_zero, List.set_cons_succ])
    refine wpAnyH_ready (rs := [5]) (by kernel_rfl) (by simp) ?_
    refine AllReadyH.cons (o := ⟨some 23, _, _, _, _, _⟩) rfl (fun K hK => ?_) AllReadyH.nil
    go_simp
    have iq1 := KA12.drew.ints.2.2.1.ci kd
    have iq2 := KA12.drew.ints.2.1.ci kg
    (go_at_call 40; (with_reducible refine (quotient_at iq1 iq2).mono ?_); rw [HF.out]; rintro ee w1 ⟨B1, m1, k1, rfl, d1, u1, v1, g1⟩)
    (try go_wp2_with fail)
    have K5 := (KA12.drew.call g1).add (CanAt.mk_ d1 u1 v1)
    clear o0 o1 o2 o3 o4 o5 o6 o7 o8 o9 oa ob b12x1 b12y1 p0c0n1 p0c1n1 p1c0n1 p1c1n1 p3c0n1 p3c1n1 p3c2n1 p3c3n1 p4c0n1 p4c1n1 p4c2n1 p4c3n1 f12x1 f12y1 e12m0x1 e12m0y1 e12m1x1 e12m1y1 e12m3x1 e12m3y1 e12m4x1 e12m4y1
    obtain ⟨⟨b12x2, b12y2⟩, ⟨p0c0n2, p0c1n2⟩, ⟨p1c0n2, p1c1n2⟩, _, ⟨p3c0n2, p3c1n2, p3c2n2, p3c3n2⟩, ⟨p4c0n2, p4c1n2, p4c2n2, p4c3n2⟩, _⟩ := K5.facts
    obtain ⟨f12x2, f12y2⟩ := K5.free (i := 0) rfl
    obtain ⟨e12m0x2, e12m0y2⟩ := K5.ne 0 1 rfl rfl (by decide)
    obtain ⟨e12m1x2, e12m1y2⟩ := K5.ne 0 2 rfl rfl (by decide)
    obtain ⟨e12m3x2, e12m3y2⟩ := K5.ne 0 4 rfl rfl (by decide)
    obtain ⟨e12m4x2, e12m4y2⟩ := K5.ne 0 5 rfl rfl (by decide)
    refine hK.out _ _ ?_ (fun hHeld2 => ?_)
    · ((try dsimp only); first | go_keep | (trace_state; fail))
    clear hK K hHeld1
    (try simp only [Act.put, List.setIfInBounds_toArray, List.set_cons_zero, List.set_cons_succ])
    refine wpAnyH_ready (rs := [6]) (by kernel_rfl) (by simp) ?_
    refine AllReadyH.cons (o := ⟨some 24, _, _, _, _, _⟩) rfl (fun K hK => ?_) AllReadyH.nil
    go_simp
    have iq3 := K5.ints.2.2.2.2.2.2.1.ci ka
    have iq4 := K5.ints.1.ci kf
    (go_at_call 34; (with_reducible refine (mul_at iq3 iq4).mono ?_); rw [HP.out]; rintro ee w2 ⟨B2, m2, k2, rfl, d2, u2, v2, g2⟩)
    (try go_wp2_with fail)
    have K6 := (K5.call g2).add (CanAt.mk_ d2 u2 v2)
    clear b12x2 b12y2 p0c0n2 p0c1n2 p1c0n2 p1c1n2 p3c0n2 p3c1n2 p3c2n2 p3c3n2 p4c0n2 p4c1n2 p4c2n2 p4c3n2 f12x2 f12y2 e12m0x2 e12m0y2 e12m1x2 e12m1y2 e12m3x2 e12m3y2 e12m4x2 e12m4y2
    obtain ⟨⟨b12x3, b12y3⟩, ⟨p0c0n3, p0c1n3⟩, ⟨p1c0n3, p1c1n3⟩, _, ⟨p3c0n3, p3c1n3, p3c2n3, p3c3n3⟩, ⟨p4c0n3, p4c1n3, p4c2n3, p4c3n3⟩, _⟩ := K6.facts
    obtain ⟨f12x3, f12y3⟩ := K6.free (i := 0) rfl
    obtain ⟨e12m0x3, e12m0y3⟩ := K6.ne 0 1 rfl rfl (by decide)
    obtain ⟨e12m1x3, e12m1y3⟩ := K6.ne 0 2 rfl rfl (by decide)
    obtain ⟨e12m3x3, e12m3y3⟩ := K6.ne 0 4 rfl rfl (by decide)
    obtain ⟨e12m4x3, e12m4y3⟩ := K6.ne 0 5 rfl rfl (by decide)
    refine hK.out _ _ ?_ (fun hHeld3 => ?_)
    · ((try dsimp only); first | go_keep | (trace_state; fail))
    clear hK K hHeld2
    (try simp only [Act.put, List.setIfInBounds_toArray, List.set_cons_zero, List.set_cons_succ])
    refine wpAnyH_ready (rs := [10]) (by kernel_rfl) (by simp) ?_
    refine AllReadyH.cons (o := ⟨some 28, _, _, _, _, _⟩) rfl (fun K hK => ?_) AllReadyH.nil
    go_simp
    have iq5 := K6.ints.2.2.2.2.2.1.ci kc
    have iq6 := K6.ints.2.2.1.ci ke
    (go_at_call 34; (with_reducible refine (mul_at iq5 iq6).mono ?_); rw [HQ.out]; rintro ee w3 ⟨B3, m3, k3, rfl, d3, u3, v3, g3⟩)
    (try go_wp2_with fail)
    have K10 := (K6.call g3).add (CanAt.mk_ d3 u3 v3)
    clear b12x3 b12y3 p0c0n3 p0c1n3 p1c0n3 p1c1n3 p3c0n3 p3c1n3 p3c2n3 p3c3n3 p4c0n3 p4c1n3 p4c2n3 p4c3n3 f12x3 f12y3 e12m0x3 e12m0y3 e12m1x3 e12m1y3 e12m3x3 e12m3y3 e12m4x3 e12m4y3
    obtain ⟨⟨b12x4, b12y4⟩, ⟨p0c0n4, p0c1n4⟩, ⟨p1c0n4, p1c1n4⟩, _, ⟨p3c0n4, p3c1n4, p3c2n4, p3c3n4⟩, ⟨p4c0n4, p4c1n4, p4c2n4, p4c3n4⟩, _⟩ := K10.facts
    obtain ⟨f12x4, f12y4⟩ := K10.free (i := 0) rfl
    obtain ⟨e12m0x4, e12m0y4⟩ := K10.ne 0 1 rfl rfl (by decide)
    obtain ⟨e12m1x4, e12m1y4⟩ := K10.ne 0 2 rfl rfl (by decide)
    obtain ⟨e12m3x4, e12m3y4⟩ := K10.ne 0 4 rfl rfl (by decide)
    obtain ⟨e12m4x4, e12m4y4⟩ := K10.ne 0 5 rfl rfl (by decide)
    refine hK.out _ _ ?_ (fun hHeld4 => ?_)
    · ((try dsimp only); first | go_keep | (trace_state; fail))
    clear hK K hHeld3
    (try simp only [Act.put, List.setIfInBounds_toArray, List.set_cons_zero, List.set_cons_succ])
    refine wpAnyH_ready (rs := [11]) (by kernel_rfl) (by simp) ?_
    refine AllReadyH.cons (o := ⟨some 29, _, _, _, _, _⟩) rfl (fun K hK => ?_) AllReadyH.nil
    go_simp
    have iq7 := K10.ints.2.1.ci kp
    have iq8 := K10.ints.1.ci kq
    (go_at_call 46; (with_reducible refine (add_at iq7 iq8).mono ?_); rw [HT.out]; rintro ee w4 ⟨B4, m4, k4, rfl, d4, u4, v4, g4⟩)
    (try go_wp2_with fail)
    have K11 := (K10.call g4).add (CanAt.mk_ d4 u4 v4)
    clear b12x4 b12y4 p0c0n4 p0c1n4 p1c0n4 p1c1n4 p3c0n4 p3c1n4 p3c2n4 p3c3n4 p4c0n4 p4c1n4 p4c2n4 p4c3n4 f12x4 f12y4 e12m0x4 e12m0y4 e12m1x4 e12m1y4 e12m3x4 e12m3y4 e12m4x4 e12m4y4
    obtain ⟨⟨b12x5, b12y5⟩, ⟨p0c0n5, p0c1n5⟩, ⟨p1c0n5, p1c1n5⟩, _, ⟨p3c0n5, p3c1n5, p3c2n5, p3c3n5⟩, ⟨p4c0n5, p4c1n5, p4c2n5, p4c3n5⟩, _⟩ := K11.facts
    obtain ⟨f12x5, f12y5⟩ := K11.free (i := 0) rfl
    obtain ⟨e12m0x5, e12m0y5⟩ := K11.ne 0 1 rfl rfl (by decide)
    obtain ⟨e12m1x5, e12m1y5⟩ := K11.ne 0 2 rfl rfl (by decide)
    obtain ⟨e12m3x5, e12m3y5⟩ := K11.ne 0 4 rfl rfl (by decide)
    obtain ⟨e12m4x5, e12m4y5⟩ := K11.ne 0 5 rfl rfl (by decide)
    refine hK.out _ _ ?_ (fun hHeld5 => ?_)
    · ((try dsimp only); first | go_keep | (trace_state; fail))
    clear hK K hHeld4
    (try simp only [Act.put, List.setIfInBounds_toArray, List.set_cons_zero, List.set_cons_succ])
    refine wpAnyH_ready (rs := [13]) (by kernel_rfl) (by simp) ?_
    refine AllReadyH.cons (o := ⟨none, _, _, _, _, _⟩) rfl (fun K hK => ?_) AllReadyH.nil
    go_simp
    refine hK.out _ _ ?_ (fun hHeld6 => ?_)
    · ((try dsimp only); first | go_keep | (trace_state; fail))
    clear hK K hHeld5
    (try simp only [Act.put, List.setIfInBounds_toArray, List.set_cons_zero, List.set_cons_succ])
    refine wpAnyH_done (by kernel_rfl) ?_ _
    go_wp2_with fail
    go_meet
    first | (have KF := (K11.put 0 rfl (decide (t < 0)) B4 m4 k4); (try simp only [List.set, World.size_alloc, World.size_setCell] at KF); have KG := KF; exact ⟨_, B4, m4, k4, rfl, KG.ints_ ⟨KG.ints.1, KG.ints.2.2.2.2.1, KG.ints.2.2.2.2.2.1, KG.ints.2.2.2.2.2.2.1, KG.ints.2.2.2.2.2.2.2.1, KG.ints.2.2.2.2.2.2.2.2.1, KG.ints.2.2.2.2.2.2.2.2.2.1, trivial⟩⟩) | (have KF := (K11.put 0 rfl (decide (t < 0)) B4 m4 k4); (try simp only [List.set, World.size_alloc, World.size_setCell] at KF); have KG := KF; exact ⟨_, B4, m4, k4, rfl, KG.ints_ ⟨KG.ints.1, KG.ints.2.2.2.2.1, KG.ints.2.2.2.2.2.1, KG.ints.2.2.2.2.2.2.1, KG.ints.2.2.2.2.2.2.2.1, KG.ints.2.2.2.2.2.2.2.2.1, KG.ints.2.2.2.2.2.2.2.2.2.1, trivial⟩⟩) | (have KF := (K11.put 0 rfl (decide (t < 0)) B4 m4 k4); (try simp only [List.set, World.size_alloc, World.size_setCell] at KF); have KG := KF; exact ⟨_, B4, m4, k4, rfl, KG.ints_ ⟨KG.ints.1, KG.ints.2.2.2.2.1, KG.ints.2.2.2.2.2.1, KG.ints.2.2.2.2.2.2.1, KG.ints.2.2.2.2.2.2.2.1, KG.ints.2.2.2.2.2.2.2.2.1, KG.ints.2.2.2.2.2.2.2.2.2.1, trivial⟩⟩) | (trace_state; fail)
  case rest =>
    clear K6
    obtain ⟨h7, B4, m4, k4, rfl, K⟩ := hcut
    obtain ⟨⟨p0, p1⟩, _, ⟨p2, p3⟩, _⟩ := K.facts
    have it := K.ints.1.ci kt
    have ig := K.ints.2.2.1.ci kg
    go_upto_region 5 with (first
      | (go_at_call 50; (with_reducible refine (gcd_at it ig).mono ?_); rw [HHG.out]; rintro ee w8 ⟨C8, l8, q8, rfl, d8, u8, v8, g8⟩; have K8 := ((K.call g8).add (CanAt.mk_ d8 u8 v8)).new 24 (Plains.two (decide (h < 0)) C8 l8 q8))
      | fail)
    clear K it ig d8 g8 p0 p1 p2 p3
    generalize w8.alloc (.cells #[.bool (decide (h < 0)), .slice C8 l8 q8] 24) = W8 at K8 ⊢
    generalize w8.heap.size = h8 at K8 ⊢
    have Kd := K8.drew
    clear K8
    obtain ⟨⟨p0, p1⟩, ⟨p2, p3⟩, ⟨p4, p5⟩, _, _, ⟨_, _, p6, p7⟩, _⟩ := Kd.facts
    obtain ⟨y1, y2⟩ := Kd.ne 0 4 rfl rfl (by decide)
    obtain ⟨y3, y4⟩ := Kd.ne 1 4 rfl rfl (by decide)
    obtain ⟨y5, y6⟩ := Kd.ne 2 4 rfl rfl (by decide)
    obtain ⟨y7, y8⟩ := Kd.ne 4 5 rfl rfl (by decide)
    have it := Kd.ints.2.1.ci kt
    have ih := Kd.ints.1.ci kh
    go_region_held3 (fun w' => w'.cell? ⟨h8, 0, none⟩ = some (.bool (decide (h < 0))) ∧ w'.cell? ⟨h8, 1, none⟩ = some (.slice C8 l8 q8) ∧ w'.cell? ⟨h7, 0, none⟩ = some (.bool (decide (t < 0))) ∧ w'.cell? ⟨h7, 1, none⟩ = some (.slice B4 m4 k4) ∧ w'.cell? ⟨h6, 0, none⟩ = some (.bool (decide (e < 0))) ∧ w'.cell? ⟨h6, 1, none⟩ = some (.slice C6 l6 q6) ∧ w'.cell? ⟨w.heap.size + 1, 2, none⟩ = some (.bool s4) ∧ w'.cell? ⟨w.heap.size + 1, 3, none⟩ = some (.slice A4 n4 c4))
      (go_keep)
      (first
        | (go_at_call_of 40 (Value.agg #[Value.bool (decide (t < 0)), Value.slice B4 m4 k4]); (with_reducible refine (quotient_at it ih).mono ?_); rw [HX.out]; rintro ee w9 ⟨C9, l9, q9, rfl, d9, u9, v9, g9⟩; have K9 := (Kd.call g9).add (CanAt.mk_ d9 u9 v9); clear p0 p1 p2 p3 p4 p5 p6 p7; obtain ⟨⟨p0, p1⟩, ⟨p2, p3⟩, ⟨p4, p5⟩, _, _, ⟨_, _, p6, p7⟩, _⟩ := K9.facts; have jh := K9.ints.2.1.ci kh; have jd := K9.ints.2.2.2.2.2.1.ci kd)
        | (go_at_call_of 40 (Value.agg #[Value.bool s4, Value.slice A4 n4 c4]); (with_reducible refine (quotient_at jd jh).mono ?_); rw [HY.out]; rintro ee wa ⟨Ca, la, qa, rfl, da, ua, va, ga⟩; have Ka := (K9.call ga).add (CanAt.mk_ da ua va); clear p0 p1 p2 p3 p4 p5 p6 p7; obtain ⟨⟨p0, p1⟩, ⟨p2, p3⟩, ⟨p4, p5⟩, _, _, ⟨_, _, p6, p7⟩, _⟩ := Ka.facts; have jy := Ka.ints.1.ci ky; have je := Ka.ints.2.2.2.2.1.ci ke)
        | (go_at_call 34; (with_reducible refine (mul_at je jy).mono ?_); rw [HV.out]; rintro ee wb ⟨Cb, lb, qb, rfl, db, ub, vb, gb⟩; have Kb := (Ka.call gb).add (CanAt.mk_ db ub vb); clear p0 p1 p2 p3 p4 p5 p6 p7; obtain ⟨⟨p0, p1⟩, ⟨p2, p3⟩, ⟨p4, p5⟩, _, ⟨q0, q1, q2, q3⟩, ⟨_, _, p6, p7⟩, _⟩ := Kb.facts; obtain ⟨f0, f1, f2, f3⟩ := Kb.free (i := 4) rfl)
        | fail)
    have KX := Kb.put4 4 rfl (decide (x < 0)) C9 l9 q9 (decide (v < 0)) Cb lb qb
    simp only [List.set] at KX
    obtain ⟨_, _, _, _, ⟨r0, r1, r2, r3⟩, _⟩ := KX.facts
    go_wp2_with fail
    refine bodyPost_ret (v := .agg #[.bool (decide (x < 0)), .slice C9 l9 q9, .bool (decide (v < 0)), .slice Cb lb qb]) (by simp [results, Try.results44, go_sem, r0, r1, r2, r3]) rfl ?_
    exact ⟨C9, l9, q9, Cb, lb, qb, rfl, KX.ints.2.2.1.c, KX.ints.1.c, KX.below⟩
end
section
open Go.RowKit

def okB (z d M : Int) : Bool := decide ((-M ≤ z ∧ z ≤ M) ∧ (-M ≤ d ∧ d ≤ M))
def wX (z d M : Int) : Int := if okB z d M then un z d else 0
def wY (z d M : Int) : Int := if okB z d M then ud z d else 0
theorem words_at {w : World} {s s' : Bool} {A A' : Option Addr} {n c n' c' : Nat} {z d M : Int} (h : IntAt w s A n c z) (h' : IntAt w s' A' n' c' d) (h0 : 0 ≤ M) (h1 : M ≤ 9223372036854775807) :
    Calls Try.prog 48 #[.agg #[.bool s, .slice A n c, .bool s', .slice A' n' c'], .int .i64 M] w (RetWd w (wX z d M) (wY z d M) (okB z d M)) := by
  by_cases hk : (-M ≤ z ∧ z ≤ M) ∧ (-M ≤ d ∧ d ≤ M)
  · have e : okB z d M = true := by unfold okB; simpa using hk
    unfold wX wY
    rw [e, if_pos rfl, if_pos rfl]
    exact words_yes h h' h0 h1 hk.1.1 hk.1.2 hk.2.1 hk.2.2
  · have e : okB z d M = false := by unfold okB; simpa using hk
    unfold wX wY
    rw [e, if_neg (by decide), if_neg (by decide)]
    exact words_no h h' h0 h1 (by unfold Out; omega)

/-- What addWords returns. -/
def RetAW (w : World) (x y : Int) (b : Bool) (e : Ending) (w' : World) : Prop :=
  ∃ A n c A' n' c', e = .returned (.tuple #[.agg #[.bool (decide (x < 0)), .slice A n c, .bool (decide (y < 0)), .slice A' n' c'], .bool b]) ∧
    CanAt w' (decide (x < 0)) A n c x ∧ CanAt w' (decide (y < 0)) A' n' c' y ∧ Below w.heap.size w w'
theorem RetAW.of_st {w0 w : World} {l : List (Nat × TypeId × List Value)} {k : List (Bool × Option Addr × Nat × Nat × Int × Bool)} {A A' : Option Addr} {n c n' c' : Nat} {x y : Int} {b : Bool}
    (h : St w0 w l ((decide (x < 0), A, n, c, x, true) :: (decide (y < 0), A', n', c', y, true) :: k)) : RetAW w0 x y b (.returned (.tuple #[.agg #[.bool (decide (x < 0)), .slice A n c, .bool (decide (y < 0)), .slice A' n' c'], .bool b])) w :=
  ⟨A, n, c, A', n', c', rfl, h.ints.1.c, h.ints.2.1.c, h.below⟩

theorem mul_in {a b M : Int} (h1 : -M ≤ a) (h2 : a ≤ M) (h3 : -M ≤ b) (h4 : b ≤ M) (h0 : 0 ≤ M) : -(M * M) ≤ a * b ∧ a * b ≤ M * M := by
  have h5 : a.natAbs ≤ M.natAbs := by omega
  have h6 : b.natAbs ≤ M.natAbs := by omega
  have h7 := Nat.mul_le_mul h5 h6
  rw [← Int.natAbs_mul, ← Int.natAbs_mul] at h7
  have h8 : 0 ≤ M * M := Int.mul_nonneg h0 h0
  omega
theorem rn_of_pos {z d : Int} (h : 0 < d) : rn z d = z / (Int.gcd z d : Nat) ∧ rd z d = d / (Int.gcd z d : Nat) := by
  unfold rn rd; rw [un_pos h, ud_pos_ h]; exact ⟨rfl, rfl⟩
theorem okB_in {z d M : Int} (h : okB z d M = true) : (-M ≤ un z d ∧ un z d ≤ M) ∧ 0 < ud z d ∧ (d = 0 ∨ ud z d ≤ M) := by
  have h' : (-M ≤ z ∧ z ≤ M) ∧ (-M ≤ d ∧ d ≤ M) := by unfold okB at h; simpa using h
  have h1 := un_abs z d
  refine ⟨by omega, ud_pos z d, ?_⟩
  by_cases hd : d = 0
  · exact Or.inl hd
  · right; unfold ud; rw [if_neg hd]; split <;> omega

set_option maxHeartbeats 8000000 in
set_option maxRecDepth 100000 in
theorem addWords_at {w : World} {s1 s2 s3 s4 : Bool} {A1 A2 A3 A4 : Option Addr} {n1 c1 n2 c2 n3 c3 n4 c4 : Nat} {a b c d : Int} (h1 : IntAt w s1 A1 n1 c1 a) (h2 : IntAt w s2 A2 n2 c2 b) (h3 : IntAt w s3 A3 n3 c3 c) (h4 : IntAt w s4 A4 n4 c4 d) :
    Calls Try.prog 43 #[.agg #[.bool s1, .slice A1 n1 c1, .bool s2, .slice A2 n2 c2], .agg #[.bool s3, .slice A3 n3 c3, .bool s4, .slice A4 n4 c4]] w
      fun e w' => ∃ x y ok, (ok = true → x = aN a b c d ∧ y = aD a b c d) ∧ RetAW w x y ok e w' := by
  have H0 := (((((((St.start w).addI h1).addI h2).addI h3).addI h4).new 26 (Plains.four s1 A1 n1 c1 s2 A2 n2 c2)).new 26 (Plains.four s3 A3 n3 c3 s4 A4 n4 c4)).new 26 (Plains.four false none 0 0 false none 0 0)
  simp only [World.size_alloc] at H0
  have HH := Lib.hid H0
  clear H0 h1 h2 h3 h4
  obtain ⟨o1, HO1⟩ : ∃ v, Hid (okB a b 2147483647 = v) := ⟨_, rfl⟩
  obtain ⟨o2, HO2⟩ : ∃ v, Hid (okB c d 2147483647 = v) := ⟨_, rfl⟩
  obtain ⟨x1, HX1⟩ : ∃ v, Hid (wX a b 2147483647 = v) := ⟨_, rfl⟩
  obtain ⟨x2, HX2⟩ : ∃ v, Hid (wX c d 2147483647 = v) := ⟨_, rfl⟩
  obtain ⟨y1, HY1⟩ : ∃ v, Hid (wY a b 2147483647 = v) := ⟨_, rfl⟩
  obtain ⟨y2, HY2⟩ : ∃ v, Hid (wY c d 2147483647 = v) := ⟨_, rfl⟩
  by_cases hok : o1 = true ∧ o2 = true
  · obtain ⟨rfl, rfl⟩ := hok
    have b1 := okB_in HO1.out
    have b2 := okB_in HO2.out
    have e1 : un a b = x1 := by rw [← HX1.out]; unfold wX; rw [HO1.out, if_pos rfl]
    have e2 : un c d = x2 := by rw [← HX2.out]; unfold wX; rw [HO2.out, if_pos rfl]
    have e3 : ud a b = y1 := by rw [← HY1.out]; unfold wY; rw [HO1.out, if_pos rfl]
    have e4 : ud c d = y2 := by rw [← HY2.out]; unfold wY; rw [HO2.out, if_pos rfl]
    have f1 : y1 ≤ 2147483647 := by rw [← e3]; rcases b1.2.2 with h | h; · rw [h, ud_zero]; decide
                                    · exact h
    have f2 : y2 ≤ 2147483647 := by rw [← e4]; rcases b2.2.2 with h | h; · rw [h, ud_zero]; decide
                                    · exact h
    have HADD := Lib.hid (add_u a b c d)
    rw [e1, e2, e3, e4] at HADD
    rw [e1, e3] at b1
    rw [e2, e4] at b2
    obtain ⟨⟨b3, b4⟩, b5, -⟩ := b1
    obtain ⟨⟨b6, b7⟩, b8, -⟩ := b2
    have m1 := mul_in b3 b4 (show -2147483647 ≤ y2 by omega) f2 (by decide)
    have m2 := mul_in b6 b7 (show -2147483647 ≤ y1 by omega) f1 (by decide)
    have m3 := mul_in (show -2147483647 ≤ y1 by omega) f1 (show -2147483647 ≤ y2 by omega) f2 (by decide)
    have m4 : 0 < y1 * y2 := Int.mul_pos b5 b8
    clear e1 e2 e3 e4
    obtain ⟨p1, P1⟩ : ∃ v, Hid (x1 * y2 = v) := ⟨_, rfl⟩
    obtain ⟨p2, P2⟩ : ∃ v, Hid (x2 * y1 = v) := ⟨_, rfl⟩
    obtain ⟨p3, P3⟩ : ∃ v, Hid (y1 * y2 = v) := ⟨_, rfl⟩
    obtain ⟨p4, P4⟩ : ∃ v, Hid (p1 + p2 = v) := ⟨_, rfl⟩
    rw [P1.out] at m1
    rw [P2.out] at m2
    rw [P3.out] at m3 m4
    have j1 : -9223372036854775807 ≤ p4 := by rw [← P4.out]; omega
    have j2 : p4 ≤ 9223372036854775807 := by rw [← P4.out]; omega
    have j3 : p3 ≤ 9223372036854775807 := by omega
    obtain ⟨G, HG⟩ : ∃ v, Hid (((Int.gcd p4 p3 : Nat) : Int) = v) := ⟨_, rfl⟩
    obtain ⟨x, HX⟩ : ∃ v, Hid (p4 / G = v) := ⟨_, rfl⟩
    obtain ⟨y, HY⟩ : ∃ v, Hid (p3 / G = v) := ⟨_, rfl⟩
    have HEND : Hid (x = aN a b c d ∧ y = aD a b c d) := by
      skip
      have h5 := rn_of_pos (z := p4) m4
      rw [HG.out, HX.out, HY.out] at h5
      have h6 := HADD.out
      rw [P1.out, P2.out, P3.out, P4.out] at h6
      exact ⟨h5.1.symm.trans h6.1, h5.2.symm.trans h6.2⟩
    have iw1 : IntKind.i64.wrap p1 = p1 := IntWalk.i64_in _ (by omega)
    have iw2 : IntKind.i64.wrap p2 = p2 := IntWalk.i64_in _ (by omega)
    have iw3 : IntKind.i64.wrap p3 = p3 := IntWalk.i64_in _ (by omega)
    have iw4 : IntKind.i64.wrap p4 = p4 := IntWalk.i64_in _ (by omega)
    have I1 := Lib.hid iw1
    have I2 := Lib.hid iw2
    have I3 := Lib.hid iw3
    have I4 := Lib.hid iw4
    clear iw1 iw2 iw3 iw4 m1 m2 m3 b3 b4 b5 b6 b7 b8 f1 f2
    go_enter Try.func43, Try.ntmps43
    go_upto_region 5 with (first
      | (go_at_call_of 48 (Value.agg #[Value.bool s1, Value.slice A1 n1 c1, Value.bool s2, Value.slice A2 n2 c2]); have K := HH.out; clear HH; have i1 := K.ints.2.2.2.1.i; have i2 := K.ints.2.2.1.i; (with_reducible refine (words_at i1 i2 (by decide) (by decide)).mono ?_); rw [HX1.out, HY1.out, HO1.out]; rintro e w1 ⟨rfl, g1⟩; have K1 := K.call g1; obtain ⟨_, ⟨p0, p1', p2', p3'⟩, _⟩ := K1.facts)
      | (go_at_call_of 48 (Value.agg #[Value.bool s3, Value.slice A3 n3 c3, Value.bool s4, Value.slice A4 n4 c4]); have i3 := K1.ints.2.1.i; have i4 := K1.ints.1.i; (with_reducible refine (words_at i3 i4 (by decide) (by decide)).mono ?_); rw [HX2.out, HY2.out, HO2.out]; rintro e w2 ⟨rfl, g2⟩; have K2 := K1.call g2)
      | fail)
    have iw1 := I1.out
    have iw2 := I2.out
    have iw3 := I3.out
    have iw4 := I4.out
    have kw1 : x1 * y2 = p1 := P1.out
    have kw2 : x2 * y1 = p2 := P2.out
    have kw3 : y1 * y2 = p3 := P3.out
    have kw4 : p1 + p2 = p4 := P4.out
    go_wp2_with (first
      | (go_at_call 49; (with_reducible refine (fromWords_any p4 p3 G m4 j1 j2 j3 HG.out _).mono ?_); rw [HX.out, HY.out]; rintro e w3 ⟨B3, m3, k3, B4, m4', k4, rfl, d3, d4, g3⟩; have K3 := ((K2.call g3).add d4).add d3; obtain ⟨⟨q0, q1, q2, q3⟩, _⟩ := K3.facts; obtain ⟨f0, f1, f2, f3⟩ := K3.free (i := 0) rfl)
      | fail)
    have K4 := K3.put4 0 rfl (decide (x < 0)) B3 m3 k3 (decide (y < 0)) B4 m4' k4
    simp only [List.set] at K4
    obtain ⟨⟨r0, r1, r2, r3⟩, _⟩ := K4.facts
    exact bodyPost_ret (v := .tuple #[.agg #[.bool (decide (x < 0)), .slice B3 m3 k3, .bool (decide (y < 0)), .slice B4 m4' k4], .bool true]) (by simp [results, Try.results43, go_sem, r0, r1, r2, r3]) rfl ⟨x, y, true, fun _ => HEND.out, RetAW.of_st K4⟩
  · have hc : (o1 = false ∧ o2 = false) ∨ (o1 = false ∧ o2 = true) ∨ (o1 = true ∧ o2 = false) := by
      cases o1 <;> cases o2 <;> simp_all
    clear hok
    rcases hc with ⟨rfl, rfl⟩ | ⟨rfl, rfl⟩ | ⟨rfl, rfl⟩
    all_goals
      go_enter Try.func43, Try.ntmps43
      go_wp2_with (first
        | (go_at_call_of 48 (Value.agg #[Value.bool s1, Value.slice A1 n1 c1, Value.bool s2, Value.slice A2 n2 c2]); have K := HH.out; clear HH; have i1 := K.ints.2.2.2.1.i; have i2 := K.ints.2.2.1.i; (with_reducible refine (words_at i1 i2 (by decide) (by decide)).mono ?_); rw [HX1.out, HY1.out, HO1.out]; rintro e w1 ⟨rfl, g1⟩; have K1 := K.call g1; obtain ⟨_, ⟨p0, p1', p2', p3'⟩, _⟩ := K1.facts)
        | (go_at_call_of 48 (Value.agg #[Value.bool s3, Value.slice A3 n3 c3, Value.bool s4, Value.slice A4 n4 c4]); have i3 := K1.ints.2.1.i; have i4 := K1.ints.1.i; (with_reducible refine (words_at i3 i4 (by decide) (by decide)).mono ?_); rw [HX2.out, HY2.out, HO2.out]; rintro e w2 ⟨rfl, g2⟩; have K2 := K1.call g2; obtain ⟨⟨q0, q1, q2, q3⟩, _⟩ := K2.facts; obtain ⟨f0, f1, f2, f3⟩ := K2.free (i := 0) rfl)
        | fail)
      have K4 := ((K2.put4 0 rfl false none 0 0 false none 0 0).add (CanAt.zero_ _)).add (CanAt.zero_ _)
      simp only [List.set] at K4
      obtain ⟨⟨r0, r1, r2, r3⟩, _⟩ := K4.facts
      exact bodyPost_ret (v := .tuple #[.agg #[.bool (decide ((0 : Int) < 0)), .slice none 0 0, .bool (decide ((0 : Int) < 0)), .slice none 0 0], .bool false]) (by simp [results, Try.results43, go_sem, r0, r1, r2, r3]) rfl ⟨0, 0, false, (fun h => by cases h), RetAW.of_st (x := 0) (y := 0) K4⟩
end
end Go.Proofs.Ytgjkgmlcfieodaa

