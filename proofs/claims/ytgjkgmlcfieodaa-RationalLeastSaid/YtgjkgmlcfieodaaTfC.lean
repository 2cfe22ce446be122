/-
  The reference's simplest.
-/
import Derived.Test.YtgjkgmlcfieodaaTfB
import Derived.Test.YtgjkgmlcfieodaaRndA
import Derived.Test.YtgjkgmlcfieodaaRfrac3
set_option linter.unusedVariables false
set_option linter.unusedSimpArgs false
set_option warningAsError false
namespace Go.Proofs.Ytgjkgmlcfieodaa
open Go.RowKit

set_option maxHeartbeats 16000000 in
set_option maxRecDepth 100000 in
theorem rsimp_at (k : Nat) : ∀ {w : World} {s1 s2 s3 s4 : Bool} {A1 A2 A3 A4 : Option Addr} {n1 c1 n2 c2 n3 c3 n4 c4 : Nat} {a b c d : Int} (h1 : IntAt w s1 A1 n1 c1 a) (h2 : IntAt w s2 A2 n2 c2 b) (h3 : IntAt w s3 A3 n3 c3 c) (h4 : IntAt w s4 A4 n4 c4 d) (za : Sz a 100) (zb : Sz b 100) (zc : Sz c 100) (zd : Sz d 100)
    (hp : Pos4 a b c d) (hg1 : Int.gcd a b = 1) (hg2 : Int.gcd c d = 1) (hk : b + d ≤ k),
    Calls Try.prog 32 #[.agg #[.bool s1, .slice A1 n1 c1, .bool s2, .slice A2 n2 c2], .agg #[.bool s3, .slice A3 n3 c3, .bool s4, .slice A4 n4 c4]] w (RetFr w (simpl k a b c d).1 (simpl k a b c d).2) := by
  induction k with
  | zero => intro w s1 s2 s3 s4 A1 A2 A3 A4 n1 c1 n2 c2 n3 c3 n4 c4 a b c d _ _ _ _ _ _ _ _ hp _ _ hk; exfalso; have := hp.pb; have := hp.pd; omega
  | succ k ih =>
  intro w s1 s2 s3 s4 A1 A2 A3 A4 n1 c1 n2 c2 n3 c3 n4 c4 a b c d h1 h2 h3 h4 za zb zc zd hp hg1 hg2 hk
  have H0 := (((((((St.start w).addI h1).addI h2).addI h3).addI h4).new 26 (Plains.four s1 A1 n1 c1 s2 A2 n2 c2)).new 26 (Plains.four s3 A3 n3 c3 s4 A4 n4 c4)).new 26 (Plains.four false none 0 0 false none 0 0)
  (try simp only [World.size_alloc] at H0)
  have HH := Lib.hid H0
  clear H0 h1 h2 h3 h4
  have hsps : SpS k a b c d (a / b) := ⟨hp, hg1, hg2, rfl⟩
  obtain ⟨q, HQ0⟩ : ∃ v, Hid (a / b = v) := ⟨_, rfl⟩
  rw [HQ0.out] at hsps
  have HQ : Hid (dmQ a b = q) := by unfold Hid; rw [dmQ_pos hp.pb]; exact HQ0.out
  obtain ⟨x, HX1⟩ : ∃ v, Hid (rn q 1 = v) := ⟨_, rfl⟩
  obtain ⟨y, HX2⟩ : ∃ v, Hid (rd q 1 = v) := ⟨_, rfl⟩
  have HXY : Hid (x = q ∧ y = 1) := by unfold Hid; rw [← HX1.out, ← HX2.out]; exact whole_self q
  obtain ⟨o, HO1⟩ : ∃ v, Hid (rn 1 1 = v) := ⟨_, rfl⟩
  obtain ⟨p, HO2⟩ : ∃ v, Hid (rd 1 1 = v) := ⟨_, rfl⟩
  have HO : Hid (rn 1 1 = o ∧ rd 1 1 = p) := ⟨HO1.out, HO2.out⟩
  have HOP : Hid (o = 1 ∧ p = 1) := by unfold Hid; rw [← HO1.out, ← HO2.out]; exact one_self
  obtain ⟨c1v, HC1⟩ : ∃ v, Hid (cmpI (rn x y * rd a b) (rn a b * rd x y) = v) := ⟨_, rfl⟩
  have hb0 : 0 < b := hp.pb
  have zq : Sz q 100 := by rw [← HQ0.out]; exact za.le (Int.natAbs_ediv_le_natAbs _ _)
  have z1 : Sz 1 100 := sz_small (by decide) (by decide) 100 (by decide)
  have z_x : Sz x 900 := by rw [HXY.out.1]; exact zq.mono (by decide)
  have z_y : Sz y 900 := by rw [HXY.out.2]; exact z1.mono (by decide)
  have z_o : Sz o 900 := by rw [HOP.out.1]; exact z1.mono (by decide)
  have z_p : Sz p 900 := by rw [HOP.out.2]; exact z1.mono (by decide)
  have z_a : Sz a 900 := za.mono (by decide)
  have z_b : Sz b 900 := zb.mono (by decide)
  have z_c : Sz c 900 := zc.mono (by decide)
  have z_d : Sz d 900 := zd.mono (by decide)
  have za1 : Sz a 1900 := za.mono (by decide)
  have zb1 : Sz b 1900 := zb.mono (by decide)
  have zq1 : Sz q 1900 := zq.mono (by decide)
  have kq := zq.ok
  have k_x := z_x.ok
  have k_y := z_y.ok
  have k_o := z_o.ok
  have k_p := z_p.ok
  have hgoal : Hid (∀ X Y : Int, (simpl (k + 1) a b c d).1 = X → (simpl (k + 1) a b c d).2 = Y → ∀ e w', RetFr w X Y e w' → RetFr w (simpl (k + 1) a b c d).1 (simpl (k + 1) a b c d).2 e w') := fun X Y e1 e2 e w' hr => by rw [e1, e2]; exact hr
  obtain ⟨rp, HRP⟩ : ∃ v, Hid ((simpl (k + 1) a b c d).1 = v) := ⟨_, rfl⟩
  obtain ⟨rq, HRQ⟩ : ∃ v, Hid ((simpl (k + 1) a b c d).2 = v) := ⟨_, rfl⟩
  rw [HRP.out, HRQ.out]
  clear hgoal
  by_cases hr0 : a % b = 0
  · obtain ⟨e0, e1, e2⟩ := hsps.end1 hr0
    have hc1 : Hid (c1v = 0) := by unfold Hid; rw [← HC1.out, HXY.out.1, HXY.out.2, hsps.cmp1]; exact e0
    have hx : rp = x := by rw [← HRP.out, e1, HXY.out.1]
    have hy : rq = y := by rw [← HRQ.out, e2, HXY.out.2]
    rw [hx, hy]
    clear e0 e1 e2 hx hy hr0 hsps hp ih
    go_enter Try.func32, Try.ntmps32
    go_upto_region 2 with (first
      | (go_at_call 61; have K := HH.out; clear HH; have i1 := K.ints.2.2.2.1.i; have i2 := K.ints.2.2.1.i; (with_reducible refine (rfloor_at i1 i2 za1 zb1).mono ?_); rw [HQ.out]; rintro e w1 ⟨B1, m1, k1, rfl, d1, u1, v1, g1⟩; have K1 := (K.call g1).add (CanAt.mk_ d1 u1 v1); have iq := K1.ints.1.ci kq)
      | (go_at_call 59; (with_reducible refine (rfromInt_at iq zq1).mono ?_); rw [HX1.out, HX2.out]; rintro e w2 ⟨X_5, l_5, q_5, Y_5, m_5, r_5, rfl, d2, d3, g2⟩; have K2 := ((K1.call g2).add d3).add d2; have K3 := K2.new 26 (Plains.four (decide (x < 0)) X_5 l_5 q_5 (decide (y < 0)) Y_5 m_5 r_5))
      | fail)
    (try simp only [World.size_alloc] at K3)
    have KB := K3.ints_ (k' := [(decide (x < 0), X_5, l_5, q_5, x, true), (decide (y < 0), Y_5, m_5, r_5, y, true), (s4, A4, n4, c4, d, false), (s3, A3, n3, c3, c, false), (s2, A2, n2, c2, b, false), (s1, A1, n1, c1, a, false)]) ⟨K3.ints.1, K3.ints.2.1, K3.ints.2.2.2.1, K3.ints.2.2.2.2.1, K3.ints.2.2.2.2.2.1, K3.ints.2.2.2.2.2.2.1, trivial⟩
    clear K K1 K2 K3 iq d1 u1 v1 d2 d3 g1 g2 i1 i2
    generalize w2.alloc (.cells #[.bool (decide (x < 0)), .slice X_5 l_5 q_5, .bool (decide (y < 0)), .slice Y_5 m_5 r_5] 26) = W5 at KB ⊢
    generalize w2.heap.size = h_5 at KB ⊢
    obtain ⟨⟨t00, t01, t02, t03⟩, ⟨t10, t11, t12, t13⟩, ⟨t20, t21, t22, t23⟩, ⟨t30, t31, t32, t33⟩, _⟩ := KB.facts
    go_wp2_with (first
      | (go_at_call 28; have j1 := KB.ints.1.ci k_x; have j2 := KB.ints.2.1.ci k_y; have j3 := KB.ints.2.2.2.2.2.1.i; have j4 := KB.ints.2.2.2.2.1.i; (with_reducible refine (rcompareF_at j1 j2 j3 j4 z_x z_y z_a z_b).mono ?_); rw [HC1.out]; rintro e w3 ⟨rfl, g3⟩; have KC := KB.call g3; clear t00 t01 t02 t03 t10 t11 t12 t13 t20 t21 t22 t23 t30 t31 t32 t33 j1 j2 j3 j4; obtain ⟨⟨t00, t01, t02, t03⟩, ⟨t10, t11, t12, t13⟩, ⟨t20, t21, t22, t23⟩, ⟨t30, t31, t32, t33⟩, _⟩ := KC.facts; obtain ⟨f0, f1, f2, f3⟩ := KC.free (i := 1) rfl; rw [hc1.out])
      | fail)
    have KR := KC.put4 1 rfl (decide (x < 0)) X_5 l_5 q_5 (decide (y < 0)) Y_5 m_5 r_5
    simp only [List.set] at KR
    obtain ⟨_, ⟨r0, r1, r2, r3⟩, _⟩ := KR.facts
    exact bodyPost_ret (v := .agg #[.bool (decide (x < 0)), .slice X_5 l_5 q_5, .bool (decide (y < 0)), .slice Y_5 m_5 r_5]) (by simp [results, Try.results32, go_sem, r0, r1, r2, r3]) rfl (RetFr.of_st (k := []) (KR.ints_ ⟨KR.ints.1, KR.ints.2.1, trivial⟩))
  have hc1 : Hid (c1v = -1) := by unfold Hid; rw [← HC1.out, HXY.out.1, HXY.out.2, hsps.cmp1]; exact hsps.ne1 hr0
  obtain ⟨m, HM1⟩ : ∃ v, Hid (aN x y o p = v) := ⟨_, rfl⟩
  obtain ⟨n, HM2⟩ : ∃ v, Hid (aD x y o p = v) := ⟨_, rfl⟩
  have HM : Hid (aN x y o p = m ∧ aD x y o p = n) := ⟨HM1.out, HM2.out⟩
  have HMN : Hid (m = q + 1 ∧ n = 1) := by unfold Hid; rw [← HM1.out, ← HM2.out, HXY.out.1, HXY.out.2, HOP.out.1, HOP.out.2]; exact next_self q
  obtain ⟨c2v, HC2⟩ : ∃ v, Hid (cmpI (rn m n * rd c d) (rn c d * rd m n) = v) := ⟨_, rfl⟩
  have z_m : Sz m 900 := by rw [HMN.out.1]; exact (zq.add z1).mono (by decide)
  have z_n : Sz n 900 := by rw [HMN.out.2]; exact z1.mono (by decide)
  have k_m := z_m.ok
  have k_n := z_n.ok
  have zx910 : Sz x 910 := z_x.mono (by decide)
  have zy910 : Sz y 910 := z_y.mono (by decide)
  have zo910 : Sz o 910 := z_o.mono (by decide)
  have zp910 : Sz p 910 := z_p.mono (by decide)
  by_cases hr1 : (q + 1) * d ≤ c
  · obtain ⟨e0, e1, e2⟩ := hsps.end2 hr0 hr1
    have hc2 : Hid (c2v ≤ 0) := by unfold Hid; rw [← HC2.out, HMN.out.1, HMN.out.2, hsps.cmp2]; exact e0
    have hx : rp = m := by rw [← HRP.out, e1, HMN.out.1]
    have hy : rq = n := by rw [← HRQ.out, e2, HMN.out.2]
    rw [hx, hy]
    clear e0 e1 e2 hx hy hr0 hr1 hsps hp ih
    go_enter Try.func32, Try.ntmps32
    go_upto_region 2 with (first
      | (go_at_call 61; have K := HH.out; clear HH; have i1 := K.ints.2.2.2.1.i; have i2 := K.ints.2.2.1.i; (with_reducible refine (rfloor_at i1 i2 za1 zb1).mono ?_); rw [HQ.out]; rintro e w1 ⟨B1, m1, k1, rfl, d1, u1, v1, g1⟩; have K1 := (K.call g1).add (CanAt.mk_ d1 u1 v1); have iq := K1.ints.1.ci kq)
      | (go_at_call 59; (with_reducible refine (rfromInt_at iq zq1).mono ?_); rw [HX1.out, HX2.out]; rintro e w2 ⟨X_5, l_5, q_5, Y_5, m_5, r_5, rfl, d2, d3, g2⟩; have K2 := ((K1.call g2).add d3).add d2; have K3 := K2.new 26 (Plains.four (decide (x < 0)) X_5 l_5 q_5 (decide (y < 0)) Y_5 m_5 r_5))
      | fail)
    (try simp only [World.size_alloc] at K3)
    have KB := K3.ints_ (k' := [(decide (x < 0), X_5, l_5, q_5, x, true), (decide (y < 0), Y_5, m_5, r_5, y, true), (s4, A4, n4, c4, d, false), (s3, A3, n3, c3, c, false), (s2, A2, n2, c2, b, false), (s1, A1, n1, c1, a, false)]) ⟨K3.ints.1, K3.ints.2.1, K3.ints.2.2.2.1, K3.ints.2.2.2.2.1, K3.ints.2.2.2.2.2.1, K3.ints.2.2.2.2.2.2.1, trivial⟩
    clear K K1 K2 K3 iq d1 u1 v1 d2 d3 g1 g2 i1 i2
    generalize w2.alloc (.cells #[.bool (decide (x < 0)), .slice X_5 l_5 q_5, .bool (decide (y < 0)), .slice Y_5 m_5 r_5] 26) = W5 at KB ⊢
    generalize w2.heap.size = h_5 at KB ⊢
    obtain ⟨⟨t00, t01, t02, t03⟩, ⟨t10, t11, t12, t13⟩, ⟨t20, t21, t22, t23⟩, ⟨t30, t31, t32, t33⟩, _⟩ := KB.facts
    go_upto_region 4 with (first
      | (go_at_call 28; have j1 := KB.ints.1.ci k_x; have j2 := KB.ints.2.1.ci k_y; have j3 := KB.ints.2.2.2.2.2.1.i; have j4 := KB.ints.2.2.2.2.1.i; (with_reducible refine (rcompareF_at j1 j2 j3 j4 z_x z_y z_a z_b).mono ?_); rw [HC1.out]; rintro e w3 ⟨rfl, g3⟩; have KC := KB.call g3; clear t00 t01 t02 t03 t10 t11 t12 t13 t20 t21 t22 t23 t30 t31 t32 t33 j1 j2 j3 j4; obtain ⟨⟨t00, t01, t02, t03⟩, ⟨t10, t11, t12, t13⟩, ⟨t20, t21, t22, t23⟩, ⟨t30, t31, t32, t33⟩, _⟩ := KC.facts; obtain ⟨f0, f1, f2, f3⟩ := KC.free (i := 1) rfl; rw [hc1.out])
      | fail)
    clear t00 t01 t02 t03 t10 t11 t12 t13 t20 t21 t22 t23 t30 t31 t32 t33 f0 f1 f2 f3 KB g3
    go_cut [6] (fun vx wx => ∃ (h_6 : Nat) (X_6 : Option Addr) (l_6 q_6 : Nat) (Y_6 : Option Addr) (m_6 r_6 : Nat), vx = .pointer (some ⟨h_6, 0, none⟩) ∧ St w wx [vf h_6 (decide (m < 0)) X_6 l_6 q_6 (decide (n < 0)) Y_6 m_6 r_6, vf h_5 (decide (x < 0)) X_5 l_5 q_5 (decide (y < 0)) Y_5 m_5 r_5, vf (w.heap.size + 1 + 1) false none 0 0 false none 0 0, vf (w.heap.size + 1) s3 A3 n3 c3 s4 A4 n4 c4, vf w.heap.size s1 A1 n1 c1 s2 A2 n2 c2] [(decide (m < 0), X_6, l_6, q_6, m, true), (decide (n < 0), Y_6, m_6, r_6, n, true), (decide (x < 0), X_5, l_5, q_5, x, true), (decide (y < 0), Y_5, m_5, r_5, y, true), (s4, A4, n4, c4, d, false), (s3, A3, n3, c3, c, false), (s2, A2, n2, c2, b, false), (s1, A1, n1, c1, a, false)])
    case first =>
      have KZ := KC
      clear KC
      obtain ⟨⟨o00, o01, o02, o03⟩, _, _, _, _⟩ := KZ.facts
      skip
      refine wp_region_held_drew (S := fun w' => w'.cell? ⟨h_5, 0, none⟩ = some (.bool (decide (x < 0))) ∧ w'.cell? ⟨h_5, 1, none⟩ = some (.slice X_5 l_5 q_5) ∧ w'.cell? ⟨h_5, 2, none⟩ = some (.bool (decide (y < 0))) ∧ w'.cell? ⟨h_5, 3, none⟩ = some (.slice Y_5 m_5 r_5)) (by kernel_rfl) ?_ (fun hHeld0 => ?_)
      · ((try dsimp only); go_keep)
      refine wpAnyH_take (i := 0) (oi := ⟨some 21, _, _, _, _, _⟩) (v := ?_) rfl (by kernel_rfl) (by kernel_rfl) (by kernel_rfl) (fun _ _ _ h => h) (Or.inl ⟨by rfl, ?_⟩) (by assumption) ?_
      rotate_left
      · (intro w' hSw; (try dsimp only at hSw); go_simp; (try with_reducible rfl))
      (try simp only [Act.put, List.setIfInBounds_toArray, List.set_cons_zero, List.set_cons_succ])
      refine wpAnyH_ready (rs := [1, 3]) (by kernel_rfl) (by simp) ?_
      refine AllReadyH.cons (o := ⟨some 22, _, _, _, _, _⟩) rfl (fun K hK => ?_) ?_
      · skip
        go_simp
        (go_at_call 30; (with_reducible refine (whole_any 1 (by decide) (by decide) _).mono ?_); rw [HO.out.1, HO.out.2]; rintro ee w1 ⟨X1, l1, q1, Y1, m1, r1, rfl, d1, h1, v1⟩)
        (try go_wp2_with fail)
        have K1 := ((KZ.drew.call v1).add h1).add d1
        obtain ⟨⟨p0c0n1, p0c1n1, p0c2n1, p0c3n1⟩, _, _, _, _⟩ := K1.facts
        refine hK.out _ _ ?_ (fun hHeld1 => ?_)
        · ((try dsimp only); first | go_keep | (trace_state; fail))
        clear hK K hHeld0
        (try simp only [Act.put, List.setIfInBounds_toArray, List.set_cons_zero, List.set_cons_succ])
        refine wpAnyH_ready (rs := [2, 3]) (by kernel_rfl) (by simp) ?_
        refine AllReadyH.cons (o := ⟨some 23, _, _, _, _, _⟩) rfl (fun K hK => ?_) ?_
        · skip
          go_simp
          have g2_0 := K1.ints.2.2.1.ci k_x
          have g2_1 := K1.ints.2.2.2.1.ci k_y
          have g2_2 := K1.ints.1.ci k_o
          have g2_3 := K1.ints.2.1.ci k_p
          (go_at_call 62; (with_reducible refine (raddF_at g2_0 g2_1 g2_2 g2_3 zx910 zy910 zo910 zp910).mono ?_); rw [HM.out.1, HM.out.2]; rintro ee w2 ⟨X2, l2, q2, Y2, m2, r2, rfl, d2, h2, v2⟩)
          (try go_wp2_with fail)
          have K2 := ((K1.call v2).add h2).add d2
          clear p0c0n1 p0c1n1 p0c2n1 p0c3n1
          obtain ⟨⟨p0c0n2, p0c1n2, p0c2n2, p0c3n2⟩, _, _, _, _⟩ := K2.facts
          refine hK.out _ _ ?_ (fun hHeld2 => ?_)
          · ((try dsimp only); first | go_keep | (trace_state; fail))
          clear hK K hHeld1
          (try simp only [Act.put, List.setIfInBounds_toArray, List.set_cons_zero, List.set_cons_succ])
          refine wpAnyH_ready (rs := [3]) (by kernel_rfl) (by simp) ?_
          refine AllReadyH.cons (o := ⟨some 6, _, _, _, _, _⟩) rfl (fun K hK => ?_) AllReadyH.nil
          go_simp
          have KA := K2.new 26 (Plains.four false none 0 0 false none 0 0)
          (try simp only [World.size_alloc] at KA)
          obtain ⟨⟨b0n3, b1n3, b2n3, b3n3⟩, ⟨p0c0n3, p0c1n3, p0c2n3, p0c3n3⟩, _, _, _, _⟩ := KA.facts
          obtain ⟨f0n3, f1n3, f2n3, f3n3⟩ := KA.free (i := 0) rfl
          obtain ⟨e0xn3, e0yn3⟩ := KA.ne 0 1 rfl rfl (by decide)
          refine hK.out _ _ ?_ (fun hHeld3 => ?_)
          · ((try dsimp only); first | go_keep | (trace_state; fail))
          clear hK K hHeld2
          (try simp only [Act.put, List.setIfInBounds_toArray, List.set_cons_zero, List.set_cons_succ])
          refine wpAnyH_ready (rs := [4]) (by kernel_rfl) (by simp) ?_
          refine AllReadyH.cons (o := ⟨none, _, _, _, _, _⟩) rfl (fun K hK => ?_) AllReadyH.nil
          go_simp
          refine hK.out _ _ ?_ (fun hHeld4 => ?_)
          · ((try dsimp only); first | go_keep | (trace_state; fail))
          clear hK K hHeld3
          (try simp only [Act.put, List.setIfInBounds_toArray, List.set_cons_zero, List.set_cons_succ])
          refine wpAnyH_done (by kernel_rfl) ?_ _
          go_wp2_with fail
          go_meet
          have KF := K2.new 26 (Plains.four (decide (m < 0)) X2 l2 q2 (decide (n < 0)) Y2 m2 r2)
          (try simp only [List.set, World.size_alloc, World.size_setCell] at KF)
          exact ⟨_, X2, l2, q2, Y2, m2, r2, rfl, KF.ints_ ⟨KF.ints.1, KF.ints.2.1, KF.ints.2.2.2.2.1, KF.ints.2.2.2.2.2.1, KF.ints.2.2.2.2.2.2.1, KF.ints.2.2.2.2.2.2.2.1, KF.ints.2.2.2.2.2.2.2.2.1, KF.ints.2.2.2.2.2.2.2.2.2.1, trivial⟩⟩
        refine AllReadyH.cons (o := ⟨some 6, _, _, _, _, _⟩) rfl (fun K hK => ?_) AllReadyH.nil
        go_simp
        have KA := K1.new 26 (Plains.four false none 0 0 false none 0 0)
        (try simp only [World.size_alloc] at KA)
        obtain ⟨⟨b0n2, b1n2, b2n2, b3n2⟩, ⟨p0c0n2, p0c1n2, p0c2n2, p0c3n2⟩, _, _, _, _⟩ := KA.facts
        obtain ⟨f0n2, f1n2, f2n2, f3n2⟩ := KA.free (i := 0) rfl
        obtain ⟨e0xn2, e0yn2⟩ := KA.ne 0 1 rfl rfl (by decide)
        refine hK.out _ _ ?_ (fun hHeld2 => ?_)
        · ((try dsimp only); first | go_keep | (trace_state; fail))
        clear hK K hHeld1
        (try simp only [Act.put, List.setIfInBounds_toArray, List.set_cons_zero, List.set_cons_succ])
        refine wpAnyH_ready (rs := [2]) (by kernel_rfl) (by simp) ?_
        refine AllReadyH.cons (o := ⟨some 23, _, _, _, _, _⟩) rfl (fun K hK => ?_) AllReadyH.nil
        go_simp
        have g2_0 := KA.ints.2.2.1.ci k_x
        have g2_1 := KA.ints.2.2.2.1.ci k_y
        have g2_2 := KA.ints.1.ci k_o
        have g2_3 := KA.ints.2.1.ci k_p
        (go_at_call 62; (with_reducible refine (raddF_at g2_0 g2_1 g2_2 g2_3 zx910 zy910 zo910 zp910).mono ?_); rw [HM.out.1, HM.out.2]; rintro ee w2 ⟨X2, l2, q2, Y2, m2, r2, rfl, d2, h2, v2⟩)
        (try go_wp2_with fail)
        have K2 := ((KA.call v2).add h2).add d2
        clear p0c0n1 p0c1n1 p0c2n1 p0c3n1 b0n2 b1n2 b2n2 b3n2 p0c0n2 p0c1n2 p0c2n2 p0c3n2 f0n2 f1n2 f2n2 f3n2 e0xn2 e0yn2
        obtain ⟨⟨b0n3, b1n3, b2n3, b3n3⟩, ⟨p0c0n3, p0c1n3, p0c2n3, p0c3n3⟩, _, _, _, _⟩ := K2.facts
        obtain ⟨f0n3, f1n3, f2n3, f3n3⟩ := K2.free (i := 0) rfl
        obtain ⟨e0xn3, e0yn3⟩ := K2.ne 0 1 rfl rfl (by decide)
        refine hK.out _ _ ?_ (fun hHeld3 => ?_)
        · ((try dsimp only); first | go_keep | (trace_state; fail))
        clear hK K hHeld2
        (try simp only [Act.put, List.setIfInBounds_toArray, List.set_cons_zero, List.set_cons_succ])
        refine wpAnyH_ready (rs := [4]) (by kernel_rfl) (by simp) ?_
        refine AllReadyH.cons (o := ⟨none, _, _, _, _, _⟩) rfl (fun K hK => ?_) AllReadyH.nil
        go_simp
        refine hK.out _ _ ?_ (fun hHeld4 => ?_)
        · ((try dsimp only); first | go_keep | (trace_state; fail))
        clear hK K hHeld3
        (try simp only [Act.put, List.setIfInBounds_toArray, List.set_cons_zero, List.set_cons_succ])
        refine wpAnyH_done (by kernel_rfl) ?_ _
        go_wp2_with fail
        go_meet
        have KF := K2.put4 0 rfl (decide (m < 0)) X2 l2 q2 (decide (n < 0)) Y2 m2 r2
        (try simp only [List.set, World.size_alloc, World.size_setCell] at KF)
        exact ⟨_, X2, l2, q2, Y2, m2, r2, rfl, KF.ints_ ⟨KF.ints.1, KF.ints.2.1, KF.ints.2.2.2.2.1, KF.ints.2.2.2.2.2.1, KF.ints.2.2.2.2.2.2.1, KF.ints.2.2.2.2.2.2.2.1, KF.ints.2.2.2.2.2.2.2.2.1, KF.ints.2.2.2.2.2.2.2.2.2.1, trivial⟩⟩
      refine AllReadyH.cons (o := ⟨some 6, _, _, _, _, _⟩) rfl (fun K hK => ?_) AllReadyH.nil
      go_simp
      have KA := KZ.new 26 (Plains.four false none 0 0 false none 0 0)
      (try simp only [World.size_alloc] at KA)
      obtain ⟨⟨b0n1, b1n1, b2n1, b3n1⟩, ⟨p0c0n1, p0c1n1, p0c2n1, p0c3n1⟩, _, _, _, _⟩ := KA.facts
      obtain ⟨f0n1, f1n1, f2n1, f3n1⟩ := KA.free (i := 0) rfl
      obtain ⟨e0xn1, e0yn1⟩ := KA.ne 0 1 rfl rfl (by decide)
      refine hK.out _ _ ?_ (fun hHeld1 => ?_)
      · ((try dsimp only); first | go_keep | (trace_state; fail))
      clear hK K hHeld0
      (try simp only [Act.put, List.setIfInBounds_toArray, List.set_cons_zero, List.set_cons_succ])
      refine wpAnyH_ready (rs := [1]) (by kernel_rfl) (by simp) ?_
      refine AllReadyH.cons (o := ⟨some 22, _, _, _, _, _⟩) rfl (fun K hK => ?_) AllReadyH.nil
      go_simp
      (go_at_call 30; (with_reducible refine (whole_any 1 (by decide) (by decide) _).mono ?_); rw [HO.out.1, HO.out.2]; rintro ee w1 ⟨X1, l1, q1, Y1, m1, r1, rfl, d1, h1, v1⟩)
      (try go_wp2_with fail)
      have K1 := ((KA.drew.call v1).add h1).add d1
      clear b0n1 b1n1 b2n1 b3n1 p0c0n1 p0c1n1 p0c2n1 p0c3n1 f0n1 f1n1 f2n1 f3n1 e0xn1 e0yn1
      obtain ⟨⟨b0n2, b1n2, b2n2, b3n2⟩, ⟨p0c0n2, p0c1n2, p0c2n2, p0c3n2⟩, _, _, _, _⟩ := K1.facts
      obtain ⟨f0n2, f1n2, f2n2, f3n2⟩ := K1.free (i := 0) rfl
      obtain ⟨e0xn2, e0yn2⟩ := K1.ne 0 1 rfl rfl (by decide)
      refine hK.out _ _ ?_ (fun hHeld2 => ?_)
      · ((try dsimp only); first | go_keep | (trace_state; fail))
      clear hK K hHeld1
      (try simp only [Act.put, List.setIfInBounds_toArray, List.set_cons_zero, List.set_cons_succ])
      refine wpAnyH_ready (rs := [2]) (by kernel_rfl) (by simp) ?_
      refine AllReadyH.cons (o := ⟨some 23, _, _, _, _, _⟩) rfl (fun K hK => ?_) AllReadyH.nil
      go_simp
      have g2_0 := K1.ints.2.2.1.ci k_x
      have g2_1 := K1.ints.2.2.2.1.ci k_y
      have g2_2 := K1.ints.1.ci k_o
      have g2_3 := K1.ints.2.1.ci k_p
      (go_at_call 62; (with_reducible refine (raddF_at g2_0 g2_1 g2_2 g2_3 zx910 zy910 zo910 zp910).mono ?_); rw [HM.out.1, HM.out.2]; rintro ee w2 ⟨X2, l2, q2, Y2, m2, r2, rfl, d2, h2, v2⟩)
      (try go_wp2_with fail)
      have K2 := ((K1.call v2).add h2).add d2
      clear b0n2 b1n2 b2n2 b3n2 p0c0n2 p0c1n2 p0c2n2 p0c3n2 f0n2 f1n2 f2n2 f3n2 e0xn2 e0yn2
      obtain ⟨⟨b0n3, b1n3, b2n3, b3n3⟩, ⟨p0c0n3, p0c1n3, p0c2n3, p0c3n3⟩, _, _, _, _⟩ := K2.facts
      obtain ⟨f0n3, f1n3, f2n3, f3n3⟩ := K2.free (i := 0) rfl
      obtain ⟨e0xn3, e0yn3⟩ := K2.ne 0 1 rfl rfl (by decide)
      refine hK.out _ _ ?_ (fun hHeld3 => ?_)
      · ((try dsimp only); first | go_keep | (trace_state; fail))
      clear hK K hHeld2
      (try simp only [Act.put, List.setIfInBounds_toArray, List.set_cons_zero, List.set_cons_succ])
      refine wpAnyH_ready (rs := [4]) (by kernel_rfl) (by simp) ?_
      refine AllReadyH.cons (o := ⟨none, _, _, _, _, _⟩) rfl (fun K hK => ?_) AllReadyH.nil
      go_simp
      refine hK.out _ _ ?_ (fun hHeld4 => ?_)
      · ((try dsimp only); first | go_keep | (trace_state; fail))
      clear hK K hHeld3
      (try simp only [Act.put, List.setIfInBounds_toArray, List.set_cons_zero, List.set_cons_succ])
      refine wpAnyH_done (by kernel_rfl) ?_ _
      go_wp2_with fail
      go_meet
      have KF := K2.put4 0 rfl (decide (m < 0)) X2 l2 q2 (decide (n < 0)) Y2 m2 r2
      (try simp only [List.set, World.size_alloc, World.size_setCell] at KF)
      exact ⟨_, X2, l2, q2, Y2, m2, r2, rfl, KF.ints_ ⟨KF.ints.1, KF.ints.2.1, KF.ints.2.2.2.2.1, KF.ints.2.2.2.2.2.1, KF.ints.2.2.2.2.2.2.1, KF.ints.2.2.2.2.2.2.2.1, KF.ints.2.2.2.2.2.2.2.2.1, KF.ints.2.2.2.2.2.2.2.2.2.1, trivial⟩⟩
    case rest =>
    clear KC
    obtain ⟨h_6, X_6, l_6, q_6, Y_6, m_6, r_6, rfl, KN6⟩ := hcut
    obtain ⟨⟨t00, t01, t02, t03⟩, ⟨t10, t11, t12, t13⟩, ⟨t20, t21, t22, t23⟩, ⟨t30, t31, t32, t33⟩, ⟨t40, t41, t42, t43⟩, _⟩ := KN6.facts
    have hc2' := hc2.out
    go_wp2_with (first
      | (go_at_call 28; have j1 := KN6.ints.1.ci k_m; have j2 := KN6.ints.2.1.ci k_n; have j3 := KN6.ints.2.2.2.2.2.1.i; have j4 := KN6.ints.2.2.2.2.1.i; (with_reducible refine (rcompareF_at j1 j2 j3 j4 z_m z_n z_c z_d).mono ?_); rw [HC2.out]; rintro e w4 ⟨rfl, g4⟩; have KD := KN6.call g4; clear j1 j2 j3 j4 t00 t01 t02 t03 t10 t11 t12 t13 t20 t21 t22 t23 t30 t31 t32 t33 t40 t41 t42 t43; obtain ⟨⟨t00, t01, t02, t03⟩, ⟨t10, t11, t12, t13⟩, ⟨t20, t21, t22, t23⟩, ⟨t30, t31, t32, t33⟩, ⟨t40, t41, t42, t43⟩, _⟩ := KD.facts; obtain ⟨f0, f1, f2, f3⟩ := KD.free (i := 2) rfl)
      | fail)
    have KR := KD.put4 2 rfl (decide (m < 0)) X_6 l_6 q_6 (decide (n < 0)) Y_6 m_6 r_6
    simp only [List.set] at KR
    obtain ⟨_, _, ⟨r0, r1, r2, r3⟩, _⟩ := KR.facts
    exact bodyPost_ret (v := .agg #[.bool (decide (m < 0)), .slice X_6 l_6 q_6, .bool (decide (n < 0)), .slice Y_6 m_6 r_6]) (by simp [results, Try.results32, go_sem, r0, r1, r2, r3]) rfl (RetFr.of_st (k := []) (KR.ints_ ⟨KR.ints.1, KR.ints.2.1, trivial⟩))
  have hc2 : Hid (c2v = 1) := by unfold Hid; rw [← HC2.out, HMN.out.1, HMN.out.2, hsps.cmp2]; exact hsps.ne2 hr1
  obtain ⟨hT, _⟩ := hsps.next hr0 hr1
  obtain ⟨sx, HS1⟩ : ∃ v, Hid (aN c d (-x) y = v) := ⟨_, rfl⟩
  obtain ⟨sy, HS2⟩ : ∃ v, Hid (aD c d (-x) y = v) := ⟨_, rfl⟩
  have HS : Hid (aN c d (-x) y = sx ∧ aD c d (-x) y = sy) := ⟨HS1.out, HS2.out⟩
  have HSS : Hid (sx = c % d ∧ sy = d) := by unfold Hid; rw [← HS1.out, ← HS2.out, HXY.out.1, HXY.out.2]; exact hT.s1
  obtain ⟨tx, HT1⟩ : ∃ v, Hid (aN a b (-x) y = v) := ⟨_, rfl⟩
  obtain ⟨ty, HT2⟩ : ∃ v, Hid (aD a b (-x) y = v) := ⟨_, rfl⟩
  have HT : Hid (aN a b (-x) y = tx ∧ aD a b (-x) y = ty) := ⟨HT1.out, HT2.out⟩
  have HTT : Hid (tx = a % b ∧ ty = b) := by unfold Hid; rw [← HT1.out, ← HT2.out, HXY.out.1, HXY.out.2]; exact hT.s2
  obtain ⟨ax, HA1⟩ : ∃ v, Hid (dvN o p sx sy = v) := ⟨_, rfl⟩
  obtain ⟨ay, HA2⟩ : ∃ v, Hid (dvD o p sx sy = v) := ⟨_, rfl⟩
  obtain ⟨ae, HA3⟩ : ∃ v, Hid (dvE sx sy = v) := ⟨_, rfl⟩
  have HA : Hid (ax = d ∧ ay = c % d) := by unfold Hid; rw [← HA1.out, ← HA2.out, HOP.out.1, HOP.out.2, HSS.out.1, HSS.out.2]; exact ⟨hT.t1.1, hT.t1.2.1⟩
  obtain ⟨bx, HB1⟩ : ∃ v, Hid (dvN o p tx ty = v) := ⟨_, rfl⟩
  obtain ⟨by_, HB2⟩ : ∃ v, Hid (dvD o p tx ty = v) := ⟨_, rfl⟩
  obtain ⟨be, HB3⟩ : ∃ v, Hid (dvE tx ty = v) := ⟨_, rfl⟩
  have HB : Hid (bx = b ∧ by_ = a % b) := by unfold Hid; rw [← HB1.out, ← HB2.out, HOP.out.1, HOP.out.2, HTT.out.1, HTT.out.2]; exact ⟨hT.t2.1, hT.t2.2.1⟩
  obtain ⟨u, HU1⟩ : ∃ v, Hid ((simpl k ax ay bx by_).1 = v) := ⟨_, rfl⟩
  obtain ⟨v, HU2⟩ : ∃ v, Hid ((simpl k ax ay bx by_).2 = v) := ⟨_, rfl⟩
  have hU : SpU k a b c d q u v := by
    refine hsps.last hr0 hr1 (by omega) ?_ ?_
    · rw [← HU1.out, HA.out.1, HA.out.2, HB.out.1, HB.out.2]
    · rw [← HU2.out, HA.out.1, HA.out.2, HB.out.1, HB.out.2]
  obtain ⟨cx, HV1⟩ : ∃ z, Hid (dvN o p u v = z) := ⟨_, rfl⟩
  obtain ⟨cy, HV2⟩ : ∃ z, Hid (dvD o p u v = z) := ⟨_, rfl⟩
  obtain ⟨ce, HV3⟩ : ∃ z, Hid (dvE u v = z) := ⟨_, rfl⟩
  have HVV : Hid (cx = v ∧ cy = u) := by unfold Hid; rw [← HV1.out, ← HV2.out, HOP.out.1, HOP.out.2]; exact ⟨hU.v.1, hU.v.2.1⟩
  have HF : Hid (aN x y cx cy = rp ∧ aD x y cx cy = rq) := by unfold Hid; rw [HXY.out.1, HXY.out.2, HVV.out.1, HVV.out.2, ← HRP.out, ← HRQ.out]; exact hU.f
  have r1 := hT.dc
  have r2 := hT.ba
  have q1 := hT.p4.pb
  have q2 := hT.p4.pd
  have hd0 := hp.pd
  have zsx : Sz sx 100 := by rw [HSS.out.1]; exact zd.le (by omega)
  have zsy : Sz sy 100 := by rw [HSS.out.2]; exact zd
  have ztx : Sz tx 100 := by rw [HTT.out.1]; exact zb.le (by omega)
  have zty : Sz ty 100 := by rw [HTT.out.2]; exact zb
  have zax : Sz ax 100 := by rw [HA.out.1]; exact zd
  have zay : Sz ay 100 := by rw [HA.out.2]; exact zd.le (by omega)
  have zbx : Sz bx 100 := by rw [HB.out.1]; exact zb
  have zby_ : Sz by_ 100 := by rw [HB.out.2]; exact zb.le (by omega)
  have zu : Sz u 100 := zd.le (by have := hU.pd; omega)
  have zv : Sz v 100 := zd.le (by have := hU.qc; omega)
  have zcx : Sz cx 100 := by rw [HVV.out.1]; exact zv
  have zcy : Sz cy 100 := by rw [HVV.out.2]; exact zu
  have z_sx : Sz sx 900 := zsx.mono (by decide)
  have k_sx := zsx.ok
  have z_sy : Sz sy 900 := zsy.mono (by decide)
  have k_sy := zsy.ok
  have z_tx : Sz tx 900 := ztx.mono (by decide)
  have k_tx := ztx.ok
  have z_ty : Sz ty 900 := zty.mono (by decide)
  have k_ty := zty.ok
  have z_ax : Sz ax 900 := zax.mono (by decide)
  have k_ax := zax.ok
  have z_ay : Sz ay 900 := zay.mono (by decide)
  have k_ay := zay.ok
  have z_bx : Sz bx 900 := zbx.mono (by decide)
  have k_bx := zbx.ok
  have z_by_ : Sz by_ 900 := zby_.mono (by decide)
  have k_by_ := zby_.ok
  have z_u : Sz u 900 := zu.mono (by decide)
  have k_u := zu.ok
  have z_v : Sz v 900 := zv.mono (by decide)
  have k_v := zv.ok
  have z_cx : Sz cx 900 := zcx.mono (by decide)
  have k_cx := zcx.ok
  have z_cy : Sz cy 900 := zcy.mono (by decide)
  have k_cy := zcy.ok
  have zcx910 : Sz cx 910 := zcx.mono (by decide)
  have zcy910 : Sz cy 910 := zcy.mono (by decide)
  have hp4 : Pos4 ax ay bx by_ := by rw [HA.out.1, HA.out.2, HB.out.1, HB.out.2]; exact hT.p4
  have hG1 : Int.gcd ax ay = 1 := by rw [HA.out.1, HA.out.2]; exact hT.g1
  have hG2 : Int.gcd bx by_ = 1 := by rw [HB.out.1, HB.out.2]; exact hT.g2
  have hfu : ay + by_ ≤ k := by rw [HA.out.2, HB.out.2]; have := hT.fu; omega
  have hIH := fun (w : World) (s1 s2 s3 s4 : Bool) (A1 A2 A3 A4 : Option Addr) (n1 c1 n2 c2 n3 c3 n4 c4 : Nat) (h1 : IntAt w s1 A1 n1 c1 ax) (h2 : IntAt w s2 A2 n2 c2 ay) (h3 : IntAt w s3 A3 n3 c3 bx) (h4 : IntAt w s4 A4 n4 c4 by_) => ih h1 h2 h3 h4 zax zay zbx zby_ hp4 hG1 hG2 hfu
  clear hT hU hsps r1 r2 q1 q2 hp4 hG1 hG2 hfu hr0 hr1 hp ih
  go_enter Try.func32, Try.ntmps32
  go_upto_region 2 with (first
    | (go_at_call 61; have K := HH.out; clear HH; have i1 := K.ints.2.2.2.1.i; have i2 := K.ints.2.2.1.i; (with_reducible refine (rfloor_at i1 i2 za1 zb1).mono ?_); rw [HQ.out]; rintro e w1 ⟨B1, m1, k1, rfl, d1, u1, v1, g1⟩; have K1 := (K.call g1).add (CanAt.mk_ d1 u1 v1); have iq := K1.ints.1.ci kq)
    | (go_at_call 59; (with_reducible refine (rfromInt_at iq zq1).mono ?_); rw [HX1.out, HX2.out]; rintro e w2 ⟨X_5, l_5, q_5, Y_5, m_5, r_5, rfl, d2, d3, g2⟩; have K2 := ((K1.call g2).add d3).add d2; have K3 := K2.new 26 (Plains.four (decide (x < 0)) X_5 l_5 q_5 (decide (y < 0)) Y_5 m_5 r_5))
    | fail)
  (try simp only [World.size_alloc] at K3)
  have KB := K3.ints_ (k' := [(decide (x < 0), X_5, l_5, q_5, x, true), (decide (y < 0), Y_5, m_5, r_5, y, true), (s4, A4, n4, c4, d, false), (s3, A3, n3, c3, c, false), (s2, A2, n2, c2, b, false), (s1, A1, n1, c1, a, false)]) ⟨K3.ints.1, K3.ints.2.1, K3.ints.2.2.2.1, K3.ints.2.2.2.2.1, K3.ints.2.2.2.2.2.1, K3.ints.2.2.2.2.2.2.1, trivial⟩
  clear K K1 K2 K3 iq d1 u1 v1 d2 d3 g1 g2 i1 i2
  generalize w2.alloc (.cells #[.bool (decide (x < 0)), .slice X_5 l_5 q_5, .bool (decide (y < 0)), .slice Y_5 m_5 r_5] 26) = W5 at KB ⊢
  generalize w2.heap.size = h_5 at KB ⊢
  obtain ⟨⟨t00, t01, t02, t03⟩, ⟨t10, t11, t12, t13⟩, ⟨t20, t21, t22, t23⟩, ⟨t30, t31, t32, t33⟩, _⟩ := KB.facts
  go_upto_region 4 with (first
    | (go_at_call 28; have j1 := KB.ints.1.ci k_x; have j2 := KB.ints.2.1.ci k_y; have j3 := KB.ints.2.2.2.2.2.1.i; have j4 := KB.ints.2.2.2.2.1.i; (with_reducible refine (rcompareF_at j1 j2 j3 j4 z_x z_y z_a z_b).mono ?_); rw [HC1.out]; rintro e w3 ⟨rfl, g3⟩; have KC := KB.call g3; clear t00 t01 t02 t03 t10 t11 t12 t13 t20 t21 t22 t23 t30 t31 t32 t33 j1 j2 j3 j4; obtain ⟨⟨t00, t01, t02, t03⟩, ⟨t10, t11, t12, t13⟩, ⟨t20, t21, t22, t23⟩, ⟨t30, t31, t32, t33⟩, _⟩ := KC.facts; obtain ⟨f0, f1, f2, f3⟩ := KC.free (i := 1) rfl; rw [hc1.out])
    | fail)
  clear t00 t01 t02 t03 t10 t11 t12 t13 t20 t21 t22 t23 t30 t31 t32 t33 f0 f1 f2 f3 KB g3
  go_cut [6] (fun vx wx => ∃ (h_6 : Nat) (X_6 : Option Addr) (l_6 q_6 : Nat) (Y_6 : Option Addr) (m_6 r_6 : Nat), vx = .pointer (some ⟨h_6, 0, none⟩) ∧ St w wx [vf h_6 (decide (m < 0)) X_6 l_6 q_6 (decide (n < 0)) Y_6 m_6 r_6, vf h_5 (decide (x < 0)) X_5 l_5 q_5 (decide (y < 0)) Y_5 m_5 r_5, vf (w.heap.size + 1 + 1) false none 0 0 false none 0 0, vf (w.heap.size + 1) s3 A3 n3 c3 s4 A4 n4 c4, vf w.heap.size s1 A1 n1 c1 s2 A2 n2 c2] [(decide (m < 0), X_6, l_6, q_6, m, true), (decide (n < 0), Y_6, m_6, r_6, n, true), (decide (x < 0), X_5, l_5, q_5, x, true), (decide (y < 0), Y_5, m_5, r_5, y, true), (s4, A4, n4, c4, d, false), (s3, A3, n3, c3, c, false), (s2, A2, n2, c2, b, false), (s1, A1, n1, c1, a, false)])
  case first =>
    have KZ := KC
    clear KC
    obtain ⟨⟨o00, o01, o02, o03⟩, _, _, _, _⟩ := KZ.facts
    skip
    refine wp_region_held_drew (S := fun w' => w'.cell? ⟨h_5, 0, none⟩ = some (.bool (decide (x < 0))) ∧ w'.cell? ⟨h_5, 1, none⟩ = some (.slice X_5 l_5 q_5) ∧ w'.cell? ⟨h_5, 2, none⟩ = some (.bool (decide (y < 0))) ∧ w'.cell? ⟨h_5, 3, none⟩ = some (.slice Y_5 m_5 r_5)) (by kernel_rfl) ?_ (fun hHeld0 => ?_)
    · ((try dsimp only); go_keep)
    refine wpAnyH_take (i := 0) (oi := ⟨some 21, _, _, _, _, _⟩) (v := ?_) rfl (by kernel_rfl) (by kernel_rfl) (by kernel_rfl) (fun _ _ _ h => h) (Or.inl ⟨by rfl, ?_⟩) (by assumption) ?_
    rotate_left
    · (intro w' hSw; (try dsimp only at hSw); go_simp; (try with_reducible rfl))
    (try simp only [Act.put, List.setIfInBounds_toArray, List.set_cons_zero, List.set_cons_succ])
    refine wpAnyH_ready (rs := [1, 3]) (by kernel_rfl) (by simp) ?_
    refine AllReadyH.cons (o := ⟨some 22, _, _, _, _, _⟩) rfl (fun K hK => ?_) ?_
    · skip
      go_simp
      (go_at_call 30; (with_reducible refine (whole_any 1 (by decide) (by decide) _).mono ?_); rw [HO.out.1, HO.out.2]; rintro ee w1 ⟨X1, l1, q1, Y1, m1, r1, rfl, d1, h1, v1⟩)
      (try go_wp2_with fail)
      have K1 := ((KZ.drew.call v1).add h1).add d1
      obtain ⟨⟨p0c0n1, p0c1n1, p0c2n1, p0c3n1⟩, _, _, _, _⟩ := K1.facts
      refine hK.out _ _ ?_ (fun hHeld1 => ?_)
      · ((try dsimp only); first | go_keep | (trace_state; fail))
      clear hK K hHeld0
      (try simp only [Act.put, List.setIfInBounds_toArray, List.set_cons_zero, List.set_cons_succ])
      refine wpAnyH_ready (rs := [2, 3]) (by kernel_rfl) (by simp) ?_
      refine AllReadyH.cons (o := ⟨some 23, _, _, _, _, _⟩) rfl (fun K hK => ?_) ?_
      · skip
        go_simp
        have g2_0 := K1.ints.2.2.1.ci k_x
        have g2_1 := K1.ints.2.2.2.1.ci k_y
        have g2_2 := K1.ints.1.ci k_o
        have g2_3 := K1.ints.2.1.ci k_p
        (go_at_call 62; (with_reducible refine (raddF_at g2_0 g2_1 g2_2 g2_3 zx910 zy910 zo910 zp910).mono ?_); rw [HM.out.1, HM.out.2]; rintro ee w2 ⟨X2, l2, q2, Y2, m2, r2, rfl, d2, h2, v2⟩)
        (try go_wp2_with fail)
        have K2 := ((K1.call v2).add h2).add d2
        clear p0c0n1 p0c1n1 p0c2n1 p0c3n1
        obtain ⟨⟨p0c0n2, p0c1n2, p0c2n2, p0c3n2⟩, _, _, _, _⟩ := K2.facts
        refine hK.out _ _ ?_ (fun hHeld2 => ?_)
        · ((try dsimp only); first | go_keep | (trace_state; fail))
        clear hK K hHeld1
        (try simp only [Act.put, List.setIfInBounds_toArray, List.set_cons_zero, List.set_cons_succ])
        refine wpAnyH_ready (rs := [3]) (by kernel_rfl) (by simp) ?_
        refine AllReadyH.cons (o := ⟨some 6, _, _, _, _, _⟩) rfl (fun K hK => ?_) AllReadyH.nil
        go_simp
        have KA := K2.new 26 (Plains.four false none 0 0 false none 0 0)
        (try simp only [World.size_alloc] at KA)
        obtain ⟨⟨b0n3, b1n3, b2n3, b3n3⟩, ⟨p0c0n3, p0c1n3, p0c2n3, p0c3n3⟩, _, _, _, _⟩ := KA.facts
        obtain ⟨f0n3, f1n3, f2n3, f3n3⟩ := KA.free (i := 0) rfl
        obtain ⟨e0xn3, e0yn3⟩ := KA.ne 0 1 rfl rfl (by decide)
        refine hK.out _ _ ?_ (fun hHeld3 => ?_)
        · ((try dsimp only); first | go_keep | (trace_state; fail))
        clear hK K hHeld2
        (try simp only [Act.put, List.setIfInBounds_toArray, List.set_cons_zero, List.set_cons_succ])
        refine wpAnyH_ready (rs := [4]) (by kernel_rfl) (by simp) ?_
        refine AllReadyH.cons (o := ⟨none, _, _, _, _, _⟩) rfl (fun K hK => ?_) AllReadyH.nil
        go_simp
        refine hK.out _ _ ?_ (fun hHeld4 => ?_)
        · ((try dsimp only); first | go_keep | (trace_state; fail))
        clear hK K hHeld3
        (try simp only [Act.put, List.setIfInBounds_toArray, List.set_cons_zero, List.set_cons_succ])
        refine wpAnyH_done (by kernel_rfl) ?_ _
        go_wp2_with fail
        go_meet
        have KF := K2.new 26 (Plains.four (decide (m < 0)) X2 l2 q2 (decide (n < 0)) Y2 m2 r2)
        (try simp only [List.set, World.size_alloc, World.size_setCell] at KF)
        exact ⟨_, X2, l2, q2, Y2, m2, r2, rfl, KF.ints_ ⟨KF.ints.1, KF.ints.2.1, KF.ints.2.2.2.2.1, KF.ints.2.2.2.2.2.1, KF.ints.2.2.2.2.2.2.1, KF.ints.2.2.2.2.2.2.2.1, KF.ints.2.2.2.2.2.2.2.2.1, KF.ints.2.2.2.2.2.2.2.2.2.1, trivial⟩⟩
      refine AllReadyH.cons (o := ⟨some 6, _, _, _, _, _⟩) rfl (fun K hK => ?_) AllReadyH.nil
      go_simp
      have KA := K1.new 26 (Plains.four false none 0 0 false none 0 0)
      (try simp only [World.size_alloc] at KA)
      obtain ⟨⟨b0n2, b1n2, b2n2, b3n2⟩, ⟨p0c0n2, p0c1n2, p0c2n2, p0c3n2⟩, _, _, _, _⟩ := KA.facts
      obtain ⟨f0n2, f1n2, f2n2, f3n2⟩ := KA.free (i := 0) rfl
      obtain ⟨e0xn2, e0yn2⟩ := KA.ne 0 1 rfl rfl (by decide)
      refine hK.out _ _ ?_ (fun hHeld2 => ?_)
      · ((try dsimp only); first | go_keep | (trace_state; fail))
      clear hK K hHeld1
      (try simp only [Act.put, List.setIfInBounds_toArray, List.set_cons_zero, List.set_cons_succ])
      refine wpAnyH_ready (rs := [2]) (by kernel_rfl) (by simp) ?_
      refine AllReadyH.cons (o := ⟨some 23, _, _, _, _, _⟩) rfl (fun K hK => ?_) AllReadyH.nil
      go_simp
      have g2_0 := KA.ints.2.2.1.ci k_x
      have g2_1 := KA.ints.2.2.2.1.ci k_y
      have g2_2 := KA.ints.1.ci k_o
      have g2_3 := KA.ints.2.1.ci k_p
      (go_at_call 62; (with_reducible refine (raddF_at g2_0 g2_1 g2_2 g2_3 zx910 zy910 zo910 zp910).mono ?_); rw [HM.out.1, HM.out.2]; rintro ee w2 ⟨X2, l2, q2, Y2, m2, r2, rfl, d2, h2, v2⟩)
      (try go_wp2_with fail)
      have K2 := ((KA.call v2).add h2).add d2
      clear p0c0n1 p0c1n1 p0c2n1 p0c3n1 b0n2 b1n2 b2n2 b3n2 p0c0n2 p0c1n2 p0c2n2 p0c3n2 f0n2 f1n2 f2n2 f3n2 e0xn2 e0yn2
      obtain ⟨⟨b0n3, b1n3, b2n3, b3n3⟩, ⟨p0c0n3, p0c1n3, p0c2n3, p0c3n3⟩, _, _, _, _⟩ := K2.facts
      obtain ⟨f0n3, f1n3, f2n3, f3n3⟩ := K2.free (i := 0) rfl
      obtain ⟨e0xn3, e0yn3⟩ := K2.ne 0 1 rfl rfl (by decide)
      refine hK.out _ _ ?_ (fun hHeld3 => ?_)
      · ((try dsimp only); first | go_keep | (trace_state; fail))
      clear hK K hHeld2
      (try simp only [Act.put, List.setIfInBounds_toArray, List.set_cons_zero, List.set_cons_succ])
      refine wpAnyH_ready (rs := [4]) (by kernel_rfl) (by simp) ?_
      refine AllReadyH.cons (o := ⟨none, _, _, _, _, _⟩) rfl (fun K hK => ?_) AllReadyH.nil
      go_simp
      refine hK.out _ _ ?_ (fun hHeld4 => ?_)
      · ((try dsimp only); first | go_keep | (trace_state; fail))
      clear hK K hHeld3
      (try simp only [Act.put, List.setIfInBounds_toArray, List.set_cons_zero, List.set_cons_succ])
      refine wpAnyH_done (by kernel_rfl) ?_ _
      go_wp2_with fail
      go_meet
      have KF := K2.put4 0 rfl (decide (m < 0)) X2 l2 q2 (decide (n < 0)) Y2 m2 r2
      (try simp only [List.set, World.size_alloc, World.size_setCell] at KF)
      exact ⟨_, X2, l2, q2, Y2, m2, r2, rfl, KF.ints_ ⟨KF.ints.1, KF.ints.2.1, KF.ints.2.2.2.2.1, KF.ints.2.2.2.2.2.1, KF.ints.2.2.2.2.2.2.1, KF.ints.2.2.2.2.2.2.2.1, KF.ints.2.2.2.2.2.2.2.2.1, KF.ints.2.2.2.2.2.2.2.2.2.1, trivial⟩⟩
    refine AllReadyH.cons (o := ⟨some 6, _, _, _, _, _⟩) rfl (fun K hK => ?_) AllReadyH.nil
    go_simp
    have KA := KZ.new 26 (Plains.four false none 0 0 false none 0 0)
    (try simp only [World.size_alloc] at KA)
    obtain ⟨⟨b0n1, b1n1, b2n1, b3n1⟩, ⟨p0c0n1, p0c1n1, p0c2n1, p0c3n1⟩, _, _, _, _⟩ := KA.facts
    obtain ⟨f0n1, f1n1, f2n1, f3n1⟩ := KA.free (i := 0) rfl
    obtain ⟨e0xn1, e0yn1⟩ := KA.ne 0 1 rfl rfl (by decide)
    refine hK.out _ _ ?_ (fun hHeld1 => ?_)
    · ((try dsimp only); first | go_keep | (trace_state; fail))
    clear hK K hHeld0
    (try simp only [Act.put, List.setIfInBounds_toArray, List.set_cons_zero, List.set_cons_succ])
    refine wpAnyH_ready (rs := [1]) (by kernel_rfl) (by simp) ?_
    refine AllReadyH.cons (o := ⟨some 22, _, _, _, _, _⟩) rfl (fun K hK => ?_) AllReadyH.nil
    go_simp
    (go_at_call 30; (with_reducible refine (whole_any 1 (by decide) (by decide) _).mono ?_); rw [HO.out.1, HO.out.2]; rintro ee w1 ⟨X1, l1, q1, Y1, m1, r1, rfl, d1, h1, v1⟩)
    (try go_wp2_with fail)
    have K1 := ((KA.drew.call v1).add h1).add d1
    clear b0n1 b1n1 b2n1 b3n1 p0c0n1 p0c1n1 p0c2n1 p0c3n1 f0n1 f1n1 f2n1 f3n1 e0xn1 e0yn1
    obtain ⟨⟨b0n2, b1n2, b2n2, b3n2⟩, ⟨p0c0n2, p0c1n2, p0c2n2, p0c3n2⟩, _, _, _, _⟩ := K1.facts
    obtain ⟨f0n2, f1n2, f2n2, f3n2⟩ := K1.free (i := 0) rfl
    obtain ⟨e0xn2, e0yn2⟩ := K1.ne 0 1 rfl rfl (by decide)
    refine hK.out _ _ ?_ (fun hHeld2 => ?_)
    · ((try dsimp only); first | go_keep | (trace_state; fail))
    clear hK K hHeld1
    (try simp only [Act.put, List.setIfInBounds_toArray, List.set_cons_zero, List.set_cons_succ])
    refine wpAnyH_ready (rs := [2]) (by kernel_rfl) (by simp) ?_
    refine AllReadyH.cons (o := ⟨some 23, _, _, _, _, _⟩) rfl (fun K hK => ?_) AllReadyH.nil
    go_simp
    have g2_0 := K1.ints.2.2.1.ci k_x
    have g2_1 := K1.ints.2.2.2.1.ci k_y
    have g2_2 := K1.ints.1.ci k_o
    have g2_3 := K1.ints.2.1.ci k_p
    (go_at_call 62; (with_reducible refine (raddF_at g2_0 g2_1 g2_2 g2_3 zx910 zy910 zo910 zp910).mono ?_); rw [HM.out.1, HM.out.2]; rintro ee w2 ⟨X2, l2, q2, Y2, m2, r2, rfl, d2, h2, v2⟩)
    (try go_wp2_with fail)
    have K2 := ((K1.call v2).add h2).add d2
    clear b0n2 b1n2 b2n2 b3n2 p0c0n2 p0c1n2 p0c2n2 p0c3n2 f0n2 f1n2 f2n2 f3n2 e0xn2 e0yn2
    obtain ⟨⟨b0n3, b1n3, b2n3, b3n3⟩, ⟨p0c0n3, p0c1n3, p0c2n3, p0c3n3⟩, _, _, _, _⟩ := K2.facts
    obtain ⟨f0n3, f1n3, f2n3, f3n3⟩ := K2.free (i := 0) rfl
    obtain ⟨e0xn3, e0yn3⟩ := K2.ne 0 1 rfl rfl (by decide)
    refine hK.out _ _ ?_ (fun hHeld3 => ?_)
    · ((try dsimp only); first | go_keep | (trace_state; fail))
    clear hK K hHeld2
    (try simp only [Act.put, List.setIfInBounds_toArray, List.set_cons_zero, List.set_cons_succ])
    refine wpAnyH_ready (rs := [4]) (by kernel_rfl) (by simp) ?_
    refine AllReadyH.cons (o := ⟨none, _, _, _, _, _⟩) rfl (fun K hK => ?_) AllReadyH.nil
    go_simp
    refine hK.out _ _ ?_ (fun hHeld4 => ?_)
    · ((try dsimp only); first | go_keep | (trace_state; fail))
    clear hK K hHeld3
    (try simp only [Act.put, List.setIfInBounds_toArray, List.set_cons_zero, List.set_cons_succ])
    refine wpAnyH_done (by kernel_rfl) ?_ _
    go_wp2_with fail
    go_meet
    have KF := K2.put4 0 rfl (decide (m < 0)) X2 l2 q2 (decide (n < 0)) Y2 m2 r2
    (try simp only [List.set, World.size_alloc, World.size_setCell] at KF)
    exact ⟨_, X2, l2, q2, Y2, m2, r2, rfl, KF.ints_ ⟨KF.ints.1, KF.ints.2.1, KF.ints.2.2.2.2.1, KF.ints.2.2.2.2.2.1, KF.ints.2.2.2.2.2.2.1, KF.ints.2.2.2.2.2.2.2.1, KF.ints.2.2.2.2.2.2.2.2.1, KF.ints.2.2.2.2.2.2.2.2.2.1, trivial⟩⟩
  case rest =>
  clear KC
  obtain ⟨h_6, X_6, l_6, q_6, Y_6, m_6, r_6, rfl, KN6⟩ := hcut
  obtain ⟨⟨t00, t01, t02, t03⟩, ⟨t10, t11, t12, t13⟩, ⟨t20, t21, t22, t23⟩, ⟨t30, t31, t32, t33⟩, ⟨t40, t41, t42, t43⟩, _⟩ := KN6.facts
  go_upto_region 7 with (first
    | (go_at_call 28; have j1 := KN6.ints.1.ci k_m; have j2 := KN6.ints.2.1.ci k_n; have j3 := KN6.ints.2.2.2.2.2.1.i; have j4 := KN6.ints.2.2.2.2.1.i; (with_reducible refine (rcompareF_at j1 j2 j3 j4 z_m z_n z_c z_d).mono ?_); rw [HC2.out]; rintro e w4 ⟨rfl, g4⟩; have KD := KN6.call g4; clear j1 j2 j3 j4 t00 t01 t02 t03 t10 t11 t12 t13 t20 t21 t22 t23 t30 t31 t32 t33 t40 t41 t42 t43; obtain ⟨⟨t00, t01, t02, t03⟩, ⟨t10, t11, t12, t13⟩, ⟨t20, t21, t22, t23⟩, ⟨t30, t31, t32, t33⟩, ⟨t40, t41, t42, t43⟩, _⟩ := KD.facts; obtain ⟨f0, f1, f2, f3⟩ := KD.free (i := 2) rfl; rw [hc2.out])
    | fail)
  clear t00 t01 t02 t03 t10 t11 t12 t13 t20 t21 t22 t23 t30 t31 t32 t33 t40 t41 t42 t43 f0 f1 f2 f3 KN6 g4
  go_cut [7] (fun vx wx => ∃ (h_7 : Nat) (X_7 : Option Addr) (l_7 q_7 : Nat) (Y_7 : Option Addr) (m_7 r_7 : Nat), vx = .pointer (some ⟨h_7, 0, none⟩) ∧ St w wx [vf h_7 (decide (ax < 0)) X_7 l_7 q_7 (decide (ay < 0)) Y_7 m_7 r_7, vf h_6 (decide (m < 0)) X_6 l_6 q_6 (decide (n < 0)) Y_6 m_6 r_6, vf h_5 (decide (x < 0)) X_5 l_5 q_5 (decide (y < 0)) Y_5 m_5 r_5, vf (w.heap.size + 1 + 1) false none 0 0 false none 0 0, vf (w.heap.size + 1) s3 A3 n3 c3 s4 A4 n4 c4, vf w.heap.size s1 A1 n1 c1 s2 A2 n2 c2] [(decide (ax < 0), X_7, l_7, q_7, ax, true), (decide (ay < 0), Y_7, m_7, r_7, ay, true), (decide (m < 0), X_6, l_6, q_6, m, true), (decide (n < 0), Y_6, m_6, r_6, n, true), (decide (x < 0), X_5, l_5, q_5, x, true), (decide (y < 0), Y_5, m_5, r_5, y, true), (s4, A4, n4, c4, d, false), (s3, A3, n3, c3, c, false), (s2, A2, n2, c2, b, false), (s1, A1, n1, c1, a, false)])
  case first =>
    have KZ := KD
    clear KD
    obtain ⟨_, ⟨o10, o11, o12, o13⟩, _, ⟨o30, o31, o32, o33⟩, _, _⟩ := KZ.facts
    skip
    refine wp_region_held_drew (S := fun w' => w'.cell? ⟨h_5, 0, none⟩ = some (.bool (decide (x < 0))) ∧ w'.cell? ⟨h_5, 1, none⟩ = some (.slice X_5 l_5 q_5) ∧ w'.cell? ⟨h_5, 2, none⟩ = some (.bool (decide (y < 0))) ∧ w'.cell? ⟨h_5, 3, none⟩ = some (.slice Y_5 m_5 r_5) ∧ w'.cell? ⟨w.heap.size + 1, 0, none⟩ = some (.bool (s3)) ∧ w'.cell? ⟨w.heap.size + 1, 1, none⟩ = some (.slice A3 n3 c3) ∧ w'.cell? ⟨w.heap.size + 1, 2, none⟩ = some (.bool (s4)) ∧ w'.cell? ⟨w.heap.size + 1, 3, none⟩ = some (.slice A4 n4 c4)) (by kernel_rfl) ?_ (fun hHeld0 => ?_)
    · ((try dsimp only); go_keep)
    refine wpAnyH_take (i := 1) (oi := ⟨some 31, _, _, _, _, _⟩) (v := ?_) rfl (by kernel_rfl) (by kernel_rfl) (by kernel_rfl) (fun _ _ _ h => h) (Or.inl ⟨by rfl, ?_⟩) (by assumption) ?_
    rotate_left
    · (intro w' hSw; (try dsimp only at hSw); go_simp; (try with_reducible rfl))
    (try simp only [Act.put, List.setIfInBounds_toArray, List.set_cons_zero, List.set_cons_succ])
    refine wpAnyH_take (i := 2) (oi := ⟨some 32, _, _, _, _, _⟩) (v := ?_) rfl (by kernel_rfl) (by kernel_rfl) (by kernel_rfl) (fun _ _ _ h => h) (Or.inl ⟨by rfl, ?_⟩) (by assumption) ?_
    rotate_left
    · (intro w' hSw; (try dsimp only at hSw); go_simp; (try with_reducible rfl))
    (try simp only [Act.put, List.setIfInBounds_toArray, List.set_cons_zero, List.set_cons_succ])
    refine wpAnyH_ready (rs := [0, 8]) (by kernel_rfl) (by simp) ?_
    refine AllReadyH.cons (o := ⟨some 30, _, _, _, _, _⟩) rfl (fun K hK => ?_) ?_
    · skip
      go_simp
      (go_at_call 30; (with_reducible refine (whole_any 1 (by decide) (by decide) _).mono ?_); rw [HO.out.1, HO.out.2]; rintro ee w0 ⟨X0, l0, q0, Y0, m0, r0, rfl, d0, h0, v0⟩)
      (try go_wp2_with fail)
      have K0 := ((KZ.drew.call v0).add h0).add d0
      obtain ⟨_, ⟨p1c0n1, p1c1n1, p1c2n1, p1c3n1⟩, _, ⟨p3c0n1, p3c1n1, p3c2n1, p3c3n1⟩, _, _⟩ := K0.facts
      refine hK.out _ _ ?_ (fun hHeld1 => ?_)
      · ((try dsimp only); first | go_keep | (trace_state; fail))
      clear hK K hHeld0
      (try simp only [Act.put, List.setIfInBounds_toArray, List.set_cons_zero, List.set_cons_succ])
      refine wpAnyH_ready (rs := [3, 8]) (by kernel_rfl) (by simp) ?_
      refine AllReadyH.cons (o := ⟨some 33, _, _, _, _, _⟩) rfl (fun K hK => ?_) ?_
      · skip
        go_simp
        have g3_0 := K0.ints.2.2.2.2.2.2.2.1.i
        have g3_1 := K0.ints.2.2.2.2.2.2.1.i
        have g3_2 := K0.ints.2.2.2.2.1.ci k_x
        have g3_3 := K0.ints.2.2.2.2.2.1.ci k_y
        (go_at_call 64; (with_reducible refine (rsubF_at g3_0 g3_1 g3_2 g3_3 z_c z_d z_x z_y).mono ?_); rw [HS.out.1, HS.out.2]; rintro ee w3 ⟨X3, l3, q3, Y3, m3, r3, rfl, d3, h3, v3⟩)
        (try go_wp2_with fail)
        have K3 := ((K0.call v3).add h3).add d3
        clear p1c0n1 p1c1n1 p1c2n1 p1c3n1 p3c0n1 p3c1n1 p3c2n1 p3c3n1
        obtain ⟨_, ⟨p1c0n2, p1c1n2, p1c2n2, p1c3n2⟩, _, ⟨p3c0n2, p3c1n2, p3c2n2, p3c3n2⟩, _, _⟩ := K3.facts
        refine hK.out _ _ ?_ (fun hHeld2 => ?_)
        · ((try dsimp only); first | go_keep | (trace_state; fail))
        clear hK K hHeld1
        (try simp only [Act.put, List.setIfInBounds_toArray, List.set_cons_zero, List.set_cons_succ])
        refine wpAnyH_ready (rs := [4, 8]) (by kernel_rfl) (by simp) ?_
        refine AllReadyH.cons (o := ⟨some 34, _, _, _, _, _⟩) rfl (fun K hK => ?_) ?_
        · skip
          go_simp
          have g4_0 := K3.ints.2.2.1.ci k_o
          have g4_1 := K3.ints.2.2.2.1.ci k_p
          have g4_2 := K3.ints.1.ci k_sx
          have g4_3 := K3.ints.2.1.ci k_sy
          (go_at_call 63; (with_reducible refine (rdivF_at g4_0 g4_1 g4_2 g4_3 z_o z_p z_sx z_sy).mono ?_); rw [HA1.out, HA2.out, HA3.out]; rintro ee w4 ⟨X4, l4, q4, Y4, m4, r4, rfl, d4, h4, v4⟩)
          (try go_wp2_with fail)
          have K4 := ((K3.call v4).add h4).add d4
          clear p1c0n2 p1c1n2 p1c2n2 p1c3n2 p3c0n2 p3c1n2 p3c2n2 p3c3n2
          obtain ⟨_, ⟨p1c0n3, p1c1n3, p1c2n3, p1c3n3⟩, _, ⟨p3c0n3, p3c1n3, p3c2n3, p3c3n3⟩, _, _⟩ := K4.facts
          refine hK.out _ _ ?_ (fun hHeld3 => ?_)
          · ((try dsimp only); first | go_keep | (trace_state; fail))
          clear hK K hHeld2
          (try simp only [Act.put, List.setIfInBounds_toArray, List.set_cons_zero, List.set_cons_succ])
          refine wpAnyH_take (i := 5) (oi := ⟨some 29, _, _, _, _, _⟩) (v := ?_) rfl (by kernel_rfl) (by kernel_rfl) (by kernel_rfl) (fun _ _ _ h => h) (Or.inl ⟨by rfl, ?_⟩) (by assumption) ?_
          rotate_left
          · (intro w' hSw; (try dsimp only at hSw); go_simp; (try with_reducible rfl))
          (try simp only [Act.put, List.setIfInBounds_toArray, List.set_cons_zero, List.set_cons_succ])
          refine wpAnyH_take (i := 6) (oi := ⟨some 35, _, _, _, _, _⟩) (v := ?_) rfl (by kernel_rfl) (by kernel_rfl) (by kernel_rfl) (fun _ _ _ h => h) (Or.inl ⟨by rfl, ?_⟩) (by assumption) ?_
          rotate_left
          · (intro w' hSw; (try dsimp only at hSw); go_simp; (try with_reducible rfl))
          (try simp only [Act.put, List.setIfInBounds_toArray, List.set_cons_zero, List.set_cons_succ])
          refine wpAnyH_take (i := 7) (oi := ⟨some 36, _, _, _, _, _⟩) (v := ?_) rfl (by kernel_rfl) (by kernel_rfl) (by kernel_rfl) (fun _ _ _ h => h) (Or.inl ⟨by rfl, ?_⟩) (by assumption) ?_
          rotate_left
          · (intro w' hSw; (try dsimp only at hSw); go_simp; (try with_reducible rfl))
          (try simp only [Act.put, List.setIfInBounds_toArray, List.set_cons_zero, List.set_cons_succ])
          refine wpAnyH_ready (rs := [8]) (by kernel_rfl) (by simp) ?_
          refine AllReadyH.cons (o := ⟨some 7, _, _, _, _, _⟩) rfl (fun K hK => ?_) AllReadyH.nil
          go_simp
          have KA := K4.new 26 (Plains.four false none 0 0 false none 0 0)
          (try simp only [World.size_alloc] at KA)
          obtain ⟨⟨b0n4, b1n4, b2n4, b3n4⟩, _, ⟨p1c0n4, p1c1n4, p1c2n4, p1c3n4⟩, _, ⟨p3c0n4, p3c1n4, p3c2n4, p3c3n4⟩, _, _⟩ := KA.facts
          obtain ⟨f0n4, f1n4, f2n4, f3n4⟩ := KA.free (i := 0) rfl
          obtain ⟨e1xn4, e1yn4⟩ := KA.ne 0 2 rfl rfl (by decide)
          obtain ⟨e3xn4, e3yn4⟩ := KA.ne 0 4 rfl rfl (by decide)
          refine hK.out _ _ ?_ (fun hHeld4 => ?_)
          · ((try dsimp only); first | go_keep | (trace_state; fail))
          clear hK K hHeld3
          (try simp only [Act.put, List.setIfInBounds_toArray, List.set_cons_zero, List.set_cons_succ])
          refine wpAnyH_ready (rs := [9]) (by kernel_rfl) (by simp) ?_
          refine AllReadyH.cons (o := ⟨none, _, _, _, _, _⟩) rfl (fun K hK => ?_) AllReadyH.nil
          go_simp
          refine hK.out _ _ ?_ (fun hHeld5 => ?_)
          · ((try dsimp only); first | go_keep | (trace_state; fail))
          clear hK K hHeld4
          (try simp only [Act.put, List.setIfInBounds_toArray, List.set_cons_zero, List.set_cons_succ])
          refine wpAnyH_take (i := 10) (oi := ⟨some 8, _, _, _, _, _⟩) (v := ?_) rfl (by kernel_rfl) (by kernel_rfl) (by kernel_rfl) (fun _ _ _ h => h) (Or.inl ⟨by rfl, ?_⟩) (by assumption) ?_
          rotate_left
          · (intro w' hSw; (try dsimp only at hSw); go_simp; (try with_reducible rfl))
          (try simp only [Act.put, List.setIfInBounds_toArray, List.set_cons_zero, List.set_cons_succ])
          refine wpAnyH_done (by kernel_rfl) ?_ _
          go_wp2_with fail
          go_meet
          have KF := K4.new 26 (Plains.four (decide (ax < 0)) X4 l4 q4 (decide (ay < 0)) Y4 m4 r4)
          (try simp only [List.set, World.size_alloc, World.size_setCell] at KF)
          exact ⟨_, X4, l4, q4, Y4, m4, r4, rfl, KF.ints_ ⟨KF.ints.1, KF.ints.2.1, KF.ints.2.2.2.2.2.2.1, KF.ints.2.2.2.2.2.2.2.1, KF.ints.2.2.2.2.2.2.2.2.1, KF.ints.2.2.2.2.2.2.2.2.2.1, KF.ints.2.2.2.2.2.2.2.2.2.2.1, KF.ints.2.2.2.2.2.2.2.2.2.2.2.1, KF.ints.2.2.2.2.2.2.2.2.2.2.2.2.1, KF.ints.2.2.2.2.2.2.2.2.2.2.2.2.2.1, trivial⟩⟩
        refine AllReadyH.cons (o := ⟨some 7, _, _, _, _, _⟩) rfl (fun K hK => ?_) AllReadyH.nil
        go_simp
        have KA := K3.new 26 (Plains.four false none 0 0 false none 0 0)
        (try simp only [World.size_alloc] at KA)
        obtain ⟨⟨b0n3, b1n3, b2n3, b3n3⟩, _, ⟨p1c0n3, p1c1n3, p1c2n3, p1c3n3⟩, _, ⟨p3c0n3, p3c1n3, p3c2n3, p3c3n3⟩, _, _⟩ := KA.facts
        obtain ⟨f0n3, f1n3, f2n3, f3n3⟩ := KA.free (i := 0) rfl
        obtain ⟨e1xn3, e1yn3⟩ := KA.ne 0 2 rfl rfl (by decide)
        obtain ⟨e3xn3, e3yn3⟩ := KA.ne 0 4 rfl rfl (by decide)
        refine hK.out _ _ ?_ (fun hHeld3 => ?_)
        · ((try dsimp only); first | go_keep | (trace_state; fail))
        clear hK K hHeld2
        (try simp only [Act.put, List.setIfInBounds_toArray, List.set_cons_zero, List.set_cons_succ])
        refine wpAnyH_ready (rs := [4]) (by kernel_rfl) (by simp) ?_
        refine AllReadyH.cons (o := ⟨some 34, _, _, _, _, _⟩) rfl (fun K hK => ?_) AllReadyH.nil
        go_simp
        have g4_0 := KA.ints.2.2.1.ci k_o
        have g4_1 := KA.ints.2.2.2.1.ci k_p
        have g4_2 := KA.ints.1.ci k_sx
        have g4_3 := KA.ints.2.1.ci k_sy
        (go_at_call 63; (with_reducible refine (rdivF_at g4_0 g4_1 g4_2 g4_3 z_o z_p z_sx z_sy).mono ?_); rw [HA1.out, HA2.out, HA3.out]; rintro ee w4 ⟨X4, l4, q4, Y4, m4, r4, rfl, d4, h4, v4⟩)
        (try go_wp2_with fail)
        have K4 := ((KA.call v4).add h4).add d4
        clear p1c0n2 p1c1n2 p1c2n2 p1c3n2 p3c0n2 p3c1n2 p3c2n2 p3c3n2 b0n3 b1n3 b2n3 b3n3 p1c0n3 p1c1n3 p1c2n3 p1c3n3 p3c0n3 p3c1n3 p3c2n3 p3c3n3 f0n3 f1n3 f2n3 f3n3 e1xn3 e1yn3 e3xn3 e3yn3
        obtain ⟨⟨b0n4, b1n4, b2n4, b3n4⟩, _, ⟨p1c0n4, p1c1n4, p1c2n4, p1c3n4⟩, _, ⟨p3c0n4, p3c1n4, p3c2n4, p3c3n4⟩, _, _⟩ := K4.facts
        obtain ⟨f0n4, f1n4, f2n4, f3n4⟩ := K4.free (i := 0) rfl
        obtain ⟨e1xn4, e1yn4⟩ := K4.ne 0 2 rfl rfl (by decide)
        obtain ⟨e3xn4, e3yn4⟩ := K4.ne 0 4 rfl rfl (by decide)
        refine hK.out _ _ ?_ (fun hHeld4 => ?_)
        · ((try dsimp only); first | go_keep | (trace_state; fail))
        clear hK K hHeld3
        (try simp only [Act.put, List.setIfInBounds_toArray, List.set_cons_zero, List.set_cons_succ])
        refine wpAnyH_take (i := 5) (oi := ⟨some 29, _, _, _, _, _⟩) (v := ?_) rfl (by kernel_rfl) (by kernel_rfl) (by kernel_rfl) (fun _ _ _ h => h) (Or.inl ⟨by rfl, ?_⟩) (by assumption) ?_
        rotate_left
        · (intro w' hSw; (try dsimp only at hSw); go_simp; (try with_reducible rfl))
        (try simp only [Act.put, List.setIfInBounds_toArray, List.set_cons_zero, List.set_cons_succ])
        refine wpAnyH_take (i := 6) (oi := ⟨some 35, _, _, _, _, _⟩) (v := ?_) rfl (by kernel_rfl) (by kernel_rfl) (by kernel_rfl) (fun _ _ _ h => h) (Or.inl ⟨by rfl, ?_⟩) (by assumption) ?_
        rotate_left
        · (intro w' hSw; (try dsimp only at hSw); go_simp; (try with_reducible rfl))
        (try simp only [Act.put, List.setIfInBounds_toArray, List.set_cons_zero, List.set_cons_succ])
        refine wpAnyH_take (i := 7) (oi := ⟨some 36, _, _, _, _, _⟩) (v := ?_) rfl (by kernel_rfl) (by kernel_rfl) (by kernel_rfl) (fun _ _ _ h => h) (Or.inl ⟨by rfl, ?_⟩) (by assumption) ?_
        rotate_left
        · (intro w' hSw; (try dsimp only at hSw); go_simp; (try with_reducible rfl))
        (try simp only [Act.put, List.setIfInBounds_toArray, List.set_cons_zero, List.set_cons_succ])
        refine wpAnyH_ready (rs := [9]) (by kernel_rfl) (by simp) ?_
        refine AllReadyH.cons (o := ⟨none, _, _, _, _, _⟩) rfl (fun K hK => ?_) AllReadyH.nil
        go_simp
        refine hK.out _ _ ?_ (fun hHeld5 => ?_)
        · ((try dsimp only); first | go_keep | (trace_state; fail))
        clear hK K hHeld4
        (try simp only [Act.put, List.setIfInBounds_toArray, List.set_cons_zero, List.set_cons_succ])
        refine wpAnyH_take (i := 10) (oi := ⟨some 8, _, _, _, _, _⟩) (v := ?_) rfl (by kernel_rfl) (by kernel_rfl) (by kernel_rfl) (fun _ _ _ h => h) (Or.inl ⟨by rfl, ?_⟩) (by assumption) ?_
        rotate_left
        · (intro w' hSw; (try dsimp only at hSw); go_simp; (try with_reducible rfl))
        (try simp only [Act.put, List.setIfInBounds_toArray, List.set_cons_zero, List.set_cons_succ])
        refine wpAnyH_done (by kernel_rfl) ?_ _
        go_wp2_with fail
        go_meet
        have KF := K4.put4 0 rfl (decide (ax < 0)) X4 l4 q4 (decide (ay < 0)) Y4 m4 r4
        (try simp only [List.set, World.size_alloc, World.size_setCell] at KF)
        exact ⟨_, X4, l4, q4, Y4, m4, r4, rfl, KF.ints_ ⟨KF.ints.1, KF.ints.2.1, KF.ints.2.2.2.2.2.2.1, KF.ints.2.2.2.2.2.2.2.1, KF.ints.2.2.2.2.2.2.2.2.1, KF.ints.2.2.2.2.2.2.2.2.2.1, KF.ints.2.2.2.2.2.2.2.2.2.2.1, KF.ints.2.2.2.2.2.2.2.2.2.2.2.1, KF.ints.2.2.2.2.2.2.2.2.2.2.2.2.1, KF.ints.2.2.2.2.2.2.2.2.2.2.2.2.2.1, trivial⟩⟩
      refine AllReadyH.cons (o := ⟨some 7, _, _, _, _, _⟩) rfl (fun K hK => ?_) AllReadyH.nil
      go_simp
      have KA := K0.new 26 (Plains.four false none 0 0 false none 0 0)
      (try simp only [World.size_alloc] at KA)
      obtain ⟨⟨b0n2, b1n2, b2n2, b3n2⟩, _, ⟨p1c0n2, p1c1n2, p1c2n2, p1c3n2⟩, _, ⟨p3c0n2, p3c1n2, p3c2n2, p3c3n2⟩, _, _⟩ := KA.facts
      obtain ⟨f0n2, f1n2, f2n2, f3n2⟩ := KA.free (i := 0) rfl
      obtain ⟨e1xn2, e1yn2⟩ := KA.ne 0 2 rfl rfl (by decide)
      obtain ⟨e3xn2, e3yn2⟩ := KA.ne 0 4 rfl rfl (by decide)
      refine hK.out _ _ ?_ (fun hHeld2 => ?_)
      · ((try dsimp only); first | go_keep | (trace_state; fail))
      clear hK K hHeld1
      (try simp only [Act.put, List.setIfInBounds_toArray, List.set_cons_zero, List.set_cons_succ])
      refine wpAnyH_ready (rs := [3]) (by kernel_rfl) (by simp) ?_
      refine AllReadyH.cons (o := ⟨some 33, _, _, _, _, _⟩) rfl (fun K hK => ?_) AllReadyH.nil
      go_simp
      have g3_0 := KA.ints.2.2.2.2.2.2.2.1.i
      have g3_1 := KA.ints.2.2.2.2.2.2.1.i
      have g3_2 := KA.ints.2.2.2.2.1.ci k_x
      have g3_3 := KA.ints.2.2.2.2.2.1.ci k_y
      (go_at_call 64; (with_reducible refine (rsubF_at g3_0 g3_1 g3_2 g3_3 z_c z_d z_x z_y).mono ?_); rw [HS.out.1, HS.out.2]; rintro ee w3 ⟨X3, l3, q3, Y3, m3, r3, rfl, d3, h3, v3⟩)
      (try go_wp2_with fail)
      have K3 := ((KA.call v3).add h3).add d3
      clear p1c0n1 p1c1n1 p1c2n1 p1c3n1 p3c0n1 p3c1n1 p3c2n1 p3c3n1 b0n2 b1n2 b2n2 b3n2 p1c0n2 p1c1n2 p1c2n2 p1c3n2 p3c0n2 p3c1n2 p3c2n2 p3c3n2 f0n2 f1n2 f2n2 f3n2 e1xn2 e1yn2 e3xn2 e3yn2
      obtain ⟨⟨b0n3, b1n3, b2n3, b3n3⟩, _, ⟨p1c0n3, p1c1n3, p1c2n3, p1c3n3⟩, _, ⟨p3c0n3, p3c1n3, p3c2n3, p3c3n3⟩, _, _⟩ := K3.facts
      obtain ⟨f0n3, f1n3, f2n3, f3n3⟩ := K3.free (i := 0) rfl
      obtain ⟨e1xn3, e1yn3⟩ := K3.ne 0 2 rfl rfl (by decide)
      obtain ⟨e3xn3, e3yn3⟩ := K3.ne 0 4 rfl rfl (by decide)
      refine hK.out _ _ ?_ (fun hHeld3 => ?_)
      · ((try dsimp only); first | go_keep | (trace_state; fail))
      clear hK K hHeld2
      (try simp only [Act.put, List.setIfInBounds_toArray, List.set_cons_zero, List.set_cons_succ])
      refine wpAnyH_ready (rs := [4]) (by kernel_rfl) (by simp) ?_
      refine AllReadyH.cons (o := ⟨some 34, _, _, _, _, _⟩) rfl (fun K hK => ?_) AllReadyH.nil
      go_simp
      have g4_0 := K3.ints.2.2.1.ci k_o
      have g4_1 := K3.ints.2.2.2.1.ci k_p
      have g4_2 := K3.ints.1.ci k_sx
      have g4_3 := K3.ints.2.1.ci k_sy
      (go_at_call 63; (with_reducible refine (rdivF_at g4_0 g4_1 g4_2 g4_3 z_o z_p z_sx z_sy).mono ?_); rw [HA1.out, HA2.out, HA3.out]; rintro ee w4 ⟨X4, l4, q4, Y4, m4, r4, rfl, d4, h4, v4⟩)
      (try go_wp2_with fail)
      have K4 := ((K3.call v4).add h4).add d4
      clear b0n3 b1n3 b2n3 b3n3 p1c0n3 p1c1n3 p1c2n3 p1c3n3 p3c0n3 p3c1n3 p3c2n3 p3c3n3 f0n3 f1n3 f2n3 f3n3 e1xn3 e1yn3 e3xn3 e3yn3
      obtain ⟨⟨b0n4, b1n4, b2n4, b3n4⟩, _, ⟨p1c0n4, p1c1n4, p1c2n4, p1c3n4⟩, _, ⟨p3c0n4, p3c1n4, p3c2n4, p3c3n4⟩, _, _⟩ := K4.facts
      obtain ⟨f0n4, f1n4, f2n4, f3n4⟩ := K4.free (i := 0) rfl
      obtain ⟨e1xn4, e1yn4⟩ := K4.ne 0 2 rfl rfl (by decide)
      obtain ⟨e3xn4, e3yn4⟩ := K4.ne 0 4 rfl rfl (by decide)
      refine hK.out _ _ ?_ (fun hHeld4 => ?_)
      · ((try dsimp only); first | go_keep | (trace_state; fail))
      clear hK K hHeld3
      (try simp only [Act.put, List.setIfInBounds_toArray, List.set_cons_zero, List.set_cons_succ])
      refine wpAnyH_take (i := 5) (oi := ⟨some 29, _, _, _, _, _⟩) (v := ?_) rfl (by kernel_rfl) (by kernel_rfl) (by kernel_rfl) (fun _ _ _ h => h) (Or.inl ⟨by rfl, ?_⟩) (by assumption) ?_
      rotate_left
      · (intro w' hSw; (try dsimp only at hSw); go_simp; (try with_reducible rfl))
      (try simp only [Act.put, List.setIfInBounds_toArray, List.set_cons_zero, List.set_cons_succ])
      refine wpAnyH_take (i := 6) (oi := ⟨some 35, _, _, _, _, _⟩) (v := ?_) rfl (by kernel_rfl) (by kernel_rfl) (by kernel_rfl) (fun _ _ _ h => h) (Or.inl ⟨by rfl, ?_⟩) (by assumption) ?_
      rotate_left
      · (intro w' hSw; (try dsimp only at hSw); go_simp; (try with_reducible rfl))
      (try simp only [Act.put, List.setIfInBounds_toArray, List.set_cons_zero, List.set_cons_succ])
      refine wpAnyH_take (i := 7) (oi := ⟨some 36, _, _, _, _, _⟩) (v := ?_) rfl (by kernel_rfl) (by kernel_rfl) (by kernel_rfl) (fun _ _ _ h => h) (Or.inl ⟨by rfl, ?_⟩) (by assumption) ?_
      rotate_left
      · (intro w' hSw; (try dsimp only at hSw); go_simp; (try with_reducible rfl))
      (try simp only [Act.put, List.setIfInBounds_toArray, List.set_cons_zero, List.set_cons_succ])
      refine wpAnyH_ready (rs := [9]) (by kernel_rfl) (by simp) ?_
      refine AllReadyH.cons (o := ⟨none, _, _, _, _, _⟩) rfl (fun K hK => ?_) AllReadyH.nil
      go_simp
      refine hK.out _ _ ?_ (fun hHeld5 => ?_)
      · ((try dsimp only); first | go_keep | (trace_state; fail))
      clear hK K hHeld4
      (try simp only [Act.put, List.setIfInBounds_toArray, List.set_cons_zero, List.set_cons_succ])
      refine wpAnyH_take (i := 10) (oi := ⟨some 8, _, _, _, _, _⟩) (v := ?_) rfl (by kernel_rfl) (by kernel_rfl) (by kernel_rfl) (fun _ _ _ h => h) (Or.inl ⟨by rfl, ?_⟩) (by assumption) ?_
      rotate_left
      · (intro w' hSw; (try dsimp only at hSw); go_simp; (try with_reducible rfl))
      (try simp only [Act.put, List.setIfInBounds_toArray, List.set_cons_zero, List.set_cons_succ])
      refine wpAnyH_done (by kernel_rfl) ?_ _
      go_wp2_with fail
      go_meet
      have KF := K4.put4 0 rfl (decide (ax < 0)) X4 l4 q4 (decide (ay < 0)) Y4 m4 r4
      (try simp only [List.set, World.size_alloc, World.size_setCell] at KF)
      exact ⟨_, X4, l4, q4, Y4, m4, r4, rfl, KF.ints_ ⟨KF.ints.1, KF.ints.2.1, KF.ints.2.2.2.2.2.2.1, KF.ints.2.2.2.2.2.2.2.1, KF.ints.2.2.2.2.2.2.2.2.1, KF.ints.2.2.2.2.2.2.2.2.2.1, KF.ints.2.2.2.2.2.2.2.2.2.2.1, KF.ints.2.2.2.2.2.2.2.2.2.2.2.1, KF.ints.2.2.2.2.2.2.2.2.2.2.2.2.1, KF.ints.2.2.2.2.2.2.2.2.2.2.2.2.2.1, trivial⟩⟩
    refine AllReadyH.cons (o := ⟨some 7, _, _, _, _, _⟩) rfl (fun K hK => ?_) AllReadyH.nil
    go_simp
    have KA := KZ.new 26 (Plains.four false none 0 0 false none 0 0)
    (try simp only [World.size_alloc] at KA)
    obtain ⟨⟨b0n1, b1n1, b2n1, b3n1⟩, _, ⟨p1c0n1, p1c1n1, p1c2n1, p1c3n1⟩, _, ⟨p3c0n1, p3c1n1, p3c2n1, p3c3n1⟩, _, _⟩ := KA.facts
    obtain ⟨f0n1, f1n1, f2n1, f3n1⟩ := KA.free (i := 0) rfl
    obtain ⟨e1xn1, e1yn1⟩ := KA.ne 0 2 rfl rfl (by decide)
    obtain ⟨e3xn1, e3yn1⟩ := KA.ne 0 4 rfl rfl (by decide)
    refine hK.out _ _ ?_ (fun hHeld1 => ?_)
    · ((try dsimp only); first | go_keep | (trace_state; fail))
    clear hK K hHeld0
    (try simp only [Act.put, List.setIfInBounds_toArray, List.set_cons_zero, List.set_cons_succ])
    refine wpAnyH_ready (rs := [0]) (by kernel_rfl) (by simp) ?_
    refine AllReadyH.cons (o := ⟨some 30, _, _, _, _, _⟩) rfl (fun K hK => ?_) AllReadyH.nil
    go_simp
    (go_at_call 30; (with_reducible refine (whole_any 1 (by decide) (by decide) _).mono ?_); rw [HO.out.1, HO.out.2]; rintro ee w0 ⟨X0, l0, q0, Y0, m0, r0, rfl, d0, h0, v0⟩)
    (try go_wp2_with fail)
    have K0 := ((KA.drew.call v0).add h0).add d0
    clear b0n1 b1n1 b2n1 b3n1 p1c0n1 p1c1n1 p1c2n1 p1c3n1 p3c0n1 p3c1n1 p3c2n1 p3c3n1 f0n1 f1n1 f2n1 f3n1 e1xn1 e1yn1 e3xn1 e3yn1
    obtain ⟨⟨b0n2, b1n2, b2n2, b3n2⟩, _, ⟨p1c0n2, p1c1n2, p1c2n2, p1c3n2⟩, _, ⟨p3c0n2, p3c1n2, p3c2n2, p3c3n2⟩, _, _⟩ := K0.facts
    obtain ⟨f0n2, f1n2, f2n2, f3n2⟩ := K0.free (i := 0) rfl
    obtain ⟨e1xn2, e1yn2⟩ := K0.ne 0 2 rfl rfl (by decide)
    obtain ⟨e3xn2, e3yn2⟩ := K0.ne 0 4 rfl rfl (by decide)
    refine hK.out _ _ ?_ (fun hHeld2 => ?_)
    · ((try dsimp only); first | go_keep | (trace_state; fail))
    clear hK K hHeld1
    (try simp only [Act.put, List.setIfInBounds_toArray, List.set_cons_zero, List.set_cons_succ])
    refine wpAnyH_ready (rs := [3]) (by kernel_rfl) (by simp) ?_
    refine AllReadyH.cons (o := ⟨some 33, _, _, _, _, _⟩) rfl (fun K hK => ?_) AllReadyH.nil
    go_simp
    have g3_0 := K0.ints.2.2.2.2.2.2.2.1.i
    have g3_1 := K0.ints.2.2.2.2.2.2.1.i
    have g3_2 := K0.ints.2.2.2.2.1.ci k_x
    have g3_3 := K0.ints.2.2.2.2.2.1.ci k_y
    (go_at_call 64; (with_reducible refine (rsubF_at g3_0 g3_1 g3_2 g3_3 z_c z_d z_x z_y).mono ?_); rw [HS.out.1, HS.out.2]; rintro ee w3 ⟨X3, l3, q3, Y3, m3, r3, rfl, d3, h3, v3⟩)
    (try go_wp2_with fail)
    have K3 := ((K0.call v3).add h3).add d3
    clear b0n2 b1n2 b2n2 b3n2 p1c0n2 p1c1n2 p1c2n2 p1c3n2 p3c0n2 p3c1n2 p3c2n2 p3c3n2 f0n2 f1n2 f2n2 f3n2 e1xn2 e1yn2 e3xn2 e3yn2
    obtain ⟨⟨b0n3, b1n3, b2n3, b3n3⟩, _, ⟨p1c0n3, p1c1n3, p1c2n3, p1c3n3⟩, _, ⟨p3c0n3, p3c1n3, p3c2n3, p3c3n3⟩, _, _⟩ := K3.facts
    obtain ⟨f0n3, f1n3, f2n3, f3n3⟩ := K3.free (i := 0) rfl
    obtain ⟨e1xn3, e1yn3⟩ := K3.ne 0 2 rfl rfl (by decide)
    obtain ⟨e3xn3, e3yn3⟩ := K3.ne 0 4 rfl rfl (by decide)
    refine hK.out _ _ ?_ (fun hHeld3 => ?_)
    · ((try dsimp only); first | go_keep | (trace_state; fail))
    clear hK K hHeld2
    (try simp only [Act.put, List.setIfInBounds_toArray, List.set_cons_zero, List.set_cons_succ])
    refine wpAnyH_ready (rs := [4]) (by kernel_rfl) (by simp) ?_
    refine AllReadyH.cons (o := ⟨some 34, _, _, _, _, _⟩) rfl (fun K hK => ?_) AllReadyH.nil
    go_simp
    have g4_0 := K3.ints.2.2.1.ci k_o
    have g4_1 := K3.ints.2.2.2.1.ci k_p
    have g4_2 := K3.ints.1.ci k_sx
    have g4_3 := K3.ints.2.1.ci k_sy
    (go_at_call 63; (with_reducible refine (rdivF_at g4_0 g4_1 g4_2 g4_3 z_o z_p z_sx z_sy).mono ?_); rw [HA1.out, HA2.out, HA3.out]; rintro ee w4 ⟨X4, l4, q4, Y4, m4, r4, rfl, d4, h4, v4⟩)
    (try go_wp2_with fail)
    have K4 := ((K3.call v4).add h4).add d4
    clear b0n3 b1n3 b2n3 b3n3 p1c0n3 p1c1n3 p1c2n3 p1c3n3 p3c0n3 p3c1n3 p3c2n3 p3c3n3 f0n3 f1n3 f2n3 f3n3 e1xn3 e1yn3 e3xn3 e3yn3
    obtain ⟨⟨b0n4, b1n4, b2n4, b3n4⟩, _, ⟨p1c0n4, p1c1n4, p1c2n4, p1c3n4⟩, _, ⟨p3c0n4, p3c1n4, p3c2n4, p3c3n4⟩, _, _⟩ := K4.facts
    obtain ⟨f0n4, f1n4, f2n4, f3n4⟩ := K4.free (i := 0) rfl
    obtain ⟨e1xn4, e1yn4⟩ := K4.ne 0 2 rfl rfl (by decide)
    obtain ⟨e3xn4, e3yn4⟩ := K4.ne 0 4 rfl rfl (by decide)
    refine hK.out _ _ ?_ (fun hHeld4 => ?_)
    · ((try dsimp only); first | go_keep | (trace_state; fail))
    clear hK K hHeld3
    (try simp only [Act.put, List.setIfInBounds_toArray, List.set_cons_zero, List.set_cons_succ])
    refine wpAnyH_take (i := 5) (oi := ⟨some 29, _, _, _, _, _⟩) (v := ?_) rfl (by kernel_rfl) (by kernel_rfl) (by kernel_rfl) (fun _ _ _ h => h) (Or.inl ⟨by rfl, ?_⟩) (by assumption) ?_
    rotate_left
    · (intro w' hSw; (try dsimp only at hSw); go_simp; (try with_reducible rfl))
    (try simp only [Act.put, List.setIfInBounds_toArray, List.set_cons_zero, List.set_cons_succ])
    refine wpAnyH_take (i := 6) (oi := ⟨some 35, _, _, _, _, _⟩) (v := ?_) rfl (by kernel_rfl) (by kernel_rfl) (by kernel_rfl) (fun _ _ _ h => h) (Or.inl ⟨by rfl, ?_⟩) (by assumption) ?_
    rotate_left
    · (intro w' hSw; (try dsimp only at hSw); go_simp; (try with_reducible rfl))
    (try simp only [Act.put, List.setIfInBounds_toArray, List.set_cons_zero, List.set_cons_succ])
    refine wpAnyH_take (i := 7) (oi := ⟨some 36, _, _, _, _, _⟩) (v := ?_) rfl (by kernel_rfl) (by kernel_rfl) (by kernel_rfl) (fun _ _ _ h => h) (Or.inl ⟨by rfl, ?_⟩) (by assumption) ?_
    rotate_left
    · (intro w' hSw; (try dsimp only at hSw); go_simp; (try with_reducible rfl))
    (try simp only [Act.put, List.setIfInBounds_toArray, List.set_cons_zero, List.set_cons_succ])
    refine wpAnyH_ready (rs := [9]) (by kernel_rfl) (by simp) ?_
    refine AllReadyH.cons (o := ⟨none, _, _, _, _, _⟩) rfl (fun K hK => ?_) AllReadyH.nil
    go_simp
    refine hK.out _ _ ?_ (fun hHeld5 => ?_)
    · ((try dsimp only); first | go_keep | (trace_state; fail))
    clear hK K hHeld4
    (try simp only [Act.put, List.setIfInBounds_toArray, List.set_cons_zero, List.set_cons_succ])
    refine wpAnyH_take (i := 10) (oi := ⟨some 8, _, _, _, _, _⟩) (v := ?_) rfl (by kernel_rfl) (by kernel_rfl) (by kernel_rfl) (fun _ _ _ h => h) (Or.inl ⟨by rfl, ?_⟩) (by assumption) ?_
    rotate_left
    · (intro w' hSw; (try dsimp only at hSw); go_simp; (try with_reducible rfl))
    (try simp only [Act.put, List.setIfInBounds_toArray, List.set_cons_zero, List.set_cons_succ])
    refine wpAnyH_done (by kernel_rfl) ?_ _
    go_wp2_with fail
    go_meet
    have KF := K4.put4 0 rfl (decide (ax < 0)) X4 l4 q4 (decide (ay < 0)) Y4 m4 r4
    (try simp only [List.set, World.size_alloc, World.size_setCell] at KF)
    exact ⟨_, X4, l4, q4, Y4, m4, r4, rfl, KF.ints_ ⟨KF.ints.1, KF.ints.2.1, KF.ints.2.2.2.2.2.2.1, KF.ints.2.2.2.2.2.2.2.1, KF.ints.2.2.2.2.2.2.2.2.1, KF.ints.2.2.2.2.2.2.2.2.2.1, KF.ints.2.2.2.2.2.2.2.2.2.2.1, KF.ints.2.2.2.2.2.2.2.2.2.2.2.1, KF.ints.2.2.2.2.2.2.2.2.2.2.2.2.1, KF.ints.2.2.2.2.2.2.2.2.2.2.2.2.2.1, trivial⟩⟩
  case rest =>
  clear KD
  obtain ⟨h_7, X_7, l_7, q_7, Y_7, m_7, r_7, rfl, KN7⟩ := hcut
  go_upto_region 8 with fail
  go_cut [9] (fun vx wx => ∃ (h_9 : Nat) (X_9 : Option Addr) (l_9 q_9 : Nat) (Y_9 : Option Addr) (m_9 r_9 : Nat), vx = .pointer (some ⟨h_9, 0, none⟩) ∧ St w wx [vf h_9 (decide (bx < 0)) X_9 l_9 q_9 (decide (by_ < 0)) Y_9 m_9 r_9, vf h_7 (decide (ax < 0)) X_7 l_7 q_7 (decide (ay < 0)) Y_7 m_7 r_7, vf h_6 (decide (m < 0)) X_6 l_6 q_6 (decide (n < 0)) Y_6 m_6 r_6, vf h_5 (decide (x < 0)) X_5 l_5 q_5 (decide (y < 0)) Y_5 m_5 r_5, vf (w.heap.size + 1 + 1) false none 0 0 false none 0 0, vf (w.heap.size + 1) s3 A3 n3 c3 s4 A4 n4 c4, vf w.heap.size s1 A1 n1 c1 s2 A2 n2 c2] [(decide (bx < 0), X_9, l_9, q_9, bx, true), (decide (by_ < 0), Y_9, m_9, r_9, by_, true), (decide (ax < 0), X_7, l_7, q_7, ax, true), (decide (ay < 0), Y_7, m_7, r_7, ay, true), (decide (m < 0), X_6, l_6, q_6, m, true), (decide (n < 0), Y_6, m_6, r_6, n, true), (decide (x < 0), X_5, l_5, q_5, x, true), (decide (y < 0), Y_5, m_5, r_5, y, true), (s4, A4, n4, c4, d, false), (s3, A3, n3, c3, c, false), (s2, A2, n2, c2, b, false), (s1, A1, n1, c1, a, false)])
  case first =>
    have KZ := KN7
    clear KN7
    obtain ⟨_, _, ⟨o20, o21, o22, o23⟩, _, _, ⟨o50, o51, o52, o53⟩, _⟩ := KZ.facts
    skip
    refine wp_region_held_drew (S := fun w' => w'.cell? ⟨h_5, 0, none⟩ = some (.bool (decide (x < 0))) ∧ w'.cell? ⟨h_5, 1, none⟩ = some (.slice X_5 l_5 q_5) ∧ w'.cell? ⟨h_5, 2, none⟩ = some (.bool (decide (y < 0))) ∧ w'.cell? ⟨h_5, 3, none⟩ = some (.slice Y_5 m_5 r_5) ∧ w'.cell? ⟨w.heap.size, 0, none⟩ = some (.bool (s1)) ∧ w'.cell? ⟨w.heap.size, 1, none⟩ = some (.slice A1 n1 c1) ∧ w'.cell? ⟨w.heap.size, 2, none⟩ = some (.bool (s2)) ∧ w'.cell? ⟨w.heap.size, 3, none⟩ = some (.slice A2 n2 c2)) (by kernel_rfl) ?_ (fun hHeld0 => ?_)
    · ((try dsimp only); go_keep)
    refine wpAnyH_take (i := 1) (oi := ⟨some 39, _, _, _, _, _⟩) (v := ?_) rfl (by kernel_rfl) (by kernel_rfl) (by kernel_rfl) (fun _ _ _ h => h) (Or.inl ⟨by rfl, ?_⟩) (by assumption) ?_
    rotate_left
    · (intro w' hSw; (try dsimp only at hSw); go_simp; (try with_reducible rfl))
    (try simp only [Act.put, List.setIfInBounds_toArray, List.set_cons_zero, List.set_cons_succ])
    refine wpAnyH_take (i := 2) (oi := ⟨some 40, _, _, _, _, _⟩) (v := ?_) rfl (by kernel_rfl) (by kernel_rfl) (by kernel_rfl) (fun _ _ _ h => h) (Or.inl ⟨by rfl, ?_⟩) (by assumption) ?_
    rotate_left
    · (intro w' hSw; (try dsimp only at hSw); go_simp; (try with_reducible rfl))
    (try simp only [Act.put, List.setIfInBounds_toArray, List.set_cons_zero, List.set_cons_succ])
    refine wpAnyH_ready (rs := [0, 8]) (by kernel_rfl) (by simp) ?_
    refine AllReadyH.cons (o := ⟨some 38, _, _, _, _, _⟩) rfl (fun K hK => ?_) ?_
    · skip
      go_simp
      (go_at_call 30; (with_reducible refine (whole_any 1 (by decide) (by decide) _).mono ?_); rw [HO.out.1, HO.out.2]; rintro ee w0 ⟨X0, l0, q0, Y0, m0, r0, rfl, d0, h0, v0⟩)
      (try go_wp2_with fail)
      have K0 := ((KZ.drew.call v0).add h0).add d0
      obtain ⟨_, _, ⟨p2c0n1, p2c1n1, p2c2n1, p2c3n1⟩, _, _, ⟨p5c0n1, p5c1n1, p5c2n1, p5c3n1⟩, _⟩ := K0.facts
      refine hK.out _ _ ?_ (fun hHeld1 => ?_)
      · ((try dsimp only); first | go_keep | (trace_state; fail))
      clear hK K hHeld0
      (try simp only [Act.put, List.setIfInBounds_toArray, List.set_cons_zero, List.set_cons_succ])
      refine wpAnyH_ready (rs := [3, 8]) (by kernel_rfl) (by simp) ?_
      refine AllReadyH.cons (o := ⟨some 41, _, _, _, _, _⟩) rfl (fun K hK => ?_) ?_
      · skip
        go_simp
        have g3_0 := K0.ints.2.2.2.2.2.2.2.2.2.2.2.1.i
        have g3_1 := K0.ints.2.2.2.2.2.2.2.2.2.2.1.i
        have g3_2 := K0.ints.2.2.2.2.2.2.1.ci k_x
        have g3_3 := K0.ints.2.2.2.2.2.2.2.1.ci k_y
        (go_at_call 64; (with_reducible refine (rsubF_at g3_0 g3_1 g3_2 g3_3 z_a z_b z_x z_y).mono ?_); rw [HT.out.1, HT.out.2]; rintro ee w3 ⟨X3, l3, q3, Y3, m3, r3, rfl, d3, h3, v3⟩)
        (try go_wp2_with fail)
        have K3 := ((K0.call v3).add h3).add d3
        clear p2c0n1 p2c1n1 p2c2n1 p2c3n1 p5c0n1 p5c1n1 p5c2n1 p5c3n1
        obtain ⟨_, _, ⟨p2c0n2, p2c1n2, p2c2n2, p2c3n2⟩, _, _, ⟨p5c0n2, p5c1n2, p5c2n2, p5c3n2⟩, _⟩ := K3.facts
        refine hK.out _ _ ?_ (fun hHeld2 => ?_)
        · ((try dsimp only); first | go_keep | (trace_state; fail))
        clear hK K hHeld1
        (try simp only [Act.put, List.setIfInBounds_toArray, List.set_cons_zero, List.set_cons_succ])
        refine wpAnyH_ready (rs := [4, 8]) (by kernel_rfl) (by simp) ?_
        refine AllReadyH.cons (o := ⟨some 42, _, _, _, _, _⟩) rfl (fun K hK => ?_) ?_
        · skip
          go_simp
          have g4_0 := K3.ints.2.2.1.ci k_o
          have g4_1 := K3.ints.2.2.2.1.ci k_p
          have g4_2 := K3.ints.1.ci k_tx
          have g4_3 := K3.ints.2.1.ci k_ty
          (go_at_call 63; (with_reducible refine (rdivF_at g4_0 g4_1 g4_2 g4_3 z_o z_p z_tx z_ty).mono ?_); rw [HB1.out, HB2.out, HB3.out]; rintro ee w4 ⟨X4, l4, q4, Y4, m4, r4, rfl, d4, h4, v4⟩)
          (try go_wp2_with fail)
          have K4 := ((K3.call v4).add h4).add d4
          clear p2c0n2 p2c1n2 p2c2n2 p2c3n2 p5c0n2 p5c1n2 p5c2n2 p5c3n2
          obtain ⟨_, _, ⟨p2c0n3, p2c1n3, p2c2n3, p2c3n3⟩, _, _, ⟨p5c0n3, p5c1n3, p5c2n3, p5c3n3⟩, _⟩ := K4.facts
          refine hK.out _ _ ?_ (fun hHeld3 => ?_)
          · ((try dsimp only); first | go_keep | (trace_state; fail))
          clear hK K hHeld2
          (try simp only [Act.put, List.setIfInBounds_toArray, List.set_cons_zero, List.set_cons_succ])
          refine wpAnyH_take (i := 5) (oi := ⟨some 37, _, _, _, _, _⟩) (v := ?_) rfl (by kernel_rfl) (by kernel_rfl) (by kernel_rfl) (fun _ _ _ h => h) (Or.inl ⟨by rfl, ?_⟩) (by assumption) ?_
          rotate_left
          · (intro w' hSw; (try dsimp only at hSw); go_simp; (try with_reducible rfl))
          (try simp only [Act.put, List.setIfInBounds_toArray, List.set_cons_zero, List.set_cons_succ])
          refine wpAnyH_take (i := 6) (oi := ⟨some 43, _, _, _, _, _⟩) (v := ?_) rfl (by kernel_rfl) (by kernel_rfl) (by kernel_rfl) (fun _ _ _ h => h) (Or.inl ⟨by rfl, ?_⟩) (by assumption) ?_
          rotate_left
          · (intro w' hSw; (try dsimp only at hSw); go_simp; (try with_reducible rfl))
          (try simp only [Act.put, List.setIfInBounds_toArray, List.set_cons_zero, List.set_cons_succ])
          refine wpAnyH_take (i := 7) (oi := ⟨some 44, _, _, _, _, _⟩) (v := ?_) rfl (by kernel_rfl) (by kernel_rfl) (by kernel_rfl) (fun _ _ _ h => h) (Or.inl ⟨by rfl, ?_⟩) (by assumption) ?_
          rotate_left
          · (intro w' hSw; (try dsimp only at hSw); go_simp; (try with_reducible rfl))
          (try simp only [Act.put, List.setIfInBounds_toArray, List.set_cons_zero, List.set_cons_succ])
          refine wpAnyH_ready (rs := [8]) (by kernel_rfl) (by simp) ?_
          refine AllReadyH.cons (o := ⟨some 9, _, _, _, _, _⟩) rfl (fun K hK => ?_) AllReadyH.nil
          go_simp
          have KA := K4.new 26 (Plains.four false none 0 0 false none 0 0)
          (try simp only [World.size_alloc] at KA)
          obtain ⟨⟨b0n4, b1n4, b2n4, b3n4⟩, _, _, ⟨p2c0n4, p2c1n4, p2c2n4, p2c3n4⟩, _, _, ⟨p5c0n4, p5c1n4, p5c2n4, p5c3n4⟩, _⟩ := KA.facts
          obtain ⟨f0n4, f1n4, f2n4, f3n4⟩ := KA.free (i := 0) rfl
          obtain ⟨e2xn4, e2yn4⟩ := KA.ne 0 3 rfl rfl (by decide)
          obtain ⟨e5xn4, e5yn4⟩ := KA.ne 0 6 rfl rfl (by decide)
          refine hK.out _ _ ?_ (fun hHeld4 => ?_)
          · ((try dsimp only); first | go_keep | (trace_state; fail))
          clear hK K hHeld3
          (try simp only [Act.put, List.setIfInBounds_toArray, List.set_cons_zero, List.set_cons_succ])
          refine wpAnyH_ready (rs := [9]) (by kernel_rfl) (by simp) ?_
          refine AllReadyH.cons (o := ⟨none, _, _, _, _, _⟩) rfl (fun K hK => ?_) AllReadyH.nil
          go_simp
          refine hK.out _ _ ?_ (fun hHeld5 => ?_)
          · ((try dsimp only); first | go_keep | (trace_state; fail))
          clear hK K hHeld4
          (try simp only [Act.put, List.setIfInBounds_toArray, List.set_cons_zero, List.set_cons_succ])
          refine wpAnyH_take (i := 10) (oi := ⟨some 10, _, _, _, _, _⟩) (v := ?_) rfl (by kernel_rfl) (by kernel_rfl) (by kernel_rfl) (fun _ _ _ h => h) (Or.inl ⟨by rfl, ?_⟩) (by assumption) ?_
          rotate_left
          · (intro w' hSw; (try dsimp only at hSw); go_simp; (try with_reducible rfl))
          (try simp only [Act.put, List.setIfInBounds_toArray, List.set_cons_zero, List.set_cons_succ])
          refine wpAnyH_done (by kernel_rfl) ?_ _
          go_wp2_with fail
          go_meet
          have KF := K4.new 26 (Plains.four (decide (bx < 0)) X4 l4 q4 (decide (by_ < 0)) Y4 m4 r4)
          (try simp only [List.set, World.size_alloc, World.size_setCell] at KF)
          exact ⟨_, X4, l4, q4, Y4, m4, r4, rfl, KF.ints_ ⟨KF.ints.1, KF.ints.2.1, KF.ints.2.2.2.2.2.2.1, KF.ints.2.2.2.2.2.2.2.1, KF.ints.2.2.2.2.2.2.2.2.1, KF.ints.2.2.2.2.2.2.2.2.2.1, KF.ints.2.2.2.2.2.2.2.2.2.2.1, KF.ints.2.2.2.2.2.2.2.2.2.2.2.1, KF.ints.2.2.2.2.2.2.2.2.2.2.2.2.1, KF.ints.2.2.2.2.2.2.2.2.2.2.2.2.2.1, KF.ints.2.2.2.2.2.2.2.2.2.2.2.2.2.2.1, KF.ints.2.2.2.2.2.2.2.2.2.2.2.2.2.2.2.1, trivial⟩⟩
        refine AllReadyH.cons (o := ⟨some 9, _, _, _, _, _⟩) rfl (fun K hK => ?_) AllReadyH.nil
        go_simp
        have KA := K3.new 26 (Plains.four false none 0 0 false none 0 0)
        (try simp only [World.size_alloc] at KA)
        obtain ⟨⟨b0n3, b1n3, b2n3, b3n3⟩, _, _, ⟨p2c0n3, p2c1n3, p2c2n3, p2c3n3⟩, _, _, ⟨p5c0n3, p5c1n3, p5c2n3, p5c3n3⟩, _⟩ := KA.facts
        obtain ⟨f0n3, f1n3, f2n3, f3n3⟩ := KA.free (i := 0) rfl
        obtain ⟨e2xn3, e2yn3⟩ := KA.ne 0 3 rfl rfl (by decide)
        obtain ⟨e5xn3, e5yn3⟩ := KA.ne 0 6 rfl rfl (by decide)
        refine hK.out _ _ ?_ (fun hHeld3 => ?_)
        · ((try dsimp only); first | go_keep | (trace_state; fail))
        clear hK K hHeld2
        (try simp only [Act.put, List.setIfInBounds_toArray, List.set_cons_zero, List.set_cons_succ])
        refine wpAnyH_ready (rs := [4]) (by kernel_rfl) (by simp) ?_
        refine AllReadyH.cons (o := ⟨some 42, _, _, _, _, _⟩) rfl (fun K hK => ?_) AllReadyH.nil
        go_simp
        have g4_0 := KA.ints.2.2.1.ci k_o
        have g4_1 := KA.ints.2.2.2.1.ci k_p
        have g4_2 := KA.ints.1.ci k_tx
        have g4_3 := KA.ints.2.1.ci k_ty
        (go_at_call 63; (with_reducible refine (rdivF_at g4_0 g4_1 g4_2 g4_3 z_o z_p z_tx z_ty).mono ?_); rw [HB1.out, HB2.out, HB3.out]; rintro ee w4 ⟨X4, l4, q4, Y4, m4, r4, rfl, d4, h4, v4⟩)
        (try go_wp2_with fail)
        have K4 := ((KA.call v4).add h4).add d4
        clear p2c0n2 p2c1n2 p2c2n2 p2c3n2 p5c0n2 p5c1n2 p5c2n2 p5c3n2 b0n3 b1n3 b2n3 b3n3 p2c0n3 p2c1n3 p2c2n3 p2c3n3 p5c0n3 p5c1n3 p5c2n3 p5c3n3 f0n3 f1n3 f2n3 f3n3 e2xn3 e2yn3 e5xn3 e5yn3
        obtain ⟨⟨b0n4, b1n4, b2n4, b3n4⟩, _, _, ⟨p2c0n4, p2c1n4, p2c2n4, p2c3n4⟩, _, _, ⟨p5c0n4, p5c1n4, p5c2n4, p5c3n4⟩, _⟩ := K4.facts
        obtain ⟨f0n4, f1n4, f2n4, f3n4⟩ := K4.free (i := 0) rfl
        obtain ⟨e2xn4, e2yn4⟩ := K4.ne 0 3 rfl rfl (by decide)
        obtain ⟨e5xn4, e5yn4⟩ := K4.ne 0 6 rfl rfl (by decide)
        refine hK.out _ _ ?_ (fun hHeld4 => ?_)
        · ((try dsimp only); first | go_keep | (trace_state; fail))
        clear hK K hHeld3
        (try simp only [Act.put, List.setIfInBounds_toArray, List.set_cons_zero, List.set_cons_succ])
        refine wpAnyH_take (i := 5) (oi := ⟨some 37, _, _, _, _, _⟩) (v := ?_) rfl (by kernel_rfl) (by kernel_rfl) (by kernel_rfl) (fun _ _ _ h => h) (Or.inl ⟨by rfl, ?_⟩) (by assumption) ?_
        rotate_left
        · (intro w' hSw; (try dsimp only at hSw); go_simp; (try with_reducible rfl))
        (try simp only [Act.put, List.setIfInBounds_toArray, List.set_cons_zero, List.set_cons_succ])
        refine wpAnyH_take (i := 6) (oi := ⟨some 43, _, _, _, _, _⟩) (v := ?_) rfl (by kernel_rfl) (by kernel_rfl) (by kernel_rfl) (fun _ _ _ h => h) (Or.inl ⟨by rfl, ?_⟩) (by assumption) ?_
        rotate_left
        · (intro w' hSw; (try dsimp only at hSw); go_simp; (try with_reducible rfl))
        (try simp only [Act.put, List.setIfInBounds_toArray, List.set_cons_zero, List.set_cons_succ])
        refine wpAnyH_take (i := 7) (oi := ⟨some 44, _, _, _, _, _⟩) (v := ?_) rfl (by kernel_rfl) (by kernel_rfl) (by kernel_rfl) (fun _ _ _ h => h) (Or.inl ⟨by rfl, ?_⟩) (by assumption) ?_
        rotate_left
        · (intro w' hSw; (try dsimp only at hSw); go_simp; (try with_reducible rfl))
        (try simp only [Act.put, List.setIfInBounds_toArray, List.set_cons_zero, List.set_cons_succ])
        refine wpAnyH_ready (rs := [9]) (by kernel_rfl) (by simp) ?_
        refine AllReadyH.cons (o := ⟨none, _, _, _, _, _⟩) rfl (fun K hK => ?_) AllReadyH.nil
        go_simp
        refine hK.out _ _ ?_ (fun hHeld5 => ?_)
        · ((try dsimp only); first | go_keep | (trace_state; fail))
        clear hK K hHeld4
        (try simp only [Act.put, List.setIfInBounds_toArray, List.set_cons_zero, List.set_cons_succ])
        refine wpAnyH_take (i := 10) (oi := ⟨some 10, _, _, _, _, _⟩) (v := ?_) rfl (by kernel_rfl) (by kernel_rfl) (by kernel_rfl) (fun _ _ _ h => h) (Or.inl ⟨by rfl, ?_⟩) (by assumption) ?_
        rotate_left
        · (intro w' hSw; (try dsimp only at hSw); go_simp; (try with_reducible rfl))
        (try simp only [Act.put, List.setIfInBounds_toArray, List.set_cons_zero, List.set_cons_succ])
        refine wpAnyH_done (by kernel_rfl) ?_ _
        go_wp2_with fail
        go_meet
        have KF := K4.put4 0 rfl (decide (bx < 0)) X4 l4 q4 (decide (by_ < 0)) Y4 m4 r4
        (try simp only [List.set, World.size_alloc, World.size_setCell] at KF)
        exact ⟨_, X4, l4, q4, Y4, m4, r4, rfl, KF.ints_ ⟨KF.ints.1, KF.ints.2.1, KF.ints.2.2.2.2.2.2.1, KF.ints.2.2.2.2.2.2.2.1, KF.ints.2.2.2.2.2.2.2.2.1, KF.ints.2.2.2.2.2.2.2.2.2.1, KF.ints.2.2.2.2.2.2.2.2.2.2.1, KF.ints.2.2.2.2.2.2.2.2.2.2.2.1, KF.ints.2.2.2.2.2.2.2.2.2.2.2.2.1, KF.ints.2.2.2.2.2.2.2.2.2.2.2.2.2.1, KF.ints.2.2.2.2.2.2.2.2.2.2.2.2.2.2.1, KF.ints.2.2.2.2.2.2.2.2.2.2.2.2.2.2.2.1, trivial⟩⟩
      refine AllReadyH.cons (o := ⟨some 9, _, _, _, _, _⟩) rfl (fun K hK => ?_) AllReadyH.nil
      go_simp
      have KA := K0.new 26 (Plains.four false none 0 0 false none 0 0)
      (try simp only [World.size_alloc] at KA)
      obtain ⟨⟨b0n2, b1n2, b2n2, b3n2⟩, _, _, ⟨p2c0n2, p2c1n2, p2c2n2, p2c3n2⟩, _, _, ⟨p5c0n2, p5c1n2, p5c2n2, p5c3n2⟩, _⟩ := KA.facts
      obtain ⟨f0n2, f1n2, f2n2, f3n2⟩ := KA.free (i := 0) rfl
      obtain ⟨e2xn2, e2yn2⟩ := KA.ne 0 3 rfl rfl (by decide)
      obtain ⟨e5xn2, e5yn2⟩ := KA.ne 0 6 rfl rfl (by decide)
      refine hK.out _ _ ?_ (fun hHeld2 => ?_)
      · ((try dsimp only); first | go_keep | (trace_state; fail))
      clear hK K hHeld1
      (try simp only [Act.put, List.setIfInBounds_toArray, List.set_cons_zero, List.set_cons_succ])
      refine wpAnyH_ready (rs := [3]) (by kernel_rfl) (by simp) ?_
      refine AllReadyH.cons (o := ⟨some 41, _, _, _, _, _⟩) rfl (fun K hK => ?_) AllReadyH.nil
      go_simp
      have g3_0 := KA.ints.2.2.2.2.2.2.2.2.2.2.2.1.i
      have g3_1 := KA.ints.2.2.2.2.2.2.2.2.2.2.1.i
      have g3_2 := KA.ints.2.2.2.2.2.2.1.ci k_x
      have g3_3 := KA.ints.2.2.2.2.2.2.2.1.ci k_y
      (go_at_call 64; (with_reducible refine (rsubF_at g3_0 g3_1 g3_2 g3_3 z_a z_b z_x z_y).mono ?_); rw [HT.out.1, HT.out.2]; rintro ee w3 ⟨X3, l3, q3, Y3, m3, r3, rfl, d3, h3, v3⟩)
      (try go_wp2_with fail)
      have K3 := ((KA.call v3).add h3).add d3
      clear p2c0n1 p2c1n1 p2c2n1 p2c3n1 p5c0n1 p5c1n1 p5c2n1 p5c3n1 b0n2 b1n2 b2n2 b3n2 p2c0n2 p2c1n2 p2c2n2 p2c3n2 p5c0n2 p5c1n2 p5c2n2 p5c3n2 f0n2 f1n2 f2n2 f3n2 e2xn2 e2yn2 e5xn2 e5yn2
      obtain ⟨⟨b0n3, b1n3, b2n3, b3n3⟩, _, _, ⟨p2c0n3, p2c1n3, p2c2n3, p2c3n3⟩, _, _, ⟨p5c0n3, p5c1n3, p5c2n3, p5c3n3⟩, _⟩ := K3.facts
      obtain ⟨f0n3, f1n3, f2n3, f3n3⟩ := K3.free (i := 0) rfl
      obtain ⟨e2xn3, e2yn3⟩ := K3.ne 0 3 rfl rfl (by decide)
      obtain ⟨e5xn3, e5yn3⟩ := K3.ne 0 6 rfl rfl (by decide)
      refine hK.out _ _ ?_ (fun hHeld3 => ?_)
      · ((try dsimp only); first | go_keep | (trace_state; fail))
      clear hK K hHeld2
      (try simp only [Act.put, List.setIfInBounds_toArray, List.set_cons_zero, List.set_cons_succ])
      refine wpAnyH_ready (rs := [4]) (by kernel_rfl) (by simp) ?_
      refine AllReadyH.cons (o := ⟨some 42, _, _, _, _, _⟩) rfl (fun K hK => ?_) AllReadyH.nil
      go_simp
      have g4_0 := K3.ints.2.2.1.ci k_o
      have g4_1 := K3.ints.2.2.2.1.ci k_p
      have g4_2 := K3.ints.1.ci k_tx
      have g4_3 := K3.ints.2.1.ci k_ty
      (go_at_call 63; (with_reducible refine (rdivF_at g4_0 g4_1 g4_2 g4_3 z_o z_p z_tx z_ty).mono ?_); rw [HB1.out, HB2.out, HB3.out]; rintro ee w4 ⟨X4, l4, q4, Y4, m4, r4, rfl, d4, h4, v4⟩)
      (try go_wp2_with fail)
      have K4 := ((K3.call v4).add h4).add d4
      clear b0n3 b1n3 b2n3 b3n3 p2c0n3 p2c1n3 p2c2n3 p2c3n3 p5c0n3 p5c1n3 p5c2n3 p5c3n3 f0n3 f1n3 f2n3 f3n3 e2xn3 e2yn3 e5xn3 e5yn3
      obtain ⟨⟨b0n4, b1n4, b2n4, b3n4⟩, _, _, ⟨p2c0n4, p2c1n4, p2c2n4, p2c3n4⟩, _, _, ⟨p5c0n4, p5c1n4, p5c2n4, p5c3n4⟩, _⟩ := K4.facts
      obtain ⟨f0n4, f1n4, f2n4, f3n4⟩ := K4.free (i := 0) rfl
      obtain ⟨e2xn4, e2yn4⟩ := K4.ne 0 3 rfl rfl (by decide)
      obtain ⟨e5xn4, e5yn4⟩ := K4.ne 0 6 rfl rfl (by decide)
      refine hK.out _ _ ?_ (fun hHeld4 => ?_)
      · ((try dsimp only); first | go_keep | (trace_state; fail))
      clear hK K hHeld3
      (try simp only [Act.put, List.setIfInBounds_toArray, List.set_cons_zero, List.set_cons_succ])
      refine wpAnyH_take (i := 5) (oi := ⟨some 37, _, _, _, _, _⟩) (v := ?_) rfl (by kernel_rfl) (by kernel_rfl) (by kernel_rfl) (fun _ _ _ h => h) (Or.inl ⟨by rfl, ?_⟩) (by assumption) ?_
      rotate_left
      · (intro w' hSw; (try dsimp only at hSw); go_simp; (try with_reducible rfl))
      (try simp only [Act.put, List.setIfInBounds_toArray, List.set_cons_zero, List.set_cons_succ])
      refine wpAnyH_take (i := 6) (oi := ⟨some 43, _, _, _, _, _⟩) (v := ?_) rfl (by kernel_rfl) (by kernel_rfl) (by kernel_rfl) (fun _ _ _ h => h) (Or.inl ⟨by rfl, ?_⟩) (by assumption) ?_
      rotate_left
      · (intro w' hSw; (try dsimp only at hSw); go_simp; (try with_reducible rfl))
      (try simp only [Act.put, List.setIfInBounds_toArray, List.set_cons_zero, List.set_cons_succ])
      refine wpAnyH_take (i := 7) (oi := ⟨some 44, _, _, _, _, _⟩) (v := ?_) rfl (by kernel_rfl) (by kernel_rfl) (by kernel_rfl) (fun _ _ _ h => h) (Or.inl ⟨by rfl, ?_⟩) (by assumption) ?_
      rotate_left
      · (intro w' hSw; (try dsimp only at hSw); go_simp; (try with_reducible rfl))
      (try simp only [Act.put, List.setIfInBounds_toArray, List.set_cons_zero, List.set_cons_succ])
      refine wpAnyH_ready (rs := [9]) (by kernel_rfl) (by simp) ?_
      refine AllReadyH.cons (o := ⟨none, _, _, _, _, _⟩) rfl (fun K hK => ?_) AllReadyH.nil
      go_simp
      refine hK.out _ _ ?_ (fun hHeld5 => ?_)
      · ((try dsimp only); first | go_keep | (trace_state; fail))
      clear hK K hHeld4
      (try simp only [Act.put, List.setIfInBounds_toArray, List.set_cons_zero, List.set_cons_succ])
      refine wpAnyH_take (i := 10) (oi := ⟨some 10, _, _, _, _, _⟩) (v := ?_) rfl (by kernel_rfl) (by kernel_rfl) (by kernel_rfl) (fun _ _ _ h => h) (Or.inl ⟨by rfl, ?_⟩) (by assumption) ?_
      rotate_left
      · (intro w' hSw; (try dsimp only at hSw); go_simp; (try with_reducible rfl))
      (try simp only [Act.put, List.setIfInBounds_toArray, List.set_cons_zero, List.set_cons_succ])
      refine wpAnyH_done (by kernel_rfl) ?_ _
      go_wp2_with fail
      go_meet
      have KF := K4.put4 0 rfl (decide (bx < 0)) X4 l4 q4 (decide (by_ < 0)) Y4 m4 r4
      (try simp only [List.set, World.size_alloc, World.size_setCell] at KF)
      exact ⟨_, X4, l4, q4, Y4, m4, r4, rfl, KF.ints_ ⟨KF.ints.1, KF.ints.2.1, KF.ints.2.2.2.2.2.2.1, KF.ints.2.2.2.2.2.2.2.1, KF.ints.2.2.2.2.2.2.2.2.1, KF.ints.2.2.2.2.2.2.2.2.2.1, KF.ints.2.2.2.2.2.2.2.2.2.2.1, KF.ints.2.2.2.2.2.2.2.2.2.2.2.1, KF.ints.2.2.2.2.2.2.2.2.2.2.2.2.1, KF.ints.2.2.2.2.2.2.2.2.2.2.2.2.2.1, KF.ints.2.2.2.2.2.2.2.2.2.2.2.2.2.2.1, KF.ints.2.2.2.2.2.2.2.2.2.2.2.2.2.2.2.1, trivial⟩⟩
    refine AllReadyH.cons (o := ⟨some 9, _, _, _, _, _⟩) rfl (fun K hK => ?_) AllReadyH.nil
    go_simp
    have KA := KZ.new 26 (Plains.four false none 0 0 false none 0 0)
    (try simp only [World.size_alloc] at KA)
    obtain ⟨⟨b0n1, b1n1, b2n1, b3n1⟩, _, _, ⟨p2c0n1, p2c1n1, p2c2n1, p2c3n1⟩, _, _, ⟨p5c0n1, p5c1n1, p5c2n1, p5c3n1⟩, _⟩ := KA.facts
    obtain ⟨f0n1, f1n1, f2n1, f3n1⟩ := KA.free (i := 0) rfl
    obtain ⟨e2xn1, e2yn1⟩ := KA.ne 0 3 rfl rfl (by decide)
    obtain ⟨e5xn1, e5yn1⟩ := KA.ne 0 6 rfl rfl (by decide)
    refine hK.out _ _ ?_ (fun hHeld1 => ?_)
    · ((try dsimp only); first | go_keep | (trace_state; fail))
    clear hK K hHeld0
    (try simp only [Act.put, List.setIfInBounds_toArray, List.set_cons_zero, List.set_cons_succ])
    refine wpAnyH_ready (rs := [0]) (by kernel_rfl) (by simp) ?_
    refine AllReadyH.cons (o := ⟨some 38, _, _, _, _, _⟩) rfl (fun K hK => ?_) AllReadyH.nil
    go_simp
    (go_at_call 30; (with_reducible refine (whole_any 1 (by decide) (by decide) _).mono ?_); rw [HO.out.1, HO.out.2]; rintro ee w0 ⟨X0, l0, q0, Y0, m0, r0, rfl, d0, h0, v0⟩)
    (try go_wp2_with fail)
    have K0 := ((KA.drew.call v0).add h0).add d0
    clear b0n1 b1n1 b2n1 b3n1 p2c0n1 p2c1n1 p2c2n1 p2c3n1 p5c0n1 p5c1n1 p5c2n1 p5c3n1 f0n1 f1n1 f2n1 f3n1 e2xn1 e2yn1 e5xn1 e5yn1
    obtain ⟨⟨b0n2, b1n2, b2n2, b3n2⟩, _, _, ⟨p2c0n2, p2c1n2, p2c2n2, p2c3n2⟩, _, _, ⟨p5c0n2, p5c1n2, p5c2n2, p5c3n2⟩, _⟩ := K0.facts
    obtain ⟨f0n2, f1n2, f2n2, f3n2⟩ := K0.free (i := 0) rfl
    obtain ⟨e2xn2, e2yn2⟩ := K0.ne 0 3 rfl rfl (by decide)
    obtain ⟨e5xn2, e5yn2⟩ := K0.ne 0 6 rfl rfl (by decide)
    refine hK.out _ _ ?_ (fun hHeld2 => ?_)
    · ((try dsimp only); first | go_keep | (trace_state; fail))
    clear hK K hHeld1
    (try simp only [Act.put, List.setIfInBounds_toArray, List.set_cons_zero, List.set_cons_succ])
    refine wpAnyH_ready (rs := [3]) (by kernel_rfl) (by simp) ?_
    refine AllReadyH.cons (o := ⟨some 41, _, _, _, _, _⟩) rfl (fun K hK => ?_) AllReadyH.nil
    go_simp
    have g3_0 := K0.ints.2.2.2.2.2.2.2.2.2.2.2.1.i
    have g3_1 := K0.ints.2.2.2.2.2.2.2.2.2.2.1.i
    have g3_2 := K0.ints.2.2.2.2.2.2.1.ci k_x
    have g3_3 := K0.ints.2.2.2.2.2.2.2.1.ci k_y
    (go_at_call 64; (with_reducible refine (rsubF_at g3_0 g3_1 g3_2 g3_3 z_a z_b z_x z_y).mono ?_); rw [HT.out.1, HT.out.2]; rintro ee w3 ⟨X3, l3, q3, Y3, m3, r3, rfl, d3, h3, v3⟩)
    (try go_wp2_with fail)
    have K3 := ((K0.call v3).add h3).add d3
    clear b0n2 b1n2 b2n2 b3n2 p2c0n2 p2c1n2 p2c2n2 p2c3n2 p5c0n2 p5c1n2 p5c2n2 p5c3n2 f0n2 f1n2 f2n2 f3n2 e2xn2 e2yn2 e5xn2 e5yn2
    obtain ⟨⟨b0n3, b1n3, b2n3, b3n3⟩, _, _, ⟨p2c0n3, p2c1n3, p2c2n3, p2c3n3⟩, _, _, ⟨p5c0n3, p5c1n3, p5c2n3, p5c3n3⟩, _⟩ := K3.facts
    obtain ⟨f0n3, f1n3, f2n3, f3n3⟩ := K3.free (i := 0) rfl
    obtain ⟨e2xn3, e2yn3⟩ := K3.ne 0 3 rfl rfl (by decide)
    obtain ⟨e5xn3, e5yn3⟩ := K3.ne 0 6 rfl rfl (by decide)
    refine hK.out _ _ ?_ (fun hHeld3 => ?_)
    · ((try dsimp only); first | go_keep | (trace_state; fail))
    clear hK K hHeld2
    (try simp only [Act.put, List.setIfInBounds_toArray, List.set_cons_zero, List.set_cons_succ])
    refine wpAnyH_ready (rs := [4]) (by kernel_rfl) (by simp) ?_
    refine AllReadyH.cons (o := ⟨some 42, _, _, _, _, _⟩) rfl (fun K hK => ?_) AllReadyH.nil
    go_simp
    have g4_0 := K3.ints.2.2.1.ci k_o
    have g4_1 := K3.ints.2.2.2.1.ci k_p
    have g4_2 := K3.ints.1.ci k_tx
    have g4_3 := K3.ints.2.1.ci k_ty
    (go_at_call 63; (with_reducible refine (rdivF_at g4_0 g4_1 g4_2 g4_3 z_o z_p z_tx z_ty).mono ?_); rw [HB1.out, HB2.out, HB3.out]; rintro ee w4 ⟨X4, l4, q4, Y4, m4, r4, rfl, d4, h4, v4⟩)
    (try go_wp2_with fail)
    have K4 := ((K3.call v4).add h4).add d4
    clear b0n3 b1n3 b2n3 b3n3 p2c0n3 p2c1n3 p2c2n3 p2c3n3 p5c0n3 p5c1n3 p5c2n3 p5c3n3 f0n3 f1n3 f2n3 f3n3 e2xn3 e2yn3 e5xn3 e5yn3
    obtain ⟨⟨b0n4, b1n4, b2n4, b3n4⟩, _, _, ⟨p2c0n4, p2c1n4, p2c2n4, p2c3n4⟩, _, _, ⟨p5c0n4, p5c1n4, p5c2n4, p5c3n4⟩, _⟩ := K4.facts
    obtain ⟨f0n4, f1n4, f2n4, f3n4⟩ := K4.free (i := 0) rfl
    obtain ⟨e2xn4, e2yn4⟩ := K4.ne 0 3 rfl rfl (by decide)
    obtain ⟨e5xn4, e5yn4⟩ := K4.ne 0 6 rfl rfl (by decide)
    refine hK.out _ _ ?_ (fun hHeld4 => ?_)
    · ((try dsimp only); first | go_keep | (trace_state; fail))
    clear hK K hHeld3
    (try simp only [Act.put, List.setIfInBounds_toArray, List.set_cons_zero, List.set_cons_succ])
    refine wpAnyH_take (i := 5) (oi := ⟨some 37, _, _, _, _, _⟩) (v := ?_) rfl (by kernel_rfl) (by kernel_rfl) (by kernel_rfl) (fun _ _ _ h => h) (Or.inl ⟨by rfl, ?_⟩) (by assumption) ?_
    rotate_left
    · (intro w' hSw; (try dsimp only at hSw); go_simp; (try with_reducible rfl))
    (try simp only [Act.put, List.setIfInBounds_toArray, List.set_cons_zero, List.set_cons_succ])
    refine wpAnyH_take (i := 6) (oi := ⟨some 43, _, _, _, _, _⟩) (v := ?_) rfl (by kernel_rfl) (by kernel_rfl) (by kernel_rfl) (fun _ _ _ h => h) (Or.inl ⟨by rfl, ?_⟩) (by assumption) ?_
    rotate_left
    · (intro w' hSw; (try dsimp only at hSw); go_simp; (try with_reducible rfl))
    (try simp only [Act.put, List.setIfInBounds_toArray, List.set_cons_zero, List.set_cons_succ])
    refine wpAnyH_take (i := 7) (oi := ⟨some 44, _, _, _, _, _⟩) (v := ?_) rfl (by kernel_rfl) (by kernel_rfl) (by kernel_rfl) (fun _ _ _ h => h) (Or.inl ⟨by rfl, ?_⟩) (by assumption) ?_
    rotate_left
    · (intro w' hSw; (try dsimp only at hSw); go_simp; (try with_reducible rfl))
    (try simp only [Act.put, List.setIfInBounds_toArray, List.set_cons_zero, List.set_cons_succ])
    refine wpAnyH_ready (rs := [9]) (by kernel_rfl) (by simp) ?_
    refine AllReadyH.cons (o := ⟨none, _, _, _, _, _⟩) rfl (fun K hK => ?_) AllReadyH.nil
    go_simp
    refine hK.out _ _ ?_ (fun hHeld5 => ?_)
    · ((try dsimp only); first | go_keep | (trace_state; fail))
    clear hK K hHeld4
    (try simp only [Act.put, List.setIfInBounds_toArray, List.set_cons_zero, List.set_cons_succ])
    refine wpAnyH_take (i := 10) (oi := ⟨some 10, _, _, _, _, _⟩) (v := ?_) rfl (by kernel_rfl) (by kernel_rfl) (by kernel_rfl) (fun _ _ _ h => h) (Or.inl ⟨by rfl, ?_⟩) (by assumption) ?_
    rotate_left
    · (intro w' hSw; (try dsimp only at hSw); go_simp; (try with_reducible rfl))
    (try simp only [Act.put, List.setIfInBounds_toArray, List.set_cons_zero, List.set_cons_succ])
    refine wpAnyH_done (by kernel_rfl) ?_ _
    go_wp2_with fail
    go_meet
    have KF := K4.put4 0 rfl (decide (bx < 0)) X4 l4 q4 (decide (by_ < 0)) Y4 m4 r4
    (try simp only [List.set, World.size_alloc, World.size_setCell] at KF)
    exact ⟨_, X4, l4, q4, Y4, m4, r4, rfl, KF.ints_ ⟨KF.ints.1, KF.ints.2.1, KF.ints.2.2.2.2.2.2.1, KF.ints.2.2.2.2.2.2.2.1, KF.ints.2.2.2.2.2.2.2.2.1, KF.ints.2.2.2.2.2.2.2.2.2.1, KF.ints.2.2.2.2.2.2.2.2.2.2.1, KF.ints.2.2.2.2.2.2.2.2.2.2.2.1, KF.ints.2.2.2.2.2.2.2.2.2.2.2.2.1, KF.ints.2.2.2.2.2.2.2.2.2.2.2.2.2.1, KF.ints.2.2.2.2.2.2.2.2.2.2.2.2.2.2.1, KF.ints.2.2.2.2.2.2.2.2.2.2.2.2.2.2.2.1, trivial⟩⟩
  case rest =>
  clear KN7
  obtain ⟨h_9, X_9, l_9, q_9, Y_9, m_9, r_9, rfl, KN9⟩ := hcut
  go_upto_region 9 with fail
  go_cut [11] (fun vx wx => ∃ (h_11 : Nat) (X_11 : Option Addr) (l_11 q_11 : Nat) (Y_11 : Option Addr) (m_11 r_11 : Nat), vx = .pointer (some ⟨h_11, 0, none⟩) ∧ St w wx [vf h_11 (decide (cx < 0)) X_11 l_11 q_11 (decide (cy < 0)) Y_11 m_11 r_11, vf h_9 (decide (bx < 0)) X_9 l_9 q_9 (decide (by_ < 0)) Y_9 m_9 r_9, vf h_7 (decide (ax < 0)) X_7 l_7 q_7 (decide (ay < 0)) Y_7 m_7 r_7, vf h_6 (decide (m < 0)) X_6 l_6 q_6 (decide (n < 0)) Y_6 m_6 r_6, vf h_5 (decide (x < 0)) X_5 l_5 q_5 (decide (y < 0)) Y_5 m_5 r_5, vf (w.heap.size + 1 + 1) false none 0 0 false none 0 0, vf (w.heap.size + 1) s3 A3 n3 c3 s4 A4 n4 c4, vf w.heap.size s1 A1 n1 c1 s2 A2 n2 c2] [(decide (cx < 0), X_11, l_11, q_11, cx, true), (decide (cy < 0), Y_11, m_11, r_11, cy, true), (decide (bx < 0), X_9, l_9, q_9, bx, true), (decide (by_ < 0), Y_9, m_9, r_9, by_, true), (decide (ax < 0), X_7, l_7, q_7, ax, true), (decide (ay < 0), Y_7, m_7, r_7, ay, true), (decide (m < 0), X_6, l_6, q_6, m, true), (decide (n < 0), Y_6, m_6, r_6, n, true), (decide (x < 0), X_5, l_5, q_5, x, true), (decide (y < 0), Y_5, m_5, r_5, y, true), (s4, A4, n4, c4, d, false), (s3, A3, n3, c3, c, false), (s2, A2, n2, c2, b, false), (s1, A1, n1, c1, a, false)])
  case first =>
    have KZ := KN9
    clear KN9
    obtain ⟨⟨o00, o01, o02, o03⟩, ⟨o10, o11, o12, o13⟩, _, _, _, _, _, _⟩ := KZ.facts
    skip
    refine wp_region_held_drew (S := fun w' => w'.cell? ⟨h_9, 0, none⟩ = some (.bool (decide (bx < 0))) ∧ w'.cell? ⟨h_9, 1, none⟩ = some (.slice X_9 l_9 q_9) ∧ w'.cell? ⟨h_9, 2, none⟩ = some (.bool (decide (by_ < 0))) ∧ w'.cell? ⟨h_9, 3, none⟩ = some (.slice Y_9 m_9 r_9) ∧ w'.cell? ⟨h_7, 0, none⟩ = some (.bool (decide (ax < 0))) ∧ w'.cell? ⟨h_7, 1, none⟩ = some (.slice X_7 l_7 q_7) ∧ w'.cell? ⟨h_7, 2, none⟩ = some (.bool (decide (ay < 0))) ∧ w'.cell? ⟨h_7, 3, none⟩ = some (.slice Y_7 m_7 r_7)) (by kernel_rfl) ?_ (fun hHeld0 => ?_)
    · ((try dsimp only); go_keep)
    refine wpAnyH_take (i := 1) (oi := ⟨some 47, _, _, _, _, _⟩) (v := ?_) rfl (by kernel_rfl) (by kernel_rfl) (by kernel_rfl) (fun _ _ _ h => h) (Or.inl ⟨by rfl, ?_⟩) (by assumption) ?_
    rotate_left
    · (intro w' hSw; (try dsimp only at hSw); go_simp; (try with_reducible rfl))
    (try simp only [Act.put, List.setIfInBounds_toArray, List.set_cons_zero, List.set_cons_succ])
    refine wpAnyH_take (i := 2) (oi := ⟨some 48, _, _, _, _, _⟩) (v := ?_) rfl (by kernel_rfl) (by kernel_rfl) (by kernel_rfl) (fun _ _ _ h => h) (Or.inl ⟨by rfl, ?_⟩) (by assumption) ?_
    rotate_left
    · (intro w' hSw; (try dsimp only at hSw); go_simp; (try with_reducible rfl))
    (try simp only [Act.put, List.setIfInBounds_toArray, List.set_cons_zero, List.set_cons_succ])
    refine wpAnyH_ready (rs := [0, 8]) (by kernel_rfl) (by simp) ?_
    refine AllReadyH.cons (o := ⟨some 46, _, _, _, _, _⟩) rfl (fun K hK => ?_) ?_
    · skip
      go_simp
      (go_at_call 30; (with_reducible refine (whole_any 1 (by decide) (by decide) _).mono ?_); rw [HO.out.1, HO.out.2]; rintro ee w0 ⟨X0, l0, q0, Y0, m0, r0, rfl, d0, h0, v0⟩)
      (try go_wp2_with fail)
      have K0 := ((KZ.drew.call v0).add h0).add d0
      obtain ⟨⟨p0c0n1, p0c1n1, p0c2n1, p0c3n1⟩, ⟨p1c0n1, p1c1n1, p1c2n1, p1c3n1⟩, _, _, _, _, _, _⟩ := K0.facts
      refine hK.out _ _ ?_ (fun hHeld1 => ?_)
      · ((try dsimp only); first | go_keep | (trace_state; fail))
      clear hK K hHeld0
      (try simp only [Act.put, List.setIfInBounds_toArray, List.set_cons_zero, List.set_cons_succ])
      refine wpAnyH_ready (rs := [3, 8]) (by kernel_rfl) (by simp) ?_
      refine AllReadyH.cons (o := ⟨some 49, _, _, _, _, _⟩) rfl (fun K hK => ?_) ?_
      · skip
        go_simp
        have g3_0 := K0.ints.2.2.2.2.1.ci k_ax
        have g3_1 := K0.ints.2.2.2.2.2.1.ci k_ay
        have g3_2 := K0.ints.2.2.1.ci k_bx
        have g3_3 := K0.ints.2.2.2.1.ci k_by_
        (go_at_call 32; (with_reducible refine (hIH _ _ _ _ _ _ _ _ _ _ _ _ _ _ _ _ _ g3_0 g3_1 g3_2 g3_3).mono ?_); rw [HU1.out, HU2.out]; rintro ee w3 ⟨X3, l3, q3, Y3, m3, r3, rfl, d3, h3, v3⟩)
        (try go_wp2_with fail)
        have K3 := ((K0.call v3).add h3).add d3
        clear p0c0n1 p0c1n1 p0c2n1 p0c3n1 p1c0n1 p1c1n1 p1c2n1 p1c3n1
        obtain ⟨⟨p0c0n2, p0c1n2, p0c2n2, p0c3n2⟩, ⟨p1c0n2, p1c1n2, p1c2n2, p1c3n2⟩, _, _, _, _, _, _⟩ := K3.facts
        refine hK.out _ _ ?_ (fun hHeld2 => ?_)
        · ((try dsimp only); first | go_keep | (trace_state; fail))
        clear hK K hHeld1
        (try simp only [Act.put, List.setIfInBounds_toArray, List.set_cons_zero, List.set_cons_succ])
        refine wpAnyH_ready (rs := [4, 8]) (by kernel_rfl) (by simp) ?_
        refine AllReadyH.cons (o := ⟨some 50, _, _, _, _, _⟩) rfl (fun K hK => ?_) ?_
        · skip
          go_simp
          have g4_0 := K3.ints.2.2.1.ci k_o
          have g4_1 := K3.ints.2.2.2.1.ci k_p
          have g4_2 := K3.ints.1.ci k_u
          have g4_3 := K3.ints.2.1.ci k_v
          (go_at_call 63; (with_reducible refine (rdivF_at g4_0 g4_1 g4_2 g4_3 z_o z_p z_u z_v).mono ?_); rw [HV1.out, HV2.out, HV3.out]; rintro ee w4 ⟨X4, l4, q4, Y4, m4, r4, rfl, d4, h4, v4⟩)
          (try go_wp2_with fail)
          have K4 := ((K3.call v4).add h4).add d4
          clear p0c0n2 p0c1n2 p0c2n2 p0c3n2 p1c0n2 p1c1n2 p1c2n2 p1c3n2
          obtain ⟨⟨p0c0n3, p0c1n3, p0c2n3, p0c3n3⟩, ⟨p1c0n3, p1c1n3, p1c2n3, p1c3n3⟩, _, _, _, _, _, _⟩ := K4.facts
          refine hK.out _ _ ?_ (fun hHeld3 => ?_)
          · ((try dsimp only); first | go_keep | (trace_state; fail))
          clear hK K hHeld2
          (try simp only [Act.put, List.setIfInBounds_toArray, List.set_cons_zero, List.set_cons_succ])
          refine wpAnyH_take (i := 5) (oi := ⟨some 45, _, _, _, _, _⟩) (v := ?_) rfl (by kernel_rfl) (by kernel_rfl) (by kernel_rfl) (fun _ _ _ h => h) (Or.inl ⟨by rfl, ?_⟩) (by assumption) ?_
          rotate_left
          · (intro w' hSw; (try dsimp only at hSw); go_simp; (try with_reducible rfl))
          (try simp only [Act.put, List.setIfInBounds_toArray, List.set_cons_zero, List.set_cons_succ])
          refine wpAnyH_take (i := 6) (oi := ⟨some 51, _, _, _, _, _⟩) (v := ?_) rfl (by kernel_rfl) (by kernel_rfl) (by kernel_rfl) (fun _ _ _ h => h) (Or.inl ⟨by rfl, ?_⟩) (by assumption) ?_
          rotate_left
          · (intro w' hSw; (try dsimp only at hSw); go_simp; (try with_reducible rfl))
          (try simp only [Act.put, List.setIfInBounds_toArray, List.set_cons_zero, List.set_cons_succ])
          refine wpAnyH_take (i := 7) (oi := ⟨some 52, _, _, _, _, _⟩) (v := ?_) rfl (by kernel_rfl) (by kernel_rfl) (by kernel_rfl) (fun _ _ _ h => h) (Or.inl ⟨by rfl, ?_⟩) (by assumption) ?_
          rotate_left
          · (intro w' hSw; (try dsimp only at hSw); go_simp; (try with_reducible rfl))
          (try simp only [Act.put, List.setIfInBounds_toArray, List.set_cons_zero, List.set_cons_succ])
          refine wpAnyH_ready (rs := [8]) (by kernel_rfl) (by simp) ?_
          refine AllReadyH.cons (o := ⟨some 11, _, _, _, _, _⟩) rfl (fun K hK => ?_) AllReadyH.nil
          go_simp
          have KA := K4.new 26 (Plains.four false none 0 0 false none 0 0)
          (try simp only [World.size_alloc] at KA)
          obtain ⟨⟨b0n4, b1n4, b2n4, b3n4⟩, ⟨p0c0n4, p0c1n4, p0c2n4, p0c3n4⟩, ⟨p1c0n4, p1c1n4, p1c2n4, p1c3n4⟩, _, _, _, _, _, _⟩ := KA.facts
          obtain ⟨f0n4, f1n4, f2n4, f3n4⟩ := KA.free (i := 0) rfl
          obtain ⟨e0xn4, e0yn4⟩ := KA.ne 0 1 rfl rfl (by decide)
          obtain ⟨e1xn4, e1yn4⟩ := KA.ne 0 2 rfl rfl (by decide)
          refine hK.out _ _ ?_ (fun hHeld4 => ?_)
          · ((try dsimp only); first | go_keep | (trace_state; fail))
          clear hK K hHeld3
          (try simp only [Act.put, List.setIfInBounds_toArray, List.set_cons_zero, List.set_cons_succ])
          refine wpAnyH_ready (rs := [9]) (by kernel_rfl) (by simp) ?_
          refine AllReadyH.cons (o := ⟨none, _, _, _, _, _⟩) rfl (fun K hK => ?_) AllReadyH.nil
          go_simp
          refine hK.out _ _ ?_ (fun hHeld5 => ?_)
          · ((try dsimp only); first | go_keep | (trace_state; fail))
          clear hK K hHeld4
          (try simp only [Act.put, List.setIfInBounds_toArray, List.set_cons_zero, List.set_cons_succ])
          refine wpAnyH_take (i := 10) (oi := ⟨some 12, _, _, _, _, _⟩) (v := ?_) rfl (by kernel_rfl) (by kernel_rfl) (by kernel_rfl) (fun _ _ _ h => h) (Or.inl ⟨by rfl, ?_⟩) (by assumption) ?_
          rotate_left
          · (intro w' hSw; (try dsimp only at hSw); go_simp; (try with_reducible rfl))
          (try simp only [Act.put, List.setIfInBounds_toArray, List.set_cons_zero, List.set_cons_succ])
          refine wpAnyH_done (by kernel_rfl) ?_ _
          go_wp2_with fail
          go_meet
          have KF := K4.new 26 (Plains.four (decide (cx < 0)) X4 l4 q4 (decide (cy < 0)) Y4 m4 r4)
          (try simp only [List.set, World.size_alloc, World.size_setCell] at KF)
          exact ⟨_, X4, l4, q4, Y4, m4, r4, rfl, KF.ints_ ⟨KF.ints.1, KF.ints.2.1, KF.ints.2.2.2.2.2.2.1, KF.ints.2.2.2.2.2.2.2.1, KF.ints.2.2.2.2.2.2.2.2.1, KF.ints.2.2.2.2.2.2.2.2.2.1, KF.ints.2.2.2.2.2.2.2.2.2.2.1, KF.ints.2.2.2.2.2.2.2.2.2.2.2.1, KF.ints.2.2.2.2.2.2.2.2.2.2.2.2.1, KF.ints.2.2.2.2.2.2.2.2.2.2.2.2.2.1, KF.ints.2.2.2.2.2.2.2.2.2.2.2.2.2.2.1, KF.ints.2.2.2.2.2.2.2.2.2.2.2.2.2.2.2.1, KF.ints.2.2.2.2.2.2.2.2.2.2.2.2.2.2.2.2.1, KF.ints.2.2.2.2.2.2.2.2.2.2.2.2.2.2.2.2.2.1, trivial⟩⟩
        refine AllReadyH.cons (o := ⟨some 11, _, _, _, _, _⟩) rfl (fun K hK => ?_) AllReadyH.nil
        go_simp
        have KA := K3.new 26 (Plains.four false none 0 0 false none 0 0)
        (try simp only [World.size_alloc] at KA)
        obtain ⟨⟨b0n3, b1n3, b2n3, b3n3⟩, ⟨p0c0n3, p0c1n3, p0c2n3, p0c3n3⟩, ⟨p1c0n3, p1c1n3, p1c2n3, p1c3n3⟩, _, _, _, _, _, _⟩ := KA.facts
        obtain ⟨f0n3, f1n3, f2n3, f3n3⟩ := KA.free (i := 0) rfl
        obtain ⟨e0xn3, e0yn3⟩ := KA.ne 0 1 rfl rfl (by decide)
        obtain ⟨e1xn3, e1yn3⟩ := KA.ne 0 2 rfl rfl (by decide)
        refine hK.out _ _ ?_ (fun hHeld3 => ?_)
        · ((try dsimp only); first | go_keep | (trace_state; fail))
        clear hK K hHeld2
        (try simp only [Act.put, List.setIfInBounds_toArray, List.set_cons_zero, List.set_cons_succ])
        refine wpAnyH_ready (rs := [4]) (by kernel_rfl) (by simp) ?_
        refine AllReadyH.cons (o := ⟨some 50, _, _, _, _, _⟩) rfl (fun K hK => ?_) AllReadyH.nil
        go_simp
        have g4_0 := KA.ints.2.2.1.ci k_o
        have g4_1 := KA.ints.2.2.2.1.ci k_p
        have g4_2 := KA.ints.1.ci k_u
        have g4_3 := KA.ints.2.1.ci k_v
        (go_at_call 63; (with_reducible refine (rdivF_at g4_0 g4_1 g4_2 g4_3 z_o z_p z_u z_v).mono ?_); rw [HV1.out, HV2.out, HV3.out]; rintro ee w4 ⟨X4, l4, q4, Y4, m4, r4, rfl, d4, h4, v4⟩)
        (try go_wp2_with fail)
        have K4 := ((KA.call v4).add h4).add d4
        clear p0c0n2 p0c1n2 p0c2n2 p0c3n2 p1c0n2 p1c1n2 p1c2n2 p1c3n2 b0n3 b1n3 b2n3 b3n3 p0c0n3 p0c1n3 p0c2n3 p0c3n3 p1c0n3 p1c1n3 p1c2n3 p1c3n3 f0n3 f1n3 f2n3 f3n3 e0xn3 e0yn3 e1xn3 e1yn3
        obtain ⟨⟨b0n4, b1n4, b2n4, b3n4⟩, ⟨p0c0n4, p0c1n4, p0c2n4, p0c3n4⟩, ⟨p1c0n4, p1c1n4, p1c2n4, p1c3n4⟩, _, _, _, _, _, _⟩ := K4.facts
        obtain ⟨f0n4, f1n4, f2n4, f3n4⟩ := K4.free (i := 0) rfl
        obtain ⟨e0xn4, e0yn4⟩ := K4.ne 0 1 rfl rfl (by decide)
        obtain ⟨e1xn4, e1yn4⟩ := K4.ne 0 2 rfl rfl (by decide)
        refine hK.out _ _ ?_ (fun hHeld4 => ?_)
        · ((try dsimp only); first | go_keep | (trace_state; fail))
        clear hK K hHeld3
        (try simp only [Act.put, List.setIfInBounds_toArray, List.set_cons_zero, List.set_cons_succ])
        refine wpAnyH_take (i := 5) (oi := ⟨some 45, _, _, _, _, _⟩) (v := ?_) rfl (by kernel_rfl) (by kernel_rfl) (by kernel_rfl) (fun _ _ _ h => h) (Or.inl ⟨by rfl, ?_⟩) (by assumption) ?_
        rotate_left
        · (intro w' hSw; (try dsimp only at hSw); go_simp; (try with_reducible rfl))
        (try simp only [Act.put, List.setIfInBounds_toArray, List.set_cons_zero, List.set_cons_succ])
        refine wpAnyH_take (i := 6) (oi := ⟨some 51, _, _, _, _, _⟩) (v := ?_) rfl (by kernel_rfl) (by kernel_rfl) (by kernel_rfl) (fun _ _ _ h => h) (Or.inl ⟨by rfl, ?_⟩) (by assumption) ?_
        rotate_left
        · (intro w' hSw; (try dsimp only at hSw); go_simp; (try with_reducible rfl))
        (try simp only [Act.put, List.setIfInBounds_toArray, List.set_cons_zero, List.set_cons_succ])
        refine wpAnyH_take (i := 7) (oi := ⟨some 52, _, _, _, _, _⟩) (v := ?_) rfl (by kernel_rfl) (by kernel_rfl) (by kernel_rfl) (fun _ _ _ h => h) (Or.inl ⟨by rfl, ?_⟩) (by assumption) ?_
        rotate_left
        · (intro w' hSw; (try dsimp only at hSw); go_simp; (try with_reducible rfl))
        (try simp only [Act.put, List.setIfInBounds_toArray, List.set_cons_zero, List.set_cons_succ])
        refine wpAnyH_ready (rs := [9]) (by kernel_rfl) (by simp) ?_
        refine AllReadyH.cons (o := ⟨none, _, _, _, _, _⟩) rfl (fun K hK => ?_) AllReadyH.nil
        go_simp
        refine hK.out _ _ ?_ (fun hHeld5 => ?_)
        · ((try dsimp only); first | go_keep | (trace_state; fail))
        clear hK K hHeld4
        (try simp only [Act.put, List.setIfInBounds_toArray, List.set_cons_zero, List.set_cons_succ])
        refine wpAnyH_take (i := 10) (oi := ⟨some 12, _, _, _, _, _⟩) (v := ?_) rfl (by kernel_rfl) (by kernel_rfl) (by kernel_rfl) (fun _ _ _ h => h) (Or.inl ⟨by rfl, ?_⟩) (by assumption) ?_
        rotate_left
        · (intro w' hSw; (try dsimp only at hSw); go_simp; (try with_reducible rfl))
        (try simp only [Act.put, List.setIfInBounds_toArray, List.set_cons_zero, List.set_cons_succ])
        refine wpAnyH_done (by kernel_rfl) ?_ _
        go_wp2_with fail
        go_meet
        have KF := K4.put4 0 rfl (decide (cx < 0)) X4 l4 q4 (decide (cy < 0)) Y4 m4 r4
        (try simp only [List.set, World.size_alloc, World.size_setCell] at KF)
        exact ⟨_, X4, l4, q4, Y4, m4, r4, rfl, KF.ints_ ⟨KF.ints.1, KF.ints.2.1, KF.ints.2.2.2.2.2.2.1, KF.ints.2.2.2.2.2.2.2.1, KF.ints.2.2.2.2.2.2.2.2.1, KF.ints.2.2.2.2.2.2.2.2.2.1, KF.ints.2.2.2.2.2.2.2.2.2.2.1, KF.ints.2.2.2.2.2.2.2.2.2.2.2.1, KF.ints.2.2.2.2.2.2.2.2.2.2.2.2.1, KF.ints.2.2.2.2.2.2.2.2.2.2.2.2.2.1, KF.ints.2.2.2.2.2.2.2.2.2.2.2.2.2.2.1, KF.ints.2.2.2.2.2.2.2.2.2.2.2.2.2.2.2.1, KF.ints.2.2.2.2.2.2.2.2.2.2.2.2.2.2.2.2.1, KF.ints.2.2.2.2.2.2.2.2.2.2.2.2.2.2.2.2.2.1, trivial⟩⟩
      refine AllReadyH.cons (o := ⟨some 11, _, _, _, _, _⟩) rfl (fun K hK => ?_) AllReadyH.nil
      go_simp
      have KA := K0.new 26 (Plains.four false none 0 0 false none 0 0)
      (try simp only [World.size_alloc] at KA)
      obtain ⟨⟨b0n2, b1n2, b2n2, b3n2⟩, ⟨p0c0n2, p0c1n2, p0c2n2, p0c3n2⟩, ⟨p1c0n2, p1c1n2, p1c2n2, p1c3n2⟩, _, _, _, _, _, _⟩ := KA.facts
      obtain ⟨f0n2, f1n2, f2n2, f3n2⟩ := KA.free (i := 0) rfl
      obtain ⟨e0xn2, e0yn2⟩ := KA.ne 0 1 rfl rfl (by decide)
      obtain ⟨e1xn2, e1yn2⟩ := KA.ne 0 2 rfl rfl (by decide)
      refine hK.out _ _ ?_ (fun hHeld2 => ?_)
      · ((try dsimp only); first | go_keep | (trace_state; fail))
      clear hK K hHeld1
      (try simp only [Act.put, List.setIfInBounds_toArray, List.set_cons_zero, List.set_cons_succ])
      refine wpAnyH_ready (rs := [3]) (by kernel_rfl) (by simp) ?_
      refine AllReadyH.cons (o := ⟨some 49, _, _, _, _, _⟩) rfl (fun K hK => ?_) AllReadyH.nil
      go_simp
      have g3_0 := KA.ints.2.2.2.2.1.ci k_ax
      have g3_1 := KA.ints.2.2.2.2.2.1.ci k_ay
      have g3_2 := KA.ints.2.2.1.ci k_bx
      have g3_3 := KA.ints.2.2.2.1.ci k_by_
      (go_at_call 32; (with_reducible refine (hIH _ _ _ _ _ _ _ _ _ _ _ _ _ _ _ _ _ g3_0 g3_1 g3_2 g3_3).mono ?_); rw [HU1.out, HU2.out]; rintro ee w3 ⟨X3, l3, q3, Y3, m3, r3, rfl, d3, h3, v3⟩)
      (try go_wp2_with fail)
      have K3 := ((KA.call v3).add h3).add d3
      clear p0c0n1 p0c1n1 p0c2n1 p0c3n1 p1c0n1 p1c1n1 p1c2n1 p1c3n1 b0n2 b1n2 b2n2 b3n2 p0c0n2 p0c1n2 p0c2n2 p0c3n2 p1c0n2 p1c1n2 p1c2n2 p1c3n2 f0n2 f1n2 f2n2 f3n2 e0xn2 e0yn2 e1xn2 e1yn2
      obtain ⟨⟨b0n3, b1n3, b2n3, b3n3⟩, ⟨p0c0n3, p0c1n3, p0c2n3, p0c3n3⟩, ⟨p1c0n3, p1c1n3, p1c2n3, p1c3n3⟩, _, _, _, _, _, _⟩ := K3.facts
      obtain ⟨f0n3, f1n3, f2n3, f3n3⟩ := K3.free (i := 0) rfl
      obtain ⟨e0xn3, e0yn3⟩ := K3.ne 0 1 rfl rfl (by decide)
      obtain ⟨e1xn3, e1yn3⟩ := K3.ne 0 2 rfl rfl (by decide)
      refine hK.out _ _ ?_ (fun hHeld3 => ?_)
      · ((try dsimp only); first | go_keep | (trace_state; fail))
      clear hK K hHeld2
      (try simp only [Act.put, List.setIfInBounds_toArray, List.set_cons_zero, List.set_cons_succ])
      refine wpAnyH_ready (rs := [4]) (by kernel_rfl) (by simp) ?_
      refine AllReadyH.cons (o := ⟨some 50, _, _, _, _, _⟩) rfl (fun K hK => ?_) AllReadyH.nil
      go_simp
      have g4_0 := K3.ints.2.2.1.ci k_o
      have g4_1 := K3.ints.2.2.2.1.ci k_p
      have g4_2 := K3.ints.1.ci k_u
      have g4_3 := K3.ints.2.1.ci k_v
      (go_at_call 63; (with_reducible refine (rdivF_at g4_0 g4_1 g4_2 g4_3 z_o z_p z_u z_v).mono ?_); rw [HV1.out, HV2.out, HV3.out]; rintro ee w4 ⟨X4, l4, q4, Y4, m4, r4, rfl, d4, h4, v4⟩)
      (try go_wp2_with fail)
      have K4 := ((K3.call v4).add h4).add d4
      clear b0n3 b1n3 b2n3 b3n3 p0c0n3 p0c1n3 p0c2n3 p0c3n3 p1c0n3 p1c1n3 p1c2n3 p1c3n3 f0n3 f1n3 f2n3 f3n3 e0xn3 e0yn3 e1xn3 e1yn3
      obtain ⟨⟨b0n4, b1n4, b2n4, b3n4⟩, ⟨p0c0n4, p0c1n4, p0c2n4, p0c3n4⟩, ⟨p1c0n4, p1c1n4, p1c2n4, p1c3n4⟩, _, _, _, _, _, _⟩ := K4.facts
      obtain ⟨f0n4, f1n4, f2n4, f3n4⟩ := K4.free (i := 0) rfl
      obtain ⟨e0xn4, e0yn4⟩ := K4.ne 0 1 rfl rfl (by decide)
      obtain ⟨e1xn4, e1yn4⟩ := K4.ne 0 2 rfl rfl (by decide)
      refine hK.out _ _ ?_ (fun hHeld4 => ?_)
      · ((try dsimp only); first | go_keep | (trace_state; fail))
      clear hK K hHeld3
      (try simp only [Act.put, List.setIfInBounds_toArray, List.set_cons_zero, List.set_cons_succ])
      refine wpAnyH_take (i := 5) (oi := ⟨some 45, _, _, _, _, _⟩) (v := ?_) rfl (by kernel_rfl) (by kernel_rfl) (by kernel_rfl) (fun _ _ _ h => h) (Or.inl ⟨by rfl, ?_⟩) (by assumption) ?_
      rotate_left
      · (intro w' hSw; (try dsimp only at hSw); go_simp; (try with_reducible rfl))
      (try simp only [Act.put, List.setIfInBounds_toArray, List.set_cons_zero, List.set_cons_succ])
      refine wpAnyH_take (i := 6) (oi := ⟨some 51, _, _, _, _, _⟩) (v := ?_) rfl (by kernel_rfl) (by kernel_rfl) (by kernel_rfl) (fun _ _ _ h => h) (Or.inl ⟨by rfl, ?_⟩) (by assumption) ?_
      rotate_left
      · (intro w' hSw; (try dsimp only at hSw); go_simp; (try with_reducible rfl))
      (try simp only [Act.put, List.setIfInBounds_toArray, List.set_cons_zero, List.set_cons_succ])
      refine wpAnyH_take (i := 7) (oi := ⟨some 52, _, _, _, _, _⟩) (v := ?_) rfl (by kernel_rfl) (by kernel_rfl) (by kernel_rfl) (fun _ _ _ h => h) (Or.inl ⟨by rfl, ?_⟩) (by assumption) ?_
      rotate_left
      · (intro w' hSw; (try dsimp only at hSw); go_simp; (try with_reducible rfl))
      (try simp only [Act.put, List.setIfInBounds_toArray, List.set_cons_zero, List.set_cons_succ])
      refine wpAnyH_ready (rs := [9]) (by kernel_rfl) (by simp) ?_
      refine AllReadyH.cons (o := ⟨none, _, _, _, _, _⟩) rfl (fun K hK => ?_) AllReadyH.nil
      go_simp
      refine hK.out _ _ ?_ (fun hHeld5 => ?_)
      · ((try dsimp only); first | go_keep | (trace_state; fail))
      clear hK K hHeld4
      (try simp only [Act.put, List.setIfInBounds_toArray, List.set_cons_zero, List.set_cons_succ])
      refine wpAnyH_take (i := 10) (oi := ⟨some 12, _, _, _, _, _⟩) (v := ?_) rfl (by kernel_rfl) (by kernel_rfl) (by kernel_rfl) (fun _ _ _ h => h) (Or.inl ⟨by rfl, ?_⟩) (by assumption) ?_
      rotate_left
      · (intro w' hSw; (try dsimp only at hSw); go_simp; (try with_reducible rfl))
      (try simp only [Act.put, List.setIfInBounds_toArray, List.set_cons_zero, List.set_cons_succ])
      refine wpAnyH_done (by kernel_rfl) ?_ _
      go_wp2_with fail
      go_meet
      have KF := K4.put4 0 rfl (decide (cx < 0)) X4 l4 q4 (decide (cy < 0)) Y4 m4 r4
      (try simp only [List.set, World.size_alloc, World.size_setCell] at KF)
      exact ⟨_, X4, l4, q4, Y4, m4, r4, rfl, KF.ints_ ⟨KF.ints.1, KF.ints.2.1, KF.ints.2.2.2.2.2.2.1, KF.ints.2.2.2.2.2.2.2.1, KF.ints.2.2.2.2.2.2.2.2.1, KF.ints.2.2.2.2.2.2.2.2.2.1, KF.ints.2.2.2.2.2.2.2.2.2.2.1, KF.ints.2.2.2.2.2.2.2.2.2.2.2.1, KF.ints.2.2.2.2.2.2.2.2.2.2.2.2.1, KF.ints.2.2.2.2.2.2.2.2.2.2.2.2.2.1, KF.ints.2.2.2.2.2.2.2.2.2.2.2.2.2.2.1, KF.ints.2.2.2.2.2.2.2.2.2.2.2.2.2.2.2.1, KF.ints.2.2.2.2.2.2.2.2.2.2.2.2.2.2.2.2.1, KF.ints.2.2.2.2.2.2.2.2.2.2.2.2.2.2.2.2.2.1, trivial⟩⟩
    refine AllReadyH.cons (o := ⟨some 11, _, _, _, _, _⟩) rfl (fun K hK => ?_) AllReadyH.nil
    go_simp
    have KA := KZ.new 26 (Plains.four false none 0 0 false none 0 0)
    (try simp only [World.size_alloc] at KA)
    obtain ⟨⟨b0n1, b1n1, b2n1, b3n1⟩, ⟨p0c0n1, p0c1n1, p0c2n1, p0c3n1⟩, ⟨p1c0n1, p1c1n1, p1c2n1, p1c3n1⟩, _, _, _, _, _, _⟩ := KA.facts
    obtain ⟨f0n1, f1n1, f2n1, f3n1⟩ := KA.free (i := 0) rfl
    obtain ⟨e0xn1, e0yn1⟩ := KA.ne 0 1 rfl rfl (by decide)
    obtain ⟨e1xn1, e1yn1⟩ := KA.ne 0 2 rfl rfl (by decide)
    refine hK.out _ _ ?_ (fun hHeld1 => ?_)
    · ((try dsimp only); first | go_keep | (trace_state; fail))
    clear hK K hHeld0
    (try simp only [Act.put, List.setIfInBounds_toArray, List.set_cons_zero, List.set_cons_succ])
    refine wpAnyH_ready (rs := [0]) (by kernel_rfl) (by simp) ?_
    refine AllReadyH.cons (o := ⟨some 46, _, _, _, _, _⟩) rfl (fun K hK => ?_) AllReadyH.nil
    go_simp
    (go_at_call 30; (with_reducible refine (whole_any 1 (by decide) (by decide) _).mono ?_); rw [HO.out.1, HO.out.2]; rintro ee w0 ⟨X0, l0, q0, Y0, m0, r0, rfl, d0, h0, v0⟩)
    (try go_wp2_with fail)
    have K0 := ((KA.drew.call v0).add h0).add d0
    clear b0n1 b1n1 b2n1 b3n1 p0c0n1 p0c1n1 p0c2n1 p0c3n1 p1c0n1 p1c1n1 p1c2n1 p1c3n1 f0n1 f1n1 f2n1 f3n1 e0xn1 e0yn1 e1xn1 e1yn1
    obtain ⟨⟨b0n2, b1n2, b2n2, b3n2⟩, ⟨p0c0n2, p0c1n2, p0c2n2, p0c3n2⟩, ⟨p1c0n2, p1c1n2, p1c2n2, p1c3n2⟩, _, _, _, _, _, _⟩ := K0.facts
    obtain ⟨f0n2, f1n2, f2n2, f3n2⟩ := K0.free (i := 0) rfl
    obtain ⟨e0xn2, e0yn2⟩ := K0.ne 0 1 rfl rfl (by decide)
    obtain ⟨e1xn2, e1yn2⟩ := K0.ne 0 2 rfl rfl (by decide)
    refine hK.out _ _ ?_ (fun hHeld2 => ?_)
    · ((try dsimp only); first | go_keep | (trace_state; fail))
    clear hK K hHeld1
    (try simp only [Act.put, List.setIfInBounds_toArray, List.set_cons_zero, List.set_cons_succ])
    refine wpAnyH_ready (rs := [3]) (by kernel_rfl) (by simp) ?_
    refine AllReadyH.cons (o := ⟨some 49, _, _, _, _, _⟩) rfl (fun K hK => ?_) AllReadyH.nil
    go_simp
    have g3_0 := K0.ints.2.2.2.2.1.ci k_ax
    have g3_1 := K0.ints.2.2.2.2.2.1.ci k_ay
    have g3_2 := K0.ints.2.2.1.ci k_bx
    have g3_3 := K0.ints.2.2.2.1.ci k_by_
    (go_at_call 32; (with_reducible refine (hIH _ _ _ _ _ _ _ _ _ _ _ _ _ _ _ _ _ g3_0 g3_1 g3_2 g3_3).mono ?_); rw [HU1.out, HU2.out]; rintro ee w3 ⟨X3, l3, q3, Y3, m3, r3, rfl, d3, h3, v3⟩)
    (try go_wp2_with fail)
    have K3 := ((K0.call v3).add h3).add d3
    clear b0n2 b1n2 b2n2 b3n2 p0c0n2 p0c1n2 p0c2n2 p0c3n2 p1c0n2 p1c1n2 p1c2n2 p1c3n2 f0n2 f1n2 f2n2 f3n2 e0xn2 e0yn2 e1xn2 e1yn2
    obtain ⟨⟨b0n3, b1n3, b2n3, b3n3⟩, ⟨p0c0n3, p0c1n3, p0c2n3, p0c3n3⟩, ⟨p1c0n3, p1c1n3, p1c2n3, p1c3n3⟩, _, _, _, _, _, _⟩ := K3.facts
    obtain ⟨f0n3, f1n3, f2n3, f3n3⟩ := K3.free (i := 0) rfl
    obtain ⟨e0xn3, e0yn3⟩ := K3.ne 0 1 rfl rfl (by decide)
    obtain ⟨e1xn3, e1yn3⟩ := K3.ne 0 2 rfl rfl (by decide)
    refine hK.out _ _ ?_ (fun hHeld3 => ?_)
    · ((try dsimp only); first | go_keep | (trace_state; fail))
    clear hK K hHeld2
    (try simp only [Act.put, List.setIfInBounds_toArray, List.set_cons_zero, List.set_cons_succ])
    refine wpAnyH_ready (rs := [4]) (by kernel_rfl) (by simp) ?_
    refine AllReadyH.cons (o := ⟨some 50, _, _, _, _, _⟩) rfl (fun K hK => ?_) AllReadyH.nil
    go_simp
    have g4_0 := K3.ints.2.2.1.ci k_o
    have g4_1 := K3.ints.2.2.2.1.ci k_p
    have g4_2 := K3.ints.1.ci k_u
    have g4_3 := K3.ints.2.1.ci k_v
    (go_at_call 63; (with_reducible refine (rdivF_at g4_0 g4_1 g4_2 g4_3 z_o z_p z_u z_v).mono ?_); rw [HV1.out, HV2.out, HV3.out]; rintro ee w4 ⟨X4, l4, q4, Y4, m4, r4, rfl, d4, h4, v4⟩)
    (try go_wp2_with fail)
    have K4 := ((K3.call v4).add h4).add d4
    clear b0n3 b1n3 b2n3 b3n3 p0c0n3 p0c1n3 p0c2n3 p0c3n3 p1c0n3 p1c1n3 p1c2n3 p1c3n3 f0n3 f1n3 f2n3 f3n3 e0xn3 e0yn3 e1xn3 e1yn3
    obtain ⟨⟨b0n4, b1n4, b2n4, b3n4⟩, ⟨p0c0n4, p0c1n4, p0c2n4, p0c3n4⟩, ⟨p1c0n4, p1c1n4, p1c2n4, p1c3n4⟩, _, _, _, _, _, _⟩ := K4.facts
    obtain ⟨f0n4, f1n4, f2n4, f3n4⟩ := K4.free (i := 0) rfl
    obtain ⟨e0xn4, e0yn4⟩ := K4.ne 0 1 rfl rfl (by decide)
    obtain ⟨e1xn4, e1yn4⟩ := K4.ne 0 2 rfl rfl (by decide)
    refine hK.out _ _ ?_ (fun hHeld4 => ?_)
    · ((try dsimp only); first | go_keep | (trace_state; fail))
    clear hK K hHeld3
    (try simp only [Act.put, List.setIfInBounds_toArray, List.set_cons_zero, List.set_cons_succ])
    refine wpAnyH_take (i := 5) (oi := ⟨some 45, _, _, _, _, _⟩) (v := ?_) rfl (by kernel_rfl) (by kernel_rfl) (by kernel_rfl) (fun _ _ _ h => h) (Or.inl ⟨by rfl, ?_⟩) (by assumption) ?_
    rotate_left
    · (intro w' hSw; (try dsimp only at hSw); go_simp; (try with_reducible rfl))
    (try simp only [Act.put, List.setIfInBounds_toArray, List.set_cons_zero, List.set_cons_succ])
    refine wpAnyH_take (i := 6) (oi := ⟨some 51, _, _, _, _, _⟩) (v := ?_) rfl (by kernel_rfl) (by kernel_rfl) (by kernel_rfl) (fun _ _ _ h => h) (Or.inl ⟨by rfl, ?_⟩) (by assumption) ?_
    rotate_left
    · (intro w' hSw; (try dsimp only at hSw); go_simp; (try with_reducible rfl))
    (try simp only [Act.put, List.setIfInBounds_toArray, List.set_cons_zero, List.set_cons_succ])
    refine wpAnyH_take (i := 7) (oi := ⟨some 52, _, _, _, _, _⟩) (v := ?_) rfl (by kernel_rfl) (by kernel_rfl) (by kernel_rfl) (fun _ _ _ h => h) (Or.inl ⟨by rfl, ?_⟩) (by assumption) ?_
    rotate_left
    · (intro w' hSw; (try dsimp only at hSw); go_simp; (try with_reducible rfl))
    (try simp only [Act.put, List.setIfInBounds_toArray, List.set_cons_zero, List.set_cons_succ])
    refine wpAnyH_ready (rs := [9]) (by kernel_rfl) (by simp) ?_
    refine AllReadyH.cons (o := ⟨none, _, _, _, _, _⟩) rfl (fun K hK => ?_) AllReadyH.nil
    go_simp
    refine hK.out _ _ ?_ (fun hHeld5 => ?_)
    · ((try dsimp only); first | go_keep | (trace_state; fail))
    clear hK K hHeld4
    (try simp only [Act.put, List.setIfInBounds_toArray, List.set_cons_zero, List.set_cons_succ])
    refine wpAnyH_take (i := 10) (oi := ⟨some 12, _, _, _, _, _⟩) (v := ?_) rfl (by kernel_rfl) (by kernel_rfl) (by kernel_rfl) (fun _ _ _ h => h) (Or.inl ⟨by rfl, ?_⟩) (by assumption) ?_
    rotate_left
    · (intro w' hSw; (try dsimp only at hSw); go_simp; (try with_reducible rfl))
    (try simp only [Act.put, List.setIfInBounds_toArray, List.set_cons_zero, List.set_cons_succ])
    refine wpAnyH_done (by kernel_rfl) ?_ _
    go_wp2_with fail
    go_meet
    have KF := K4.put4 0 rfl (decide (cx < 0)) X4 l4 q4 (decide (cy < 0)) Y4 m4 r4
    (try simp only [List.set, World.size_alloc, World.size_setCell] at KF)
    exact ⟨_, X4, l4, q4, Y4, m4, r4, rfl, KF.ints_ ⟨KF.ints.1, KF.ints.2.1, KF.ints.2.2.2.2.2.2.1, KF.ints.2.2.2.2.2.2.2.1, KF.ints.2.2.2.2.2.2.2.2.1, KF.ints.2.2.2.2.2.2.2.2.2.1, KF.ints.2.2.2.2.2.2.2.2.2.2.1, KF.ints.2.2.2.2.2.2.2.2.2.2.2.1, KF.ints.2.2.2.2.2.2.2.2.2.2.2.2.1, KF.ints.2.2.2.2.2.2.2.2.2.2.2.2.2.1, KF.ints.2.2.2.2.2.2.2.2.2.2.2.2.2.2.1, KF.ints.2.2.2.2.2.2.2.2.2.2.2.2.2.2.2.1, KF.ints.2.2.2.2.2.2.2.2.2.2.2.2.2.2.2.2.1, KF.ints.2.2.2.2.2.2.2.2.2.2.2.2.2.2.2.2.2.1, trivial⟩⟩
  case rest =>
  clear KN9
  obtain ⟨h_11, X_11, l_11, q_11, Y_11, m_11, r_11, rfl, KN11⟩ := hcut
  obtain ⟨⟨t00, t01, t02, t03⟩, ⟨t10, t11, t12, t13⟩, ⟨t20, t21, t22, t23⟩, ⟨t30, t31, t32, t33⟩, ⟨t40, t41, t42, t43⟩, ⟨t50, t51, t52, t53⟩, ⟨t60, t61, t62, t63⟩, ⟨t70, t71, t72, t73⟩, _⟩ := KN11.facts
  go_wp2_with (first
    | (go_at_call 62; have j1 := KN11.ints.2.2.2.2.2.2.2.2.1.ci k_x; have j2 := KN11.ints.2.2.2.2.2.2.2.2.2.1.ci k_y; have j3 := KN11.ints.1.ci k_cx; have j4 := KN11.ints.2.1.ci k_cy; (with_reducible refine (raddF_at j1 j2 j3 j4 zx910 zy910 zcx910 zcy910).mono ?_); rw [HF.out.1, HF.out.2]; rintro e w9 ⟨D1, l1, e1, D2, l2, e2, rfl, y1, y2, g9⟩; have KE := ((KN11.call g9).add y2).add y1; clear j1 j2 j3 j4 t00 t01 t02 t03 t10 t11 t12 t13 t20 t21 t22 t23 t30 t31 t32 t33 t40 t41 t42 t43 t50 t51 t52 t53 t60 t61 t62 t63 t70 t71 t72 t73; obtain ⟨⟨t00, t01, t02, t03⟩, ⟨t10, t11, t12, t13⟩, ⟨t20, t21, t22, t23⟩, ⟨t30, t31, t32, t33⟩, ⟨t40, t41, t42, t43⟩, ⟨t50, t51, t52, t53⟩, ⟨t60, t61, t62, t63⟩, ⟨t70, t71, t72, t73⟩, _⟩ := KE.facts; obtain ⟨f0, f1, f2, f3⟩ := KE.free (i := 5) rfl)
    | fail)
  have KR := KE.put4 5 rfl (decide (rp < 0)) D1 l1 e1 (decide (rq < 0)) D2 l2 e2
  simp only [List.set] at KR
  obtain ⟨_, _, _, _, _, ⟨r0, r1, r2, r3⟩, _⟩ := KR.facts
  exact bodyPost_ret (v := .agg #[.bool (decide (rp < 0)), .slice D1 l1 e1, .bool (decide (rq < 0)), .slice D2 l2 e2]) (by simp [results, Try.results32, go_sem, r0, r1, r2, r3]) rfl (RetFr.of_st (k := []) (KR.ints_ ⟨KR.ints.1, KR.ints.2.1, trivial⟩))
end Go.Proofs.Ytgjkgmlcfieodaa

