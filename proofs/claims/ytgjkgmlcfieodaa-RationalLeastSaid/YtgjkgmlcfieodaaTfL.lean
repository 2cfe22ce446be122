/-
  The walk of the law RationalLeast.
-/
import Derived.Test.YtgjkgmlcfieodaaLightA
import Derived.Test.YtgjkgmlcfieodaaParA
import Derived.Test.YtgjkgmlcfieodaaRfrac3
import Derived.Test.YtgjkgmlcfieodaaTfK
import Derived.Deep.RegionHeld3
import Derived.Deep.QuietTactic
import Derived.BigQuiet
set_option linter.unusedVariables false
set_option linter.unusedSimpArgs false
set_option warningAsError false
namespace Go.Proofs.Ytgjkgmlcfieodaa
open Go.RowKit

theorem smo_size {x1 y1 x2 y2 X Y : Int} (h : SmO x1 y1 x2 y2 X Y) (c1 : Cp x1 y1) (c2 : Cp x2 y2) (hE : ¬ x2 * y1 < x1 * y2) (z1 : Sz x1 60) (z2 : Sz x2 60) (zy : Sz y1 60) : Sz X 130 ∧ Sz Y 60 := by
  have hY : Y ≤ y1 := h.min x1 y1 c1.pos (Int.le_refl _) (by omega)
  have h0 := h.pos
  have zY : Sz Y 60 := zy.le (by omega)
  refine ⟨?_, zY⟩
  by_cases hX : 0 ≤ X
  · have l1 : X * 1 ≤ X * y2 := Int.mul_le_mul_of_nonneg_left (by have := c2.pos; omega) hX
    have := h.hi
    exact ((z2.mul zY).mono (show 60 + 60 ≤ 130 by decide)).le (by omega)
  · have l1 : X * y1 ≤ X * 1 := Int.mul_le_mul_of_nonpos_left (by omega) (by have := c1.pos; omega)
    have := h.lo
    exact ((z1.mul zY).mono (show 60 + 60 ≤ 130 by decide)).le (by omega)
theorem cmp_lo {a b X Y : Int} (hY : 0 < Y) (hg : Int.gcd X Y = 1) (h : rn a b * Y ≤ X * rd a b) : ¬ cmpI (un X Y * ud a b) (un a b * ud X Y) < 0 := by
  rw [cmp_same, (r_self hY hg).1, (r_self hY hg).2]
  unfold cmpI; split <;> (try split) <;> omega
theorem cmp_hi {c d X Y : Int} (hY : 0 < Y) (hg : Int.gcd X Y = 1) (h : X * rd c d ≤ rn c d * Y) : ¬ 0 < cmpI (un X Y * ud c d) (un c d * ud X Y) := by
  rw [cmp_same, (r_self hY hg).1, (r_self hY hg).2]
  unfold cmpI; split <;> (try split) <;> omega

set_option maxHeartbeats 16000000 in
set_option maxRecDepth 100000 in
theorem leastF_law (x1 x2 x3 x4 : Bool) (A1 A2 A3 A4 : Option Addr) (n1 c1 n2 c2 n3 c3 n4 c4 : Nat) (d1 d2 d3 d4 : List Nat) (w : World) (h1 : InP w A1 n1 c1 d1) (h2 : InP w A2 n2 c2 d2) (h3 : InP w A3 n3 c3 d3) (h4 : InP w A4 n4 c4 d4) :
    Calls Try.prog 4 #[.agg #[.bool x1, .slice A1 n1 c1, .bool x2, .slice A2 n2 c2], .agg #[.bool x3, .slice A3 n3 c3, .bool x4, .slice A4 n4 c4]] w (RetT1 w) := by
  have hb3 : Below w.heap.size w ((((w.alloc (.cells #[.bool x1, .slice A1 n1 c1, .bool x2, .slice A2 n2 c2] 26)).alloc (.cells #[.bool x3, .slice A3 n3 c3, .bool x4, .slice A4 n4 c4] 26))).alloc (.cells #[.bool x1, .slice A1 n1 c1, .bool x2, .slice A2 n2 c2, .bool x3, .slice A3 n3 c3, .bool x4, .slice A4 n4 c4] 26)) := (bnew2 _ _ _).alloc (by simp; omega) _
  have hlight := fun b hb => lightF2 (w := (((w.alloc (.cells #[.bool x1, .slice A1 n1 c1, .bool x2, .slice A2 n2 c2] 26)).alloc (.cells #[.bool x3, .slice A3 n3 c3, .bool x4, .slice A4 n4 c4] 26)))) (s0 := x1) (t0 := x2) (s1 := x3) (t1 := x4) (A0 := A1) (B0 := A2) (A1 := A3) (B1 := A4) (n0 := n1) (c0 := c1) (m0 := n2) (d0 := c2) (n1 := n3) (c1 := c3) (m1 := n4) (d1 := c4) (g := w.heap.size + 1 + 1) (by simp) h1.2.2.2 h2.2.2.2 h3.2.2.2 h4.2.2.2 b hb
  by_cases hl : (n1 ≤ 12 ∧ n2 ≤ 12) ∧ (n3 ≤ 12 ∧ n4 ≤ 12)
  · have hlight := hlight true (by simpa using hl)
    obtain ⟨⟨l1, l2⟩, l3, l4⟩ := hl
    have H0 := (((((((St.start w).addI (h1.i x1 l1)).addI (h2.i x2 l2)).addI (h3.i x3 l3)).addI (h4.i x4 l4)).new 26 (Plains.four x1 A1 n1 c1 x2 A2 n2 c2)).new 26 (Plains.four x3 A3 n3 c3 x4 A4 n4 c4)).alloc (.cells #[.bool x1, .slice A1 n1 c1, .bool x2, .slice A2 n2 c2, .bool x3, .slice A3 n3 c3, .bool x4, .slice A4 n4 c4] 26)
    simp only [World.size_alloc] at H0
    have y1 := h1.z x1 l1
    have y2 := h2.z x2 l2
    have y3 := h3.z x3 l3
    have y4 := h4.z x4 l4
    have m1 : n1 ≤ 100000 := by omega
    have m2 : n2 ≤ 100000 := by omega
    have m3 : n3 ≤ 100000 := by omega
    have m4 : n4 ≤ 100000 := by omega
    clear h1 h2 h3 h4 hb3 l1 l2 l3 l4
    generalize zOf x1 (val d1) = a at *
    generalize zOf x2 (val d2) = b at *
    generalize zOf x3 (val d3) = c at *
    generalize zOf x4 (val d4) = d at *
    have za50 : Sz a 50 := y1.mono (by decide)
    have zb50 : Sz b 50 := y2.mono (by decide)
    have zc50 : Sz c 50 := y3.mono (by decide)
    have zd50 : Sz d 50 := y4.mono (by decide)
    clear y1 y2 y3 y4
    have cp1 := cp_r a b
    have cp2 := cp_r c d
    have za2 : Sz a 2000 := za50.mono (by decide)
    have za9 : Sz a 900 := za50.mono (by decide)
    have zb2 : Sz b 2000 := zb50.mono (by decide)
    have zb9 : Sz b 900 := zb50.mono (by decide)
    have zc2 : Sz c 2000 := zc50.mono (by decide)
    have zc9 : Sz c 900 := zc50.mono (by decide)
    have zd2 : Sz d 2000 := zd50.mono (by decide)
    have zd9 : Sz d 900 := zd50.mono (by decide)
    obtain ⟨cv, HCV⟩ : ∃ v, Hid (cmpI (un a b * ud c d) (un c d * ud a b) = v) := ⟨_, rfl⟩
    have hcv : cv = cmpI (rn a b * rd c d) (rn c d * rd a b) := by rw [← HCV.out]; exact cmp_same a b c d
    have HH := Lib.hid H0
    clear H0
    by_cases hE : rn c d * rd a b < rn a b * rd c d
    · have hc0 : 0 < cv := by rw [hcv, cmpI_gt hE]; decide
      clear hcv
      go_enter Try.func4, Try.ntmps4
      go_wp2_with (first
        | (go_at_call 5; (with_reducible refine hlight.mono ?_); rintro e w0 ⟨rfl, g0⟩; have K0 := HH.out.call g0; clear HH; have i1 := K0.ints.2.2.2.1.i; have i2 := K0.ints.2.2.1.i; have i3 := K0.ints.2.1.i; have i4 := K0.ints.1.i; obtain ⟨⟨p4, p5, p6, p7⟩, ⟨p0, p1, p2, p3⟩, _⟩ := K0.facts)
        | (go_at_call 10; (with_reducible refine (fcompare_at i1 i2 i3 i4 za2 zb2 zc2 zd2).mono ?_); rw [HCV.out]; rintro e wc ⟨rfl, gc⟩; have K0c := K0.call gc; clear p0 p1 p2 p3 p4 p5 p6 p7 i1 i2 i3 i4; have i1 := K0c.ints.2.2.2.1.i; have i2 := K0c.ints.2.2.1.i; have i3 := K0c.ints.2.1.i; have i4 := K0c.ints.1.i; obtain ⟨⟨p4, p5, p6, p7⟩, ⟨p0, p1, p2, p3⟩, _⟩ := K0c.facts)
        | (go_at_call 6; (with_reducible refine (awake2_any _).mono ?_); rintro e w9 ⟨rfl, g9⟩; have KZ9 := K0c.call g9)
        | fail)
      go_ret
      exact ⟨rfl, KZ9.below⟩
    have hc0 : ¬ 0 < cv := by rw [hcv]; unfold cmpI; split <;> (try split) <;> omega
    have ho := smQ_ok cp1 cp2 hE
    have he : smE (rn a b) (rd a b) (rn c d) (rd c d) = 0 := by unfold smE; rw [if_neg hE]
    obtain ⟨X, HX⟩ : ∃ v, Hid ((smQ (rn a b) (rd a b) (rn c d) (rd c d)).1 = v) := ⟨_, rfl⟩
    obtain ⟨Y, HY⟩ : ∃ v, Hid ((smQ (rn a b) (rd a b) (rn c d) (rd c d)).2 = v) := ⟨_, rfl⟩
    have HE := Lib.hid he
    rw [HX.out, HY.out] at ho
    obtain ⟨zX, zY⟩ := smo_size ho cp1 cp2 hE ((sz_rn za50).mono (by decide)) ((sz_rn zc50).mono (by decide)) ((sz_rd zb50 (by decide)).mono (by decide))
    have zX2 : Sz X 2000 := zX.mono (by decide)
    have zY2 : Sz Y 2000 := zY.mono (by decide)
    have kX := zX.ok
    have kY := zY.ok
    obtain ⟨v1, HV1⟩ : ∃ v, Hid (cmpI (un X Y * ud a b) (un a b * ud X Y) = v) := ⟨_, rfl⟩
    obtain ⟨v2, HV2⟩ : ∃ v, Hid (cmpI (un X Y * ud c d) (un c d * ud X Y) = v) := ⟨_, rfl⟩
    have hv1 : ¬ v1 < 0 := by rw [← HV1.out]; exact cmp_lo ho.pos ho.one ho.lo
    have hv2 : ¬ 0 < v2 := by rw [← HV2.out]; exact cmp_hi ho.pos ho.one ho.hi
    have HO := Lib.hid ho
    clear ho he hcv cp1 cp2 hE
    go_enter Try.func4, Try.ntmps4
    go_upto_region 4 with (first
      | (go_at_call 5; (with_reducible refine hlight.mono ?_); rintro e w0 ⟨rfl, g0⟩; have K0 := HH.out.call g0; clear HH; have i1 := K0.ints.2.2.2.1.i; have i2 := K0.ints.2.2.1.i; have i3 := K0.ints.2.1.i; have i4 := K0.ints.1.i; obtain ⟨⟨p4, p5, p6, p7⟩, ⟨p0, p1, p2, p3⟩, _⟩ := K0.facts)
      | (go_at_call 10; (with_reducible refine (fcompare_at i1 i2 i3 i4 za2 zb2 zc2 zd2).mono ?_); rw [HCV.out]; rintro e wc ⟨rfl, gc⟩; have K0c := K0.call gc; clear p0 p1 p2 p3 p4 p5 p6 p7 i1 i2 i3 i4; have i1 := K0c.ints.2.2.2.1.i; have i2 := K0c.ints.2.2.1.i; have i3 := K0c.ints.2.1.i; have i4 := K0c.ints.1.i; obtain ⟨⟨p4, p5, p6, p7⟩, ⟨p0, p1, p2, p3⟩, _⟩ := K0c.facts)
      | (go_at_call 7; (with_reducible refine (simplest_at i1 i2 i3 i4 za50 zb50 zc50 zd50).mono ?_); rw [HX.out, HY.out, HE.out]; rintro e w1 ⟨D1, o1, r1, D2, o2, r2, rfl, e1, e2, g1⟩; have K1 := (((K0c.call g1).add e2).add e1).new 26 (Plains.four (decide (X < 0)) D1 o1 r1 (decide (Y < 0)) D2 o2 r2))
      | fail)
    clear K0 K0c hlight i1 i2 i3 i4 e1 e2 g1 gc p0 p1 p2 p3 p4 p5 p6 p7
    generalize w1.alloc (.cells #[.bool (decide (X < 0)), .slice D1 o1 r1, .bool (decide (Y < 0)), .slice D2 o2 r2] 26) = W1 at K1 ⊢
    generalize w1.heap.size = h5 at K1 ⊢
    obtain ⟨⟨s0_, s1_, s2_, s3_⟩, ⟨p4, p5, p6, p7⟩, ⟨p0, p1, p2, p3⟩, _⟩ := K1.facts
    have iX := K1.ints.1.ci kX
    have iY := K1.ints.2.1.ci kY
    have ia := K1.ints.2.2.2.2.2.1.i
    have ib := K1.ints.2.2.2.2.1.i
    have ic := K1.ints.2.2.2.1.i
    have id_ := K1.ints.2.2.1.i
    go_upto_region 6 with (first
      | (go_at_call_of 10 (Value.agg #[Value.bool x3, Value.slice A3 n3 c3, Value.bool x4, Value.slice A4 n4 c4]); fail)
      | (go_at_call 10; (first
          | ((with_reducible refine (fcompare_at iX iY ia ib zX2 zY2 za2 zb2).mono ?_); rw [HV1.out]; rintro e w2 ⟨rfl, g2⟩; have K2 := K1.call g2; clear s0_ s1_ s2_ s3_ p0 p1 p2 p3 p4 p5 p6 p7 iX iY ia ib ic id_; obtain ⟨⟨s0_, s1_, s2_, s3_⟩, ⟨p4, p5, p6, p7⟩, ⟨p0, p1, p2, p3⟩, _⟩ := K2.facts; have jX := K2.ints.1.ci kX; have jY := K2.ints.2.1.ci kY; have jc := K2.ints.2.2.2.1.i; have jd := K2.ints.2.2.1.i)
          | ((with_reducible refine (fcompare_at jX jY jc jd zX2 zY2 zc2 zd2).mono ?_); rw [HV2.out]; rintro e w3 ⟨rfl, g3⟩; have K3 := K2.call g3; clear s0_ s1_ s2_ s3_ p0 p1 p2 p3 p4 p5 p6 p7 jX jY jc jd; obtain ⟨⟨s0_, s1_, s2_, s3_⟩, ⟨p4, p5, p6, p7⟩, ⟨p0, p1, p2, p3⟩, _⟩ := K3.facts)))
      | fail)
    go_wp2_with fail
    go_loopg [7] 60 (fun r v wr => ∃ k : Nat, k + r = 61 ∧ 1 ≤ k ∧ v = .int .i64 (k : Int) ∧ St w wr [vf h5 (decide (X < 0)) D1 o1 r1 (decide (Y < 0)) D2 o2 r2, vf (w.heap.size + 1) x3 A3 n3 c3 x4 A4 n4 c4, vf w.heap.size x1 A1 n1 c1 x2 A2 n2 c2] [(decide (X < 0), D1, o1, r1, X, true), (decide (Y < 0), D2, o2, r2, Y, true), (x4, A4, n4, c4, d, false), (x3, A3, n3, c3, c, false), (x2, A2, n2, c2, b, false), (x1, A1, n1, c1, a, false)])
    case atStart => exact ⟨1, rfl, Nat.le_refl _, rfl, K3⟩
    case round =>
      clear K1 K2 K3 s0_ s1_ s2_ s3_ p0 p1 p2 p3 p4 p5 p6 p7
      obtain ⟨k, hk, hk1, rfl, K⟩ := hrel
      have hk61 : k ≤ 61 := by omega
      have zk : Sz (k : Int) 2 := sz_i64 (by omega) (by omega)
      have zk2 : Sz (k : Int) 2000 := zk.mono (by decide)
      have kk := zk.ok
      have k_k := zk.ok
      by_cases h60 : (k : Int) ≤ 60
      · obtain ⟨ov, HOK⟩ : ∃ v, Hid (cmpI (k : Int) Y = v) := ⟨_, rfl⟩
        by_cases hY : (k : Int) < Y
        · have hov : ov < 0 := by rw [← HOK.out, cmpI_lt hY]; decide
          go_upto_region 7 with fail
          have Kd := K.drew
          obtain ⟨⟨s0_, s1_, s2_, s3_⟩, ⟨p4, p5, p6, p7⟩, ⟨p0, p1, p2, p3⟩, _⟩ := Kd.facts
          go_region_held3 (fun w' => w'.cell? ⟨h5, 0, none⟩ = some (.bool (decide (X < 0))) ∧ w'.cell? ⟨h5, 1, none⟩ = some (.slice D1 o1 r1) ∧ w'.cell? ⟨h5, 2, none⟩ = some (.bool (decide (Y < 0))) ∧ w'.cell? ⟨h5, 3, none⟩ = some (.slice D2 o2 r2))
            (go_keep)
            (first
              | (go_at_call 12; (with_reducible refine (fromInt64_at (k : Int) (by omega) (by omega) _).mono ?_); rintro e wa ⟨B1, m1, k1, rfl, d1, u1, v1, ga⟩; have Ka := (Kd.call ga).add (CanAt.mk_ d1 u1 v1); clear s0_ s1_ s2_ s3_ p0 p1 p2 p3 p4 p5 p6 p7; obtain ⟨⟨s0_, s1_, s2_, s3_⟩, ⟨p4, p5, p6, p7⟩, ⟨p0, p1, p2, p3⟩, _⟩ := Ka.facts; have j1 := Ka.ints.1.ci kk; have j2 := Ka.ints.2.2.1.ci kY)
              | (go_at_call 11; (with_reducible refine (compare_at j1 j2).mono ?_); rw [HOK.out]; rintro e wb ⟨rfl, gb⟩; have Kb := Ka.call gb; clear s0_ s1_ s2_ s3_ p0 p1 p2 p3 p4 p5 p6 p7; obtain ⟨⟨s0_, s1_, s2_, s3_⟩, ⟨p4, p5, p6, p7⟩, ⟨p0, p1, p2, p3⟩, _⟩ := Kb.facts)
              | fail)
          go_upto_region 9 with fail
          have KC := Kb.ints_ (k' := [(decide (X < 0), D1, o1, r1, X, true), (decide (Y < 0), D2, o2, r2, Y, true), (x4, A4, n4, c4, d, false), (x3, A3, n3, c3, c, false), (x2, A2, n2, c2, b, false), (x1, A1, n1, c1, a, false)]) ⟨Kb.ints.2.1, Kb.ints.2.2.1, Kb.ints.2.2.2.1, Kb.ints.2.2.2.2.1, Kb.ints.2.2.2.2.2.1, Kb.ints.2.2.2.2.2.2.1, trivial⟩
          clear K Kd Ka Kb d1 u1 v1 j1 j2 ga gb s0_ s1_ s2_ s3_ p0 p1 p2 p3 p4 p5 p6 p7
          obtain ⟨kx, HK1⟩ : ∃ v, Hid (rn (k : Int) 1 = v) := ⟨_, rfl⟩
          obtain ⟨ky, HK2⟩ : ∃ v, Hid (rd (k : Int) 1 = v) := ⟨_, rfl⟩
          have HKV : Hid (rn (k : Int) 1 = kx ∧ rd (k : Int) 1 = ky) := ⟨HK1.out, HK2.out⟩
          have ekx : kx = (k : Int) := by rw [← HK1.out]; exact (whole_self _).1
          have eky : ky = 1 := by rw [← HK2.out]; exact (whole_self _).2
          have zkx4 : Sz kx 4 := by rw [ekx]; exact zk.mono (by decide)
          have zky4 : Sz ky 4 := by rw [eky]; exact sz_small (by decide) (by decide) 4 (by decide)
          have zkx : Sz kx 900 := zkx4.mono (by decide)
          have zky : Sz ky 900 := zky4.mono (by decide)
          have k_kx := zkx.ok
          have k_ky := zky.ok
          have kkx := zkx.ok
          have kky := zky.ok
          obtain ⟨p1_, HP1⟩ : ∃ v, Hid (rn (a * kx) (b * ky) = v) := ⟨_, rfl⟩
          obtain ⟨q1_, HQ1⟩ : ∃ v, Hid (rd (a * kx) (b * ky) = v) := ⟨_, rfl⟩
          obtain ⟨p2_, HP2⟩ : ∃ v, Hid (rn (c * kx) (d * ky) = v) := ⟨_, rfl⟩
          obtain ⟨q2_, HQ2⟩ : ∃ v, Hid (rd (c * kx) (d * ky) = v) := ⟨_, rfl⟩
          obtain ⟨m1_, HCE⟩ : ∃ v, Hid (-dmQ (-p1_) q1_ = v) := ⟨_, rfl⟩
          obtain ⟨m2_, HFL⟩ : ∃ v, Hid (dmQ p2_ q2_ = v) := ⟨_, rfl⟩
          obtain ⟨ow, HOV⟩ : ∃ v, Hid (cmpI m1_ m2_ = v) := ⟨_, rfl⟩
          have HM1 : Hid (rn (a * kx) (b * ky) = p1_ ∧ rd (a * kx) (b * ky) = q1_) := ⟨HP1.out, HQ1.out⟩
          have HM2 : Hid (rn (c * kx) (d * ky) = p2_ ∧ rd (c * kx) (d * ky) = q2_) := ⟨HP2.out, HQ2.out⟩
          have how : ¬ ow ≤ 0 := by
            have := least_round HO.out (show (0 : Int) < (k : Int) by omega) hY
            rw [← HOV.out, ← HCE.out, ← HFL.out, ← HP1.out, ← HQ1.out, ← HP2.out, ← HQ2.out, ekx, eky, this]; decide
          have zp1 : Sz p1_ 900 := by rw [← HP1.out]; exact (sz_rn (za50.mul zkx4)).mono (by decide)
          have zq1 : Sz q1_ 900 := by rw [← HQ1.out]; exact (sz_rd (zb50.mul zky4) (by decide)).mono (by decide)
          have zp2 : Sz p2_ 900 := by rw [← HP2.out]; exact (sz_rn (zc50.mul zkx4)).mono (by decide)
          have zq2 : Sz q2_ 900 := by rw [← HQ2.out]; exact (sz_rd (zd50.mul zky4) (by decide)).mono (by decide)
          have q1p : 0 < q1_ := by rw [← HQ1.out]; exact rd_pos _ _
          have q2p : 0 < q2_ := by rw [← HQ2.out]; exact rd_pos _ _
          have zm1 : Sz m1_ 900 := by rw [← HCE.out, dmQ_pos q1p]; exact (zp1.neg.le (Int.natAbs_ediv_le_natAbs _ _)).neg
          have zm2 : Sz m2_ 900 := by rw [← HFL.out, dmQ_pos q2p]; exact zp2.le (Int.natAbs_ediv_le_natAbs _ _)
          have kp1 := zp1.ok
          have kq1 := zq1.ok
          have kp2 := zp2.ok
          have kq2 := zq2.ok
          have km1 := zm1.ok
          have km2 := zm2.ok
          clear ekx eky q1p q2p
          go_upto_region 10 with (first
            | (go_at_call 12; (with_reducible refine (fromInt64_at (k : Int) (by omega) (by omega) _).mono ?_); rintro ee wz ⟨ZA, zn, zc, rfl, zd, zu, zv, zg⟩; have K8a := (KC.call zg).add (CanAt.mk_ zd zu zv); have ik := K8a.ints.1.ci kk)
            | (go_at_call 13; (with_reducible refine (fromInt_at ik zk2).mono ?_); rw [HKV.out.1, HKV.out.2]; rintro ee w8 ⟨X_8, l_8, q_8, Y_8, m_8, r_8, rfl, d8, e8, g8⟩; have K8b := (((K8a.call g8).add e8).add d8).new 26 (Plains.four (decide (kx < 0)) X_8 l_8 q_8 (decide (ky < 0)) Y_8 m_8 r_8))
            | fail)
          (try simp only [World.size_alloc] at K8b)
          have KN8 := K8b.ints_ (k' := [(decide (kx < 0), X_8, l_8, q_8, kx, true), (decide (ky < 0), Y_8, m_8, r_8, ky, true), (decide (X < 0), D1, o1, r1, X, true), (decide (Y < 0), D2, o2, r2, Y, true), (x4, A4, n4, c4, d, false), (x3, A3, n3, c3, c, false), (x2, A2, n2, c2, b, false), (x1, A1, n1, c1, a, false)]) ⟨K8b.ints.1, K8b.ints.2.1, K8b.ints.2.2.2.1, K8b.ints.2.2.2.2.1, K8b.ints.2.2.2.2.2.1, K8b.ints.2.2.2.2.2.2.1, K8b.ints.2.2.2.2.2.2.2.1, K8b.ints.2.2.2.2.2.2.2.2.1, trivial⟩
          clear K8a K8b KC zd zu zv zg d8 e8 g8 ik
          generalize w8.alloc (.cells #[.bool (decide (kx < 0)), .slice X_8 l_8 q_8, .bool (decide (ky < 0)), .slice Y_8 m_8 r_8] 26) = W8 at KN8 ⊢
          generalize w8.heap.size = h_8 at KN8 ⊢
          have Kd := KN8.drew
          obtain ⟨⟨y0, y1, y2, y3⟩, _, ⟨p4, p5, p6, p7⟩, ⟨p0, p1, p2, p3⟩, _⟩ := Kd.facts
          go_region_held3 (fun w' => w'.cell? ⟨h_8, 0, none⟩ = some (.bool (decide (kx < 0))) ∧ w'.cell? ⟨h_8, 1, none⟩ = some (.slice X_8 l_8 q_8) ∧ w'.cell? ⟨h_8, 2, none⟩ = some (.bool (decide (ky < 0))) ∧ w'.cell? ⟨h_8, 3, none⟩ = some (.slice Y_8 m_8 r_8) ∧ w'.cell? ⟨w.heap.size + 1, 0, none⟩ = some (.bool (x3)) ∧ w'.cell? ⟨w.heap.size + 1, 1, none⟩ = some (.slice A3 n3 c3) ∧ w'.cell? ⟨w.heap.size + 1, 2, none⟩ = some (.bool (x4)) ∧ w'.cell? ⟨w.heap.size + 1, 3, none⟩ = some (.slice A4 n4 c4) ∧ w'.cell? ⟨w.heap.size, 0, none⟩ = some (.bool (x1)) ∧ w'.cell? ⟨w.heap.size, 1, none⟩ = some (.slice A1 n1 c1) ∧ w'.cell? ⟨w.heap.size, 2, none⟩ = some (.bool (x2)) ∧ w'.cell? ⟨w.heap.size, 3, none⟩ = some (.slice A2 n2 c2))
            (go_keep)
            (first
              | (go_at_call_of 15 (Value.agg #[Value.bool x1, Value.slice A1 n1 c1, Value.bool x2, Value.slice A2 n2 c2]); have j1 := Kd.ints.2.2.2.2.2.2.2.1.i; have j2 := Kd.ints.2.2.2.2.2.2.1.i; have j3 := Kd.ints.1.ci kkx; have j4 := Kd.ints.2.1.ci kky; (with_reducible refine (fmul_at j1 j2 j3 j4 za9 zb9 zkx zky).mono ?_); rw [HM1.out.1, HM1.out.2]; rintro e wa ⟨E1, l1, q1, E2, l2, q2, rfl, d1, d2, ga⟩; have Ka := ((Kd.call ga).add d2).add d1; clear y0 y1 y2 y3 p0 p1 p2 p3 p4 p5 p6 p7 j1 j2 j3 j4; obtain ⟨⟨y0, y1, y2, y3⟩, _, ⟨p4, p5, p6, p7⟩, ⟨p0, p1, p2, p3⟩, _⟩ := Ka.facts; have t1 := Ka.ints.1.ci kp1; have t2 := Ka.ints.2.1.ci kq1)
              | (go_at_call 14; (with_reducible refine (ceil_at t1 t2 zp1 zq1).mono ?_); rw [HCE.out]; rintro e wb ⟨E3, l3, q3, rfl, d3, u3, v3, gb⟩; have Kb := (Ka.call gb).add (CanAt.mk_ d3 u3 v3); clear y0 y1 y2 y3 p0 p1 p2 p3 p4 p5 p6 p7 t1 t2; obtain ⟨⟨y0, y1, y2, y3⟩, _, ⟨p4, p5, p6, p7⟩, ⟨p0, p1, p2, p3⟩, _⟩ := Kb.facts)
              | (go_at_call_of 15 (Value.agg #[Value.bool x3, Value.slice A3 n3 c3, Value.bool x4, Value.slice A4 n4 c4]); have j1 := Kb.ints.2.2.2.2.2.2.2.2.1.i; have j2 := Kb.ints.2.2.2.2.2.2.2.1.i; have j3 := Kb.ints.2.2.2.1.ci kkx; have j4 := Kb.ints.2.2.2.2.1.ci kky; (with_reducible refine (fmul_at j1 j2 j3 j4 zc9 zd9 zkx zky).mono ?_); rw [HM2.out.1, HM2.out.2]; rintro e wc ⟨E4, l4, q4, E5, l5, q5, rfl, d4, d5, gc⟩; have Kc := ((Kb.call gc).add d5).add d4; clear y0 y1 y2 y3 p0 p1 p2 p3 p4 p5 p6 p7 j1 j2 j3 j4; obtain ⟨⟨y0, y1, y2, y3⟩, _, ⟨p4, p5, p6, p7⟩, ⟨p0, p1, p2, p3⟩, _⟩ := Kc.facts; have t1 := Kc.ints.1.ci kp2; have t2 := Kc.ints.2.1.ci kq2)
              | (go_at_call 16; (with_reducible refine (floor_at t1 t2).mono ?_); rw [HFL.out]; rintro e we ⟨E6, l6, q6, rfl, d6, u6, v6, ge⟩; have Ke := (Kc.call ge).add (CanAt.mk_ d6 u6 v6); clear y0 y1 y2 y3 p0 p1 p2 p3 p4 p5 p6 p7 t1 t2; obtain ⟨⟨y0, y1, y2, y3⟩, _, ⟨p4, p5, p6, p7⟩, ⟨p0, p1, p2, p3⟩, _⟩ := Ke.facts; have t3 := Ke.ints.2.2.2.1.ci km1; have t4 := Ke.ints.1.ci km2)
              | (go_at_call 11; (with_reducible refine (compare_at t3 t4).mono ?_); rw [HOV.out]; rintro e wf ⟨rfl, gf⟩; have Kf := Ke.call gf; clear y0 y1 y2 y3 p0 p1 p2 p3 p4 p5 p6 p7; obtain ⟨⟨y0, y1, y2, y3⟩, _, ⟨p4, p5, p6, p7⟩, ⟨p0, p1, p2, p3⟩, _⟩ := Kf.facts)
              | fail)
          have KG := (Kf.erase 0).ints_ (k' := [(decide (X < 0), D1, o1, r1, X, true), (decide (Y < 0), D2, o2, r2, Y, true), (x4, A4, n4, c4, d, false), (x3, A3, n3, c3, c, false), (x2, A2, n2, c2, b, false), (x1, A1, n1, c1, a, false)]) ⟨Kf.ints.2.2.2.2.2.2.2.2.1, Kf.ints.2.2.2.2.2.2.2.2.2.1, Kf.ints.2.2.2.2.2.2.2.2.2.2.1, Kf.ints.2.2.2.2.2.2.2.2.2.2.2.1, Kf.ints.2.2.2.2.2.2.2.2.2.2.2.2.1, Kf.ints.2.2.2.2.2.2.2.2.2.2.2.2.2.1, trivial⟩
          go_wp2_with fail
          go_roundg (gk - 1)
          case rel => exact ⟨k + 1, by omega, by omega, by go_num, KG⟩
          case measure => omega
        · have hov : ¬ ov < 0 := by rw [← HOK.out]; unfold cmpI; rw [if_neg hY]; split <;> decide
          go_upto_region 7 with fail
          have Kd := K.drew
          obtain ⟨⟨s0_, s1_, s2_, s3_⟩, ⟨p4, p5, p6, p7⟩, ⟨p0, p1, p2, p3⟩, _⟩ := Kd.facts
          go_region_held3 (fun w' => w'.cell? ⟨h5, 0, none⟩ = some (.bool (decide (X < 0))) ∧ w'.cell? ⟨h5, 1, none⟩ = some (.slice D1 o1 r1) ∧ w'.cell? ⟨h5, 2, none⟩ = some (.bool (decide (Y < 0))) ∧ w'.cell? ⟨h5, 3, none⟩ = some (.slice D2 o2 r2))
            (go_keep)
            (first
              | (go_at_call 12; (with_reducible refine (fromInt64_at (k : Int) (by omega) (by omega) _).mono ?_); rintro e wa ⟨B1, m1, k1, rfl, d1, u1, v1, ga⟩; have Ka := (Kd.call ga).add (CanAt.mk_ d1 u1 v1); clear s0_ s1_ s2_ s3_ p0 p1 p2 p3 p4 p5 p6 p7; obtain ⟨⟨s0_, s1_, s2_, s3_⟩, ⟨p4, p5, p6, p7⟩, ⟨p0, p1, p2, p3⟩, _⟩ := Ka.facts; have j1 := Ka.ints.1.ci kk; have j2 := Ka.ints.2.2.1.ci kY)
              | (go_at_call 11; (with_reducible refine (compare_at j1 j2).mono ?_); rw [HOK.out]; rintro e wb ⟨rfl, gb⟩; have Kb := Ka.call gb; clear s0_ s1_ s2_ s3_ p0 p1 p2 p3 p4 p5 p6 p7; obtain ⟨⟨s0_, s1_, s2_, s3_⟩, ⟨p4, p5, p6, p7⟩, ⟨p0, p1, p2, p3⟩, _⟩ := Kb.facts)
              | fail)
          have KZ8 := Kb
          go_wp2_with (first
            | (go_at_call 6; (with_reducible refine (awake2_any _).mono ?_); rintro e w9 ⟨rfl, g9⟩; have KZ9 := KZ8.call g9)
            | fail)
          go_ret
          exact ⟨rfl, KZ9.below⟩
      · have hov : ¬ (k : Int) ≤ 60 := h60
        go_upto_region 7 with fail
        have Kd := K.drew
        obtain ⟨⟨s0_, s1_, s2_, s3_⟩, ⟨p4, p5, p6, p7⟩, ⟨p0, p1, p2, p3⟩, _⟩ := Kd.facts
        first
          | (go_region_held3 (fun w' => w'.cell? ⟨h5, 0, none⟩ = some (.bool (decide (X < 0))) ∧ w'.cell? ⟨h5, 1, none⟩ = some (.slice D1 o1 r1) ∧ w'.cell? ⟨h5, 2, none⟩ = some (.bool (decide (Y < 0))) ∧ w'.cell? ⟨h5, 3, none⟩ = some (.slice D2 o2 r2))
              (go_keep)
              (fail))
          | fail
        all_goals go_wp2_with (first
          | (go_at_call 6; (with_reducible refine (awake2_any _).mono ?_); rintro e w9 ⟨rfl, g9⟩; first | (have KZ9 := Kd.call g9) | (have KZ9 := K.call g9) | (have KZ9 := (K.drewN _).call g9))
          | fail)
        all_goals go_ret
        all_goals exact ⟨rfl, KZ9.below⟩
  · have hlight := hlight false (by simpa using hl)
    go_enter Try.func4, Try.ntmps4
    go_wp2_with (first
      | (go_at_call 5; (with_reducible refine hlight.mono ?_); rintro e w0 ⟨rfl, g0⟩)
      | (go_at_call 6; (with_reducible refine (awake2_any _).mono ?_); rintro e w1 ⟨rfl, hb1⟩))
    go_ret
    exact ⟨rfl, bcall (bcall hb3 g0) hb1⟩
end Go.Proofs.Ytgjkgmlcfieodaa

