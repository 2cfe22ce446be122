/-
  Sums of lists of fractions, by the program.
-/
import Derived.Test.YtplmfdgdbolcaaaSum1
set_option linter.unusedVariables false
set_option linter.unusedSimpArgs false
namespace Go.Proofs.Ytplmfdgdbolcaaa
open Go.RowKit

set_option maxHeartbeats 16000000 in
set_option maxRecDepth 100000 in
theorem sumF_at {w : World} {A : Option Addr} {c : Nat} {l : List FE} (hF : FL w A l) (hl : l.length ≤ 30) :
    Calls Try.prog 63 #[.slice A l.length c] w (RetFr w (sumF l).1 (sumF l).2) := by
  have H0 := (St.start w).new 42 (Plains.four false none 0 0 false none 0 0)
  have HH := Lib.hid H0
  clear H0
  have HF := Lib.hid hF
  clear hF
  obtain ⟨L, HL⟩ : ∃ v, Hid (l.length = v) := ⟨_, rfl⟩
  rw [HL.out] at hl
  rw [HL.out]
  have z0 : rn 0 0 = 0 ∧ rd 0 0 = 1 := r_zero 0
  go_enter Try.func63, Try.ntmps63
  go_wp2_with (first
    | (go_at_call 121; have K := HH.out; clear HH; (with_reducible refine (canonFrac_at (IntAt.nul _) (IntAt.nul _) (Sz.zero 2000) (Sz.zero 2000)).mono ?_); rw [z0.1, z0.2]; rintro e w1 ⟨B1, m1, k1, B2, m2, k2, rfl, d1, d2, g1⟩; have K1 := (((K.call g1).add (show CanAt w1 false B2 m2 k2 1 from d2)).add (show CanAt w1 false B1 m1 k1 0 from d1)).new 42 (Plains.four false B1 m1 k1 false B2 m2 k2))
    | fail)
  clear K d1 d2 g1 z0
  generalize w1.alloc (.cells #[.bool false, .slice B1 m1 k1, .bool false, .slice B2 m2 k2] 42) = W1 at K1 ⊢
  generalize w1.heap.size = h3 at K1 ⊢
  have HI : SuI w W1 h3 (sumF (l.take 0)).1 (sumF (l.take 0)).2 := ⟨B1, m1, k1, B2, m2, k2, K1⟩
  clear K1
  go_loopg [12] L (fun r i wr => ∃ k : Nat, k + r = L ∧ i = .int .i64 k ∧ SuI w wr h3 (sumF (l.take k)).1 (sumF (l.take k)).2)
  case atStart => exact ⟨0, by omega, rfl, HI⟩
  case round =>
    clear HI
    obtain ⟨k, hk, rfl, hI⟩ := hrel
    obtain ⟨x, HX⟩ : ∃ v, Hid ((sumF (l.take k)).1 = v) := ⟨_, rfl⟩
    obtain ⟨y, HY⟩ : ∃ v, Hid ((sumF (l.take k)).2 = v) := ⟨_, rfl⟩
    have hz := sz_take (fun e he => (HF.out.1 e he).2) k (by rw [HL.out]; exact hl)
    have hcan := sum_can (l.take k)
    unfold CanP at hcan
    rw [HX.out, HY.out] at hI hz hcan
    obtain ⟨C1, n1, t1, C2, n2, t2, K⟩ := hI
    by_cases hlt : k < L
    · obtain ⟨e, he⟩ : ∃ e, l[k]? = some e := ⟨l[k]'(by rw [HL.out]; exact hlt), List.getElem?_eq_getElem _⟩
      have hmem : e ∈ l := List.mem_of_getElem? he
      obtain ⟨g, o, hA, hg, hcell⟩ := HF.out.2 (by rw [HL.out]; omega)
      have hin := (hcell k e he).call hg K.below
      have hat := (HF.out.1 e hmem).1.call K.below
      have hsm := (HF.out.1 e hmem).2
      have hs := sum_take he
      have HE1 : Hid (aN x y e.a e.b = (sumF (l.take (k + 1))).1 ∧ aD x y e.a e.b = (sumF (l.take (k + 1))).2) := by
        unfold Hid; rw [hs, ← HX.out, ← HY.out]; exact ⟨rfl, rfl⟩
      obtain ⟨s, P, pn, pc, s', P', qn, qc, a, b⟩ := e
      obtain ⟨c0, c1, c2, c3⟩ := hin
      obtain ⟨i1, i2⟩ := hat
      obtain ⟨za, zb⟩ := hsm
      simp only at c0 c1 c2 c3 i1 i2 za zb HE1
      clear hs hcell he hmem
      have za2 : Sz a 2000 := za.mono (by decide)
      have zb2 : Sz b 2000 := zb.mono (by decide)
      have zx4 : Sz x 4000 := hz.1.mono (by decide)
      have zy4 : Sz y 4000 := hz.2.mono (by decide)
      have kx := zx4.ok
      have ky := zy4.ok
      subst hA
      obtain ⟨u, HU⟩ : ∃ v, Hid ((sumF (l.take (k + 1))).1 = v) := ⟨_, rfl⟩
      obtain ⟨v, HV⟩ : ∃ v, Hid ((sumF (l.take (k + 1))).2 = v) := ⟨_, rfl⟩
      rw [HU.out, HV.out] at HE1
      obtain ⟨f, HFa⟩ : ∃ v, Hid (rn a b = v) := ⟨_, rfl⟩
      obtain ⟨h, HFb⟩ : ∃ v, Hid (rd a b = v) := ⟨_, rfl⟩
      have zf : Sz f 4000 := by rw [← HFa.out]; exact (sz_rn za).mono (by decide)
      have zh : Sz h 4000 := by rw [← HFb.out]; exact (sz_rd zb (by decide)).mono (by decide)
      have hfh : Hid (0 < h ∧ Int.gcd f h = 1) := by unfold Hid; rw [← HFa.out, ← HFb.out]; exact ⟨rd_pos a b, rn_gcd a b⟩
      have HE2 : Hid (rn (x * h + f * y) (y * h) = u ∧ rd (x * h + f * y) (y * h) = v) := by
        have h1 := r_self hcan.1 hcan.2
        have h2 := HE1.out
        unfold aN aD at h2
        rw [h1.1, h1.2, HFa.out, HFb.out] at h2
        exact h2
      have HCAN := Lib.hid hcan
      have HK := Lib.hid hk
      have HLT := Lib.hid hlt
      have j0 : (0 : Int) ≤ (k : Int) := by omega
      have j1 : (k : Int) < (L : Int) := by omega
      have Ka := K.new 42 (Plains.four s P pn pc s' P' qn qc)
      have i3 := i1.call (bnew wr (.cells #[.bool s, .slice P pn pc, .bool s', .slice P' qn qc] 42))
      have i4 := i2.call (bnew wr (.cells #[.bool s, .slice P pn pc, .bool s', .slice P' qn qc] 42))
      obtain ⟨⟨p0, p1, p2, p3⟩, _⟩ := K.facts
      obtain ⟨_, ⟨p4, p5, p6, p7⟩, _⟩ := Ka.facts
      have jx := Ka.ints.1.ci kx
      have jy := Ka.ints.2.1.ci ky
      clear hk hz hcan
      go_upto_region 6 with (first
        | (go_at_call 124; (with_reducible refine (addWords_at jx jy i3 i4).mono ?_); rintro ee w2 ⟨x1, y1, ok, hok, D1, o1, r1, D2, o2, r2, rfl, e1, e2, g2⟩; have HOK := Lib.hid hok; clear hok; have K2 := (((Ka.call g2).add e2).add e1).new 42 (Plains.four (decide (x1 < 0)) D1 o1 r1 (decide (y1 < 0)) D2 o2 r2))
        | fail)
      have b1 := (i3.call g2).call (bnew w2 (.cells #[.bool (decide (x1 < 0)), .slice D1 o1 r1, .bool (decide (y1 < 0)), .slice D2 o2 r2] 42))
      have b2 := (i4.call g2).call (bnew w2 (.cells #[.bool (decide (x1 < 0)), .slice D1 o1 r1, .bool (decide (y1 < 0)), .slice D2 o2 r2] 42))
      clear K Ka i1 i2 i3 i4 p0 p1 p2 p3 p4 p5 p6 p7 jx jy e1 e2 g2 c0 c1 c2 c3
      generalize w2.alloc (.cells #[.bool (decide (x1 < 0)), .slice D1 o1 r1, .bool (decide (y1 < 0)), .slice D2 o2 r2] 42) = W2 at K2 b1 b2 ⊢
      generalize w2.heap.size = h6 at K2 ⊢
      generalize wr.heap.size = h5 at K2 ⊢
      cases ok with
      | true =>
        obtain ⟨q1, q2⟩ := HOK.out rfl
        rw [HE1.out.1] at q1
        rw [HE1.out.2] at q2
        subst q1 q2
        go_upto_region 7 with fail
        obtain ⟨⟨p0, p1, p2, p3⟩, _, ⟨p4, p5, p6, p7⟩, _⟩ := K2.facts
        obtain ⟨f0, f1, f2, f3⟩ := K2.free (i := 2) rfl
        obtain ⟨z1, z2⟩ := K2.ne 0 2 rfl rfl (by decide)
        have K3 := K2.put4 2 rfl (decide (x1 < 0)) D1 o1 r1 (decide (y1 < 0)) D2 o2 r2
        simp only [List.set] at K3
        have K4 := (K3.erase 0).erase 0
        simp only [List.eraseIdx] at K4
        go_wp2_with fail
        go_roundg (gk - 1)
        case rel => exact ⟨k + 1, by have := HK.out; have := HLT.out; omega, by go_num, by rw [HU.out, HV.out]; exact ⟨D1, o1, r1, D2, o2, r2, K4.ints_ ⟨K4.ints.1, K4.ints.2.1, trivial⟩⟩⟩
        case measure => have := HK.out; have := HLT.out; omega
      | false =>
        clear HOK
        go_upto_region 8 with fail
        have Kd := K2.drew
        have b3 := b1.call (Below.refl _ W2).drew
        have b4 := b2.call (Below.refl _ W2).drew
        clear K2 b1 b2
        obtain ⟨_, ⟨p0, p1, p2, p3⟩, ⟨p4, p5, p6, p7⟩, _⟩ := Kd.facts
        go_region_with (first
          | (go_at_call 121; (with_reducible refine (canonFrac_at b3 b4 za2 zb2).mono ?_); rw [HFa.out, HFb.out]; rintro ee w3 ⟨E1, l1, q1, E2, l2, q2, rfl, e1, e2, g3⟩; have K3 := ((Kd.call g3).add e2).add e1; clear p0 p1 p2 p3 p4 p5 p6 p7; obtain ⟨_, ⟨p0, p1, p2, p3⟩, ⟨p4, p5, p6, p7⟩, _⟩ := K3.facts; have jx := K3.ints.2.2.2.2.1.c; have jy := K3.ints.2.2.2.2.2.1.c)
          | (go_at_call 125; (with_reducible refine (addCanonical_at jx jy e1 e2 zx4 zy4 zf zh HCAN.out.1 hfh.out.1 HCAN.out.2 hfh.out.2).mono ?_); rw [HE2.out.1, HE2.out.2]; rintro ee w4 ⟨E3, l3, q3, E4, l4, q4, rfl, e3, e4, g4⟩; have K4 := ((K3.call g4).add e4).add e3; clear p0 p1 p2 p3 p4 p5 p6 p7; obtain ⟨_, ⟨p0, p1, p2, p3⟩, ⟨p4, p5, p6, p7⟩, _⟩ := K4.facts; obtain ⟨f0, f1, f2, f3⟩ := K4.free (i := 2) rfl)
          | fail)
        all_goals
          have K5 := K4.put4 2 rfl (decide (u < 0)) E3 l3 q3 (decide (v < 0)) E4 l4 q4
          simp only [List.set] at K5
          have K6 := (K5.erase 0).erase 0
          simp only [List.eraseIdx] at K6
          go_wp2_with fail
          go_roundg (gk - 1)
          case rel => exact ⟨k + 1, by have := HK.out; have := HLT.out; omega, by go_num, by rw [HU.out, HV.out]; exact ⟨E3, l3, q3, E4, l4, q4, K6.ints_ ⟨K6.ints.1, K6.ints.2.1, trivial⟩⟩⟩
          case measure => have := HK.out; have := HLT.out; omega
    · obtain rfl : k = L := by omega
      have hlen : l.take k = l := List.take_of_length_le (by rw [HL.out]; exact Nat.le_refl _)
      rw [hlen] at HX HY
      have j1 : ¬ (k : Int) < (k : Int) := by omega
      have hend : Hid ((sumF l).1 = x ∧ (sumF l).2 = y) := ⟨HX.out, HY.out⟩
      clear hlen hz hcan
      obtain ⟨⟨p0, p1, p2, p3⟩, ⟨q0, q1, q2, q3⟩, _⟩ := K.facts
      obtain ⟨f0, f1, f2, f3⟩ := K.free (i := 1) rfl
      obtain ⟨y1, y2⟩ := K.ne 0 1 rfl rfl (by decide)
      have K3 := K.put4 1 rfl (decide (x < 0)) C1 n1 t1 (decide (y < 0)) C2 n2 t2
      simp only [List.set] at K3
      obtain ⟨_, ⟨r0, r1, r2, r3⟩, _⟩ := K3.facts
      go_wp2_with fail
      refine bodyPost_ret (v := .agg #[.bool (decide (x < 0)), .slice C1 n1 t1, .bool (decide (y < 0)), .slice C2 n2 t2]) (by simp [results, Try.results63, go_sem, r0, r1, r2, r3]) rfl ?_
      rw [hend.out.1, hend.out.2]
      exact RetFr.of_st K3
end Go.Proofs.Ytplmfdgdbolcaaa
