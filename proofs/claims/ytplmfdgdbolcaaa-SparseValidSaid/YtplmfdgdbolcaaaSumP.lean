/-
  sumProducts of one product.
-/
import Derived.Test.YtplmfdgdbolcaaaVec1
set_option linter.unusedVariables false
set_option linter.unusedSimpArgs false
namespace Go.Proofs.Ytplmfdgdbolcaaa
open Go.RowKit

/-- The numbers of a product. -/
def mN (x y : FE) : Int := rn (x.a * y.a) (x.b * y.b)
def mD (x y : FE) : Int := rd (x.a * y.a) (x.b * y.b)

theorem make1 (W : World) : (Instr.makeSlice 57 (.int .i64 1) (.int .i64 1)).run Try.prog W = .ok (.slice (some ⟨W.heap.size, 0, none⟩) 1 1) (W.alloc (.cells #[.bool false, .slice none 0 0, .bool false, .slice none 0 0] 42)) := by kernel_rfl

set_option maxHeartbeats 8000000 in
set_option maxRecDepth 100000 in
theorem sumP1 {w : World} {G c g1 o1 g2 o2 : Nat} {x y : FE} (hG : G < w.heap.size) (hp0 : w.cell? ⟨G, 0, none⟩ = some (.pointer (some ⟨g1, o1, none⟩))) (hp1 : w.cell? ⟨G, 1, none⟩ = some (.pointer (some ⟨g2, o2, none⟩)))
    (hg1 : g1 < w.heap.size) (hg2 : g2 < w.heap.size) (hx : FE.In w g1 o1 x) (hy : FE.In w g2 o2 y) (hax : FE.At w x) (hay : FE.At w y) (sx : FE.Sl x) (sy : FE.Sl y) :
    Calls Try.prog 161 #[.slice (some ⟨G, 0, none⟩) 1 c] w (RetFr w (aN 0 1 (mN x y) (mD x y)) (aD 0 1 (mN x y) (mD x y))) := by
  have H0 := (((St.start w).new 42 (Plains.four false none 0 0 false none 0 0)).new 42 (Plains.four false none 0 0 false none 0 0))
  have hmk := make1 (w.alloc (.cells #[.bool false, .slice none 0 0, .bool false, .slice none 0 0] 42))
  go_enter Try.func161, Try.ntmps161
  go_upto_region 3 with fail
  simp only [World.size_alloc] at H0
  clear hmk
  obtain ⟨W0, HW⟩ : ∃ v, v = ((w.alloc (.cells #[.bool false, .slice none 0 0, .bool false, .slice none 0 0] 42)).alloc (.cells #[.bool false, .slice none 0 0, .bool false, .slice none 0 0] 42)) := ⟨_, rfl⟩
  have H1 : St w W0 [vf (w.heap.size + 1) false none 0 0 false none 0 0, vf w.heap.size false none 0 0 false none 0 0] [] := by rw [HW]; exact H0
  clear H0
  rw [← HW]
  clear HW
  have HH := Lib.hid H1
  obtain ⟨p, HP⟩ : ∃ v, Hid (mN x y = v) := ⟨_, rfl⟩
  obtain ⟨q, HQ⟩ : ∃ v, Hid (mD x y = v) := ⟨_, rfl⟩
  have HZ : Hid (Sz p 27 ∧ Sz q 27) := by
    unfold Hid; rw [← HP.out, ← HQ.out]
    exact ⟨(sz_rn (sx.1.mul sy.1)).mono (by omega), (sz_rd (sx.2.mul sy.2) (by omega)).mono (by omega)⟩
  have HM1 : Hid (rn (x.a * y.a) (x.b * y.b) = p ∧ rd (x.a * y.a) (x.b * y.b) = q) := ⟨HP.out, HQ.out⟩
  rw [HP.out, HQ.out]
  obtain ⟨s1, A1, n1, c1, t1, B1, m1, d1, a1, b1⟩ := x
  obtain ⟨s2, A2, n2, c2, t2, B2, m2, d2, a2, b2⟩ := y
  have HX := Lib.hid hx
  have HY := Lib.hid hy
  have HAX := Lib.hid hax
  have HAY := Lib.hid hay
  obtain ⟨za1, zb1⟩ := sx
  obtain ⟨za2, zb2⟩ := sy
  simp only at za1 zb1 za2 zb2 HM1
  have ya1 : Sz a1 900 := za1.mono (by decide)
  have yb1 : Sz b1 900 := zb1.mono (by decide)
  have ya2 : Sz a2 900 := za2.mono (by decide)
  have yb2 : Sz b2 900 := zb2.mono (by decide)
  have HP0 := Lib.hid hp0
  have HP1 := Lib.hid hp1
  clear hx hy hax hay hp0 hp1 za1 zb1 za2 zb2 H1
  go_loopg [11] 1 (fun r i wr => (r = 1 ∧ i = .int .i64 0 ∧ wr = W0) ∨ (r = 0 ∧ i = .int .i64 1 ∧ ∃ (A : Option Addr) (n c : Nat) (B : Option Addr) (m d : Nat), St w wr [vf (w.heap.size + 1) (decide (p < 0)) A n c (decide (q < 0)) B m d, vf w.heap.size false none 0 0 false none 0 0] [(decide (p < 0), A, n, c, p, true), (decide (q < 0), B, m, d, q, true)]))
  case atStart => exact .inl ⟨rfl, rfl, rfl⟩
  case round =>
    rcases hrel with ⟨rfl, rfl, rfl⟩ | ⟨rfl, rfl, A, n, cc, B, m, d, K⟩
    · have K := HH.out
      have c0 := ((bcell K.below).1 G 0 hG).trans HP0.out
      have c1 := ((bcell K.below).1 G 1 hG).trans HP1.out
      have hGw : G < wr.heap.size := Nat.lt_of_lt_of_le hG K.below.size
      go_upto_region 5 with fail
      have Ka := K.alloc (.cells #[.pointer (some ⟨g1, o1, none⟩), .pointer (some ⟨g2, o2, none⟩)] 134)
      have hA0 : (wr.alloc (.cells #[.pointer (some ⟨g1, o1, none⟩), .pointer (some ⟨g2, o2, none⟩)] 134)).cell? ⟨wr.heap.size, 0, none⟩ = some (.pointer (some ⟨g1, o1, none⟩)) := by simp
      have hA1 : (wr.alloc (.cells #[.pointer (some ⟨g1, o1, none⟩), .pointer (some ⟨g2, o2, none⟩)] 134)).cell? ⟨wr.heap.size, 1, none⟩ = some (.pointer (some ⟨g2, o2, none⟩)) := by simp
      generalize (wr.alloc (.cells #[.pointer (some ⟨g1, o1, none⟩), .pointer (some ⟨g2, o2, none⟩)] 134)) = wA at *
      generalize wr.heap.size = hA at *
      have Kd := Ka.drew
      have hA0' : (wA.drew).cell? ⟨hA, 0, none⟩ = some (.pointer (some ⟨g1, o1, none⟩)) := hA0
      have hA1' : (wA.drew).cell? ⟨hA, 1, none⟩ = some (.pointer (some ⟨g2, o2, none⟩)) := hA1
      obtain ⟨x0, x1, x2, x3⟩ := HX.out.call hg1 Kd.below
      obtain ⟨y0, y1, y2, y3⟩ := HY.out.call hg2 Kd.below
      obtain ⟨i1, i2⟩ := HAX.out.call Kd.below
      obtain ⟨i3, i4⟩ := HAY.out.call Kd.below
      simp only at x0 x1 x2 x3 y0 y1 y2 y3 i1 i2 i3 i4
      clear Ka hA0 hA1 c0 c1 hGw
      obtain ⟨⟨p0, p1, p2, p3⟩, _⟩ := Kd.facts
      go_region_with (first
        | (go_at_call 48; (with_reducible refine (fmul_at i1 i2 i3 i4 ya1 yb1 ya2 yb2).mono ?_); rw [HM1.out.1, HM1.out.2]; rintro ee w2 ⟨D1, n3, r1, D2, n4, r2, rfl, e1, e2, g2'⟩; have K2 := ((Kd.call g2').add e2).add e1; clear p0 p1 p2 p3; obtain ⟨⟨p0, p1, p2, p3⟩, _⟩ := K2.facts; obtain ⟨f0, f1, f2, f3⟩ := K2.free (i := 0) rfl)
        | fail)
      all_goals
        have K3 := K2.put4 0 rfl (decide (p < 0)) D1 n3 r1 (decide (q < 0)) D2 n4 r2
        simp only [List.set] at K3
        go_wp2_with fail
        go_roundg 0
        case rel => exact .inr ⟨rfl, rfl, D1, n3, r1, D2, n4, r2, K3⟩
        case measure => omega
    · have kp : (digs p.natAbs).length ≤ 1000000 := HZ.out.1.ok
      have kq : (digs q.natAbs).length ≤ 1000000 := HZ.out.2.ok
      obtain ⟨⟨p0, p1, p2, p3⟩, _⟩ := K.facts
      have hFL : FL wr (some ⟨w.heap.size + 1, 0, none⟩) [⟨decide (p < 0), A, n, cc, decide (q < 0), B, m, d, p, q⟩] := by
        refine ⟨fun e he => ?_, fun _ => ⟨_, 0, rfl, K.lt (i := 0) rfl, fun k e hk => ?_⟩⟩
        · rw [List.mem_singleton.1 he]
          exact ⟨⟨K.ints.1.ci kp, K.ints.2.1.ci kq⟩, HZ.out.1, HZ.out.2⟩
        · match k, hk with
          | 0, hk =>
            simp only [List.getElem?_cons_zero, Option.some.injEq] at hk
            subst hk
            exact ⟨p0, p1, p2, p3⟩
          | k + 1, hk => simp at hk
      have hsum := sumF_at (c := 1) hFL (by simp)
      have hsv : sumF [(⟨decide (p < 0), A, n, cc, decide (q < 0), B, m, d, p, q⟩ : FE)] = (aN 0 1 p q, aD 0 1 p q) := rfl
      rw [hsv] at hsum
      obtain ⟨u, HU⟩ : ∃ v, Hid (aN 0 1 p q = v) := ⟨_, rfl⟩
      obtain ⟨v, HV⟩ : ∃ v, Hid (aD 0 1 p q = v) := ⟨_, rfl⟩
      rw [HU.out, HV.out]
      simp only [HU.out, HV.out, List.length_singleton] at hsum
      clear hFL hsv
      go_upto_region 7 with fail
      go_wp2_with (first
        | (go_at_call 63; (with_reducible refine hsum.mono ?_); rintro ee w2 ⟨D1, n3, r1, D2, n4, r2, rfl, e1, e2, g2'⟩; have K2 := ((K.call g2').add e2).add e1; clear p0 p1 p2 p3; obtain ⟨_, ⟨q0, q1, q2, q3⟩, _⟩ := K2.facts; obtain ⟨f0, f1, f2, f3⟩ := K2.free (i := 1) rfl; have K3 := K2.put4 1 rfl (decide (u < 0)) D1 n3 r1 (decide (v < 0)) D2 n4 r2; simp only [List.set] at K3; obtain ⟨_, ⟨r0, r1', r2', r3⟩, _⟩ := K3.facts)
        | fail)
      refine bodyPost_ret (v := .agg #[.bool (decide (u < 0)), .slice D1 n3 r1, .bool (decide (v < 0)), .slice D2 n4 r2]) (by simp [results, Try.results161, go_sem, r0, r1', r2', r3]) rfl ?_
      first
        | exact RetFr.of_st K3
        | (rw [HP.out, HQ.out, HU.out, HV.out]; exact RetFr.of_st K3)
end Go.Proofs.Ytplmfdgdbolcaaa
