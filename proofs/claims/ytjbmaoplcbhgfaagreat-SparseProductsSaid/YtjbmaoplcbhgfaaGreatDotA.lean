/-
  The check of the laws of sparse vectors.
-/
import Derived.Test.YtjbmaoplcbhgfaaGreatVecA
import Derived.Deep.AppendLies
import Derived.Test.YtjbmaoplcbhgfaaGreatRndA
import Derived.Test.YtjbmaoplcbhgfaaGreatRfrac
set_option linter.unusedVariables false
set_option linter.unusedSimpArgs false
namespace Go.Proofs.YtjbmaoplcbhgfaaGreat
section
open Go.RowKit

/-- The numbers of a product. -/
def mN (x y : FE) : Int := rn (x.a * y.a) (x.b * y.b)
def mD (x y : FE) : Int := rd (x.a * y.a) (x.b * y.b)

theorem make1 (W : World) : (Instr.makeSlice 50 (.int .i64 1) (.int .i64 1)).run Tryz.prog W = .ok (.slice (some ⟨W.heap.size, 0, none⟩) 1 1) (W.alloc (.cells #[.bool false, .slice none 0 0, .bool false, .slice none 0 0] 28)) := by kernel_rfl

set_option maxHeartbeats 8000000 in
set_option maxRecDepth 100000 in
theorem sumP1 {w : World} {G c g1 o1 g2 o2 : Nat} {x y : FE} (hG : G < w.heap.size) (hp0 : w.cell? ⟨G, 0, none⟩ = some (.pointer (some ⟨g1, o1, none⟩))) (hp1 : w.cell? ⟨G, 1, none⟩ = some (.pointer (some ⟨g2, o2, none⟩)))
    (hg1 : g1 < w.heap.size) (hg2 : g2 < w.heap.size) (hx : FE.In w g1 o1 x) (hy : FE.In w g2 o2 y) (hax : FE.At w x) (hay : FE.At w y) (sx : FE.S 12 x) (sy : FE.S 12 y) :
    Calls Tryz.prog 25 #[.slice (some ⟨G, 0, none⟩) 1 c] w (RetFr w (aN 0 1 (mN x y) (mD x y)) (aD 0 1 (mN x y) (mD x y))) := by
  have H0 := (((St.start w).new 28 (Plains.four false none 0 0 false none 0 0)).new 28 (Plains.four false none 0 0 false none 0 0))
  have hmk := make1 (w.alloc (.cells #[.bool false, .slice none 0 0, .bool false, .slice none 0 0] 28))
  go_enter Tryz.func25, Tryz.ntmps25
  go_upto_region 3 with fail
  simp only [World.size_alloc] at H0
  clear hmk
  obtain ⟨W0, HW⟩ : ∃ v, v = ((w.alloc (.cells #[.bool false, .slice none 0 0, .bool false, .slice none 0 0] 28)).alloc (.cells #[.bool false, .slice none 0 0, .bool false, .slice none 0 0] 28)) := ⟨_, rfl⟩
  have H1 : St w W0 [vf (w.heap.size + 1) false none 0 0 false none 0 0, vf w.heap.size false none 0 0 false none 0 0] [] := by rw [HW]; exact H0
  clear H0
  rw [← HW]
  clear HW
  have HH := Lib.hid H1
  obtain ⟨p, HP⟩ : ∃ v, Hid (mN x y = v) := ⟨_, rfl⟩
  obtain ⟨q, HQ⟩ : ∃ v, Hid (mD x y = v) := ⟨_, rfl⟩
  have HZ : Hid (Sz p 27 ∧ Sz q 27) := by
    unfold Hid; rw [← HP.out, ← HQ.out]
    exact ⟨(sz_rn (sx.1.mul sy.1)).mono (by omega), (sz_rd (sx.2.mul sy.2) (by omega)).mono (by omega)⟩
  have HM1 : Hid (rn (x.a * y.a) (x.b * y.b) = p ∧ rd (x.a * y.a) (x.b * y.b) = q) := ⟨HP.out, HQ.out⟩
  rw [HP.out, HQ.out]
  obtain ⟨s1, A1, n1, c1, t1, B1, m1, d1, a1, b1⟩ := x
  obtain ⟨s2, A2, n2, c2, t2, B2, m2, d2, a2, b2⟩ := y
  have HX := Lib.hid hx
  have HY := Lib.hid hy
  have HAX := Lib.hid hax
  have HAY := Lib.hid hay
  obtain ⟨za1, zb1⟩ := sx
  obtain ⟨za2, zb2⟩ := sy
  simp only at za1 zb1 za2 zb2 HM1
  have ya1 : Sz a1 900 := za1.mono (by decide)
  have yb1 : Sz b1 900 := zb1.mono (by decide)
  have ya2 : Sz a2 900 := za2.mono (by decide)
  have yb2 : Sz b2 900 := zb2.mono (by decide)
  have HP0 := Lib.hid hp0
  have HP1 := Lib.hid hp1
  clear hx hy hax hay hp0 hp1 za1 zb1 za2 zb2 H1
  go_loopg [11] 1 (fun r i wr => (r = 1 ∧ i = .int .i64 0 ∧ wr = W0) ∨ (r = 0 ∧ i = .int .i64 1 ∧ ∃ (A : Option Addr) (n c : Nat) (B : Option Addr) (m d : Nat), St w wr [vf (w.heap.size + 1) (decide (p < 0)) A n c (decide (q < 0)) B m d, vf w.heap.size false none 0 0 false none 0 0] [(decide (p < 0), A, n, c, p, true), (decide (q < 0), B, m, d, q, true)]))
  case atStart => exact .inl ⟨rfl, rfl, rfl⟩
  case round =>
    rcases hrel with ⟨rfl, rfl, rfl⟩ | ⟨rfl, rfl, A, n, cc, B, m, d, K⟩
    · have K := HH.out
      have c0 := ((bcell K.below).1 G 0 hG).trans HP0.out
      have c1 := ((bcell K.below).1 G 1 hG).trans HP1.out
      have hGw : G < wr.heap.size := Nat.lt_of_lt_of_le hG K.below.size
      go_upto_region 5 with fail
      have Ka := K.alloc (.cells #[.pointer (some ⟨g1, o1, none⟩), .pointer (some ⟨g2, o2, none⟩)] 57)
      have hA0 : (wr.alloc (.cells #[.pointer (some ⟨g1, o1, none⟩), .pointer (some ⟨g2, o2, none⟩)] 57)).cell? ⟨wr.heap.size, 0, none⟩ = some (.pointer (some ⟨g1, o1, none⟩)) := by simp
      have hA1 : (wr.alloc (.cells #[.pointer (some ⟨g1, o1, none⟩), .pointer (some ⟨g2, o2, none⟩)] 57)).cell? ⟨wr.heap.size, 1, none⟩ = some (.pointer (some ⟨g2, o2, none⟩)) := by simp
      generalize (wr.alloc (.cells #[.pointer (some ⟨g1, o1, none⟩), .pointer (some ⟨g2, o2, none⟩)] 57)) = wA at *
      generalize wr.heap.size = hA at *
      have Kd := Ka.drew
      have hA0' : (wA.drew).cell? ⟨hA, 0, none⟩ = some (.pointer (some ⟨g1, o1, none⟩)) := hA0
      have hA1' : (wA.drew).cell? ⟨hA, 1, none⟩ = some (.pointer (some ⟨g2, o2, none⟩)) := hA1
      obtain ⟨x0, x1, x2, x3⟩ := HX.out.call hg1 Kd.below
      obtain ⟨y0, y1, y2, y3⟩ := HY.out.call hg2 Kd.below
      obtain ⟨i1, i2⟩ := HAX.out.call Kd.below
      obtain ⟨i3, i4⟩ := HAY.out.call Kd.below
      simp only at x0 x1 x2 x3 y0 y1 y2 y3 i1 i2 i3 i4
      clear Ka hA0 hA1 c0 c1 hGw
      obtain ⟨⟨p0, p1, p2, p3⟩, _⟩ := Kd.facts
      go_region_with (first
        | (go_at_call 32; (with_reducible refine (fmul_at i1 i2 i3 i4 ya1 yb1 ya2 yb2).mono ?_); rw [HM1.out.1, HM1.out.2]; rintro ee w2 ⟨D1, n3, r1, D2, n4, r2, rfl, e1, e2, g2'⟩; have K2 := ((Kd.call g2').add e2).add e1; clear p0 p1 p2 p3; obtain ⟨⟨p0, p1, p2, p3⟩, _⟩ := K2.facts; obtain ⟨f0, f1, f2, f3⟩ := K2.free (i := 0) rfl)
        | fail)
      all_goals
        have K3 := K2.put4 0 rfl (decide (p < 0)) D1 n3 r1 (decide (q < 0)) D2 n4 r2
        simp only [List.set] at K3
        go_wp2_with fail
        go_roundg 0
        case rel => exact .inr ⟨rfl, rfl, D1, n3, r1, D2, n4, r2, K3⟩
        case measure => omega
    · have kp : (digs p.natAbs).length ≤ 1000000 := HZ.out.1.ok
      have kq : (digs q.natAbs).length ≤ 1000000 := HZ.out.2.ok
      obtain ⟨⟨p0, p1, p2, p3⟩, _⟩ := K.facts
      have hFL : FL wr (some ⟨w.heap.size + 1, 0, none⟩) [⟨decide (p < 0), A, n, cc, decide (q < 0), B, m, d, p, q⟩] := by
        refine ⟨fun e he => ?_, fun _ => ⟨_, 0, rfl, K.lt (i := 0) rfl, fun k e hk => ?_⟩⟩
        · rw [List.mem_singleton.1 he]
          exact ⟨K.ints.1.ci kp, K.ints.2.1.ci kq⟩
        · match k, hk with
          | 0, hk =>
            simp only [List.getElem?_cons_zero, Option.some.injEq] at hk
            subst hk
            exact ⟨p0, p1, p2, p3⟩
          | k + 1, hk => simp at hk
      have hZ2 : ∀ e ∈ [(⟨decide (p < 0), A, n, cc, decide (q < 0), B, m, d, p, q⟩ : FE)], FE.S 27 e := fun e he => by rw [List.mem_singleton.1 he]; exact HZ.out
      have hsum := sumF_at (c := 1) hFL (fun e he => (hZ2 e he).mono (by decide)) (SumS.of hZ2 (by decide) (by simp)) (by simp)
      clear hZ2
      have hsv : sumF [(⟨decide (p < 0), A, n, cc, decide (q < 0), B, m, d, p, q⟩ : FE)] = (aN 0 1 p q, aD 0 1 p q) := rfl
      rw [hsv] at hsum
      obtain ⟨u, HU⟩ : ∃ v, Hid (aN 0 1 p q = v) := ⟨_, rfl⟩
      obtain ⟨v, HV⟩ : ∃ v, Hid (aD 0 1 p q = v) := ⟨_, rfl⟩
      rw [HU.out, HV.out]
      simp only [HU.out, HV.out, List.length_singleton] at hsum
      clear hFL hsv
      go_upto_region 7 with fail
      go_wp2_with (first
        | (go_at_call 44; (with_reducible refine hsum.mono ?_); rintro ee w2 ⟨D1, n3, r1, D2, n4, r2, rfl, e1, e2, g2'⟩; have K2 := ((K.call g2').add e2).add e1; clear p0 p1 p2 p3; obtain ⟨_, ⟨q0, q1, q2, q3⟩, _⟩ := K2.facts; obtain ⟨f0, f1, f2, f3⟩ := K2.free (i := 1) rfl; have K3 := K2.put4 1 rfl (decide (u < 0)) D1 n3 r1 (decide (v < 0)) D2 n4 r2; simp only [List.set] at K3; obtain ⟨_, ⟨r0, r1', r2', r3⟩, _⟩ := K3.facts)
        | fail)
      refine bodyPost_ret (v := .agg #[.bool (decide (u < 0)), .slice D1 n3 r1, .bool (decide (v < 0)), .slice D2 n4 r2]) (by simp [results, Tryz.results25, go_sem, r0, r1', r2', r3]) rfl ?_
      first
        | exact RetFr.of_st K3
        | (rw [HP.out, HQ.out, HU.out, HV.out]; exact RetFr.of_st K3)
end
section
open Go.RowKit

theorem prod_info : (Tryz.prog.info? 57).map (fun i => (i.zero, i.size, i.bytes)) = some (some (.agg #[.pointer none, .pointer none]), 2, 16) := by kernel_rfl

theorem vboth_at {w : World} {A B : Option Addr} {c d : Nat} {l m : List VE} {n : Int} (hA : VL w A l) (hB : VL w B m) (h1 : valid l n = 0) (h2 : valid m n = 0) (hl : l.length ≤ 1000000) (hm : m.length ≤ 1000000) :
    Calls Tryz.prog 24 #[.slice A l.length c, .slice B m.length d, .int .i64 n] w (RetN w 0) := by
  have H1 := valid_at (c := c) (n := n) hA hl
  have H2 := fun w' h => valid_at (w := w') (A := B) (c := d) (n := n) (l := m) h hm
  rw [h1] at H1
  simp only [h2] at H2
  go_enter Tryz.func24, Tryz.ntmps24
  go_wp2_with (first
    | (go_at_call_of 39 (Value.slice A l.length c); (with_reducible refine H1.mono ?_); clear H1; rintro e w1 ⟨rfl, g1⟩; have hB1 := hB.call g1; clear hB)
    | (go_at_call 39; (with_reducible refine (H2 _ hB1).mono ?_); rintro e w2 ⟨rfl, g2⟩)
    | fail)
  go_ret
  exact ⟨rfl, bcall g1 g2⟩
theorem cell_two_new_ (w : World) (a b : Value) (t : TypeId) : ∀ j u, [a, b][j]? = some u → (w.alloc (.cells #[a, b] t)).cell? ((⟨w.heap.size, 0, none⟩ : Addr).add j) = some u := by
  intro j u hj
  match j, hj with
  | 0, hj => simp at hj; subst hj; simp [Addr.add]
  | 1, hj => simp at hj; subst hj; simp [Addr.add]
  | j + 2, hj => simp at hj
theorem row_two (w : World) (p0 p1 : Value) (zs : Array Value) (t : TypeId) : (w.alloc (.cells (#[p0, p1] ++ zs) t)).cell? ⟨w.heap.size, 0, none⟩ = some p0 ∧ (w.alloc (.cells (#[p0, p1] ++ zs) t)).cell? ⟨w.heap.size, 1, none⟩ = some p1 := by
  have h0 : (#[p0, p1] ++ zs)[0]? = some p0 := by rw [Array.getElem?_append_left (by simp)]; rfl
  have h1 : (#[p0, p1] ++ zs)[1]? = some p1 := by rw [Array.getElem?_append_left (by simp)]; rfl
  have hh := Go.Deep.blk_alloc_new w (.cells (#[p0, p1] ++ zs) t)
  constructor
  · unfold World.cell?; simp only [hh]; exact h0
  · unfold World.cell?; simp only [hh]; exact h1
/-- The state of the loop. -/
def DoI (w wr : World) : Prop := St w wr [vf w.heap.size false none 0 0 false none 0 0] []

set_option maxHeartbeats 8000000 in
set_option maxRecDepth 100000 in
theorem dot_21 {w : World} {ga gb ca cb : Nat} {x y z : FE} (hga : ga < w.heap.size) (hgb : gb < w.heap.size) (hA : VE.In w ga 0 ⟨1, x⟩) (hB : VE.In w gb 0 ⟨0, y⟩) (hB1 : VE.In w gb 5 ⟨1, z⟩)
    (hax : FE.At w x) (haz : FE.At w z) (sx : FE.S 12 x) (sz : FE.S 12 z)
    (hboth : ∀ w' : World, Below w.heap.size w w' → Calls Tryz.prog 24 #[.slice (some ⟨ga, 0, none⟩) 1 ca, .slice (some ⟨gb, 0, none⟩) 2 cb, .int .i64 2] w' (RetN w' 0)) :
    Calls Tryz.prog 9 #[.slice (some ⟨ga, 0, none⟩) 1 ca, .slice (some ⟨gb, 0, none⟩) 2 cb, .int .i64 2] w (RetFE w (aN 0 1 (mN x z) (mD x z)) (aD 0 1 (mN x z) (mD x z)) 0) := by
  have H0 := (St.start w).new 28 (Plains.four false none 0 0 false none 0 0)
  have HH := Lib.hid H0
  clear H0
  have HA := Lib.hid hA
  have HB := Lib.hid hB
  have HB1 := Lib.hid hB1
  clear hA hB hB1
  go_enter Tryz.func9, Tryz.ntmps9
  go_upto_region 6 with (first
    | (go_at_call 24; (with_reducible refine (hboth _ HH.out.below).mono ?_); rintro e w1 ⟨rfl, g1⟩; have HI : DoI w w1 := HH.out.call g1)
    | fail)
  clear hboth
  go_loopg [9, 10, 11] 2 (fun r pr i j wr => DoI w wr ∧ ((r = 2 ∧ pr = .slice none 0 0 ∧ i = .int .i64 0 ∧ j = .int .i64 0) ∨ (r = 1 ∧ pr = .slice none 0 0 ∧ i = .int .i64 0 ∧ j = .int .i64 1) ∨
    (r = 0 ∧ i = .int .i64 1 ∧ j = .int .i64 2 ∧ ∃ G c, pr = .slice (some ⟨G, 0, none⟩) 1 c ∧ G < wr.heap.size ∧ wr.cell? ⟨G, 0, none⟩ = some (.pointer (some ⟨ga, 1, none⟩)) ∧ wr.cell? ⟨G, 1, none⟩ = some (.pointer (some ⟨gb, 6, none⟩)))))
  case atStart => exact ⟨HI, .inl ⟨rfl, rfl, rfl, rfl⟩⟩
  case round =>
    obtain ⟨K, ⟨rfl, rfl, rfl, rfl⟩ | ⟨rfl, rfl, rfl, rfl⟩ | ⟨rfl, rfl, rfl, G, c, rfl, hG, c0, c1⟩⟩ := hrel
    · have K0 : St w wr [vf w.heap.size false none 0 0 false none 0 0] [] := K
      have a0 := (HA.out.call hga K0.below).1
      have b0 := (HB.out.call hgb K0.below).1
      simp only at a0 b0
      have KD : ∀ n, DoI w (wr.drewN n) := fun n => K0.drewN n
      go_upto_region 10 with fail
      go_quiet (fail)
      go_upto_region 12 with fail
      go_quiet (fail)
      go_wp2_with fail
      go_roundg 1
      case rel => exact ⟨by first | exact KD _ | (rw [World.drewN_drewN]; exact KD _), .inr (.inl ⟨rfl, rfl, rfl, rfl⟩)⟩
      case measure => omega
    · have K0 : St w wr [vf w.heap.size false none 0 0 false none 0 0] [] := K
      have a0 := (HA.out.call hga K0.below).1
      have b0 := (HB1.out.call hgb K0.below).1
      simp only at a0 b0
      go_upto_region 10 with fail
      go_quiet (fail)
      obtain ⟨n1, rfl⟩ : ∃ v, v = nq := ⟨_, rfl⟩
      go_upto_region 12 with fail
      go_quiet (fail)
      go_upto_region 7 with fail
      have KB := (K0.drewN n1).drewN nq
      clear K K0 a0 b0
      generalize (wr.drewN n1).drewN nq = wB at KB ⊢
      go_region_with (first | fail)
      all_goals
        generalize (Question.appendCap 1 0 57).cut (wB.tape (wB.drawn + 1) (Question.appendCap 1 0 57)) = cap
        have K2 := ((KB.alloc (.cells #[.pointer (some ⟨ga, 1, none⟩), .pointer (some ⟨gb, 6, none⟩)] 57)).alloc (.cells (#[.pointer (some ⟨ga, 1, none⟩), .pointer (some ⟨gb, 6, none⟩)] ++ Builtin.zeroCells #[.pointer none, .pointer none] (cap - 1)) 57)).drew.drew
        have hh := Go.Deep.blk_alloc_new (wB.alloc (.cells #[.pointer (some ⟨ga, 1, none⟩), .pointer (some ⟨gb, 6, none⟩)] 57)) (.cells (#[.pointer (some ⟨ga, 1, none⟩), .pointer (some ⟨gb, 6, none⟩)] ++ Builtin.zeroCells #[.pointer none, .pointer none] (cap - 1)) 57)
        generalize hX : (wB.alloc (.cells #[.pointer (some ⟨ga, 1, none⟩), .pointer (some ⟨gb, 6, none⟩)] 57)).alloc (.cells (#[.pointer (some ⟨ga, 1, none⟩), .pointer (some ⟨gb, 6, none⟩)] ++ Builtin.zeroCells #[.pointer none, .pointer none] (cap - 1)) 57) = wX at K2 hh ⊢
        have q0 : wX.drew.drew.cell? ⟨wB.heap.size + 1, 0, none⟩ = some (.pointer (some ⟨ga, 1, none⟩)) := by rw [← hX]; have := (row_two (wB.alloc (.cells #[.pointer (some ⟨ga, 1, none⟩), .pointer (some ⟨gb, 6, none⟩)] 57)) (.pointer (some ⟨ga, 1, none⟩)) (.pointer (some ⟨gb, 6, none⟩)) (Builtin.zeroCells #[.pointer none, .pointer none] (cap - 1)) 57).1; rw [World.size_alloc] at this; exact this
        have q1 : wX.drew.drew.cell? ⟨wB.heap.size + 1, 1, none⟩ = some (.pointer (some ⟨gb, 6, none⟩)) := by rw [← hX]; have := (row_two (wB.alloc (.cells #[.pointer (some ⟨ga, 1, none⟩), .pointer (some ⟨gb, 6, none⟩)] 57)) (.pointer (some ⟨ga, 1, none⟩)) (.pointer (some ⟨gb, 6, none⟩)) (Builtin.zeroCells #[.pointer none, .pointer none] (cap - 1)) 57).2; rw [World.size_alloc] at this; exact this
        have hlt1 : wB.heap.size + 1 < wX.drew.drew.heap.size := by rw [← hX]; simp
        clear hX hh
        go_wp2_with fail
        go_roundg 0
        case rel => exact ⟨K2, .inr (.inr ⟨rfl, rfl, rfl, _, _, rfl, hlt1, q0, q1⟩)⟩
        case measure => omega
    · have K0 : St w wr [vf w.heap.size false none 0 0 false none 0 0] [] := K
      have hx := HA.out.2.call hga K0.below
      have hz := HB1.out.2.call hgb K0.below
      have hs := K0.below.size
      have hsum := sumP1 (c := c) hG c0 c1 (Nat.lt_of_lt_of_le hga hs) (Nat.lt_of_lt_of_le hgb hs) hx hz (hax.call K0.below) (haz.call K0.below) sx sz
      obtain ⟨u, HU⟩ : ∃ v, Hid (aN 0 1 (mN x z) (mD x z) = v) := ⟨_, rfl⟩
      obtain ⟨v, HV⟩ : ∃ v, Hid (aD 0 1 (mN x z) (mD x z) = v) := ⟨_, rfl⟩
      simp only at hsum
      rw [HU.out, HV.out] at hsum
      obtain ⟨⟨p0, p1, p2, p3⟩, _⟩ := K0.facts
      go_wp2_with (first
        | (go_at_call 25; (with_reducible refine hsum.mono ?_); rintro ee w2 ⟨D1, n3, r1, D2, n4, r2, rfl, e1, e2, g2'⟩; have K2 := ((K0.call g2').add e2).add e1; clear p0 p1 p2 p3; obtain ⟨⟨q0, q1, q2, q3⟩, _⟩ := K2.facts; obtain ⟨f0, f1, f2, f3⟩ := K2.free (i := 0) rfl; have K3 := K2.put4 0 rfl (decide (u < 0)) D1 n3 r1 (decide (v < 0)) D2 n4 r2; simp only [List.set] at K3; obtain ⟨⟨r0, r1', r2', r3⟩, _⟩ := K3.facts)
        | fail)
      refine bodyPost_ret (v := .tuple #[.agg #[.bool (decide (u < 0)), .slice D1 n3 r1, .bool (decide (v < 0)), .slice D2 n4 r2], .int .i64 0]) (by simp [results, Tryz.results9, go_sem, r0, r1', r2', r3]) rfl ?_
      rw [HU.out, HV.out]
      exact RetFE.of_st K3
end
section
open Go.RowKit

theorem whole_k (k : Int) (h1 : 0 ≤ k) (h2 : k ≤ 100) (w : World) : Calls Tryz.prog 23 #[.int .i64 k] w (RetFr w k 1) := by
  have := whole_any k (by omega) (by omega) w
  rw [(r_int k).1, (r_int k).2] at this
  exact this
theorem six_one : aN 0 1 (rn (2 * 3) (1 * 1)) (rd (2 * 3) (1 * 1)) = 6 ∧ aD 0 1 (rn (2 * 3) (1 * 1)) (rd (2 * 3) (1 * 1)) = 1 := by decide

def ents (x : FE) (k : Int) : List Value := [.int .i64 k, .bool x.s, .slice x.A x.n x.c, .bool x.t, .slice x.B x.m x.d]
theorem ve_one (w : World) (x : FE) (k : Int) (t : TypeId) : VE.In (w.alloc (.cells #[.int .i64 k, .bool x.s, .slice x.A x.n x.c, .bool x.t, .slice x.B x.m x.d] t)) w.heap.size 0 ⟨k, x⟩ := by
  refine ⟨?_, ?_, ?_, ?_, ?_⟩ <;> simp
theorem ve_two (w : World) (x y : FE) (k l : Int) (t : TypeId) :
    VE.In (w.alloc (.cells #[.int .i64 k, .bool x.s, .slice x.A x.n x.c, .bool x.t, .slice x.B x.m x.d, .int .i64 l, .bool y.s, .slice y.A y.n y.c, .bool y.t, .slice y.B y.m y.d] t)) w.heap.size 0 ⟨k, x⟩ ∧
    VE.In (w.alloc (.cells #[.int .i64 k, .bool x.s, .slice x.A x.n x.c, .bool x.t, .slice x.B x.m x.d, .int .i64 l, .bool y.s, .slice y.A y.n y.c, .bool y.t, .slice y.B y.m y.d] t)) w.heap.size 5 ⟨l, y⟩ := by
  refine ⟨⟨?_, ?_, ?_, ?_, ?_⟩, ⟨?_, ?_, ?_, ?_, ?_⟩⟩ <;> simp

set_option maxHeartbeats 8000000 in
set_option maxRecDepth 100000 in
theorem awake3_any (w : World) : Calls Tryz.prog 8 #[] w (RetT1 w) := by
  have HH := Lib.hid (St.start w)
  go_enter Tryz.func8, Tryz.ntmps8
  go_upto_region 3 with (first
    | (go_at_call_of 23 (Value.int IntKind.i64 2); have K := HH.out; clear HH; (with_reducible refine (whole_k 2 (by decide) (by decide) _).mono ?_); rintro e wa ⟨B1, m1, q1, B2, m2, q2, rfl, d1, d2, ga⟩; have Ka := ((K.call ga).add (show CanAt wa false B2 m2 q2 1 from d2)).add (show CanAt wa false B1 m1 q1 2 from d1))
    | (go_at_call_of 23 (Value.int IntKind.i64 5); (with_reducible refine (whole_k 5 (by decide) (by decide) _).mono ?_); rintro e wb ⟨B3, m3, q3, B4, m4, q4, rfl, d3, d4, gb⟩)
    | (go_at_call_of 23 (Value.int IntKind.i64 3); (with_reducible refine (whole_k 3 (by decide) (by decide) _).mono ?_); rintro e wc ⟨B5, m5, q5, B6, m6, q6, rfl, d5, d6, gc⟩)
    | fail)
  have k1 : (digs (1 : Int).natAbs).length ≤ 1000000 := (sz_i64 (x := 1) (by decide) (by decide)).ok
  have k2 : (digs (2 : Int).natAbs).length ≤ 1000000 := (sz_i64 (x := 2) (by decide) (by decide)).ok
  have k3 : (digs (3 : Int).natAbs).length ≤ 1000000 := (sz_i64 (x := 3) (by decide) (by decide)).ok
  have k5 : (digs (5 : Int).natAbs).length ≤ 1000000 := (sz_i64 (x := 5) (by decide) (by decide)).ok
  have y1 : Sz 1 12 := (sz_i64 (x := 1) (by decide) (by decide)).mono (by decide)
  have y2 : Sz 2 12 := (sz_i64 (x := 2) (by decide) (by decide)).mono (by decide)
  have y3 : Sz 3 12 := (sz_i64 (x := 3) (by decide) (by decide)).mono (by decide)
  have y5 : Sz 5 12 := (sz_i64 (x := 5) (by decide) (by decide)).mono (by decide)
  have Kb := (((Ka.alloc (.cells #[.int .i64 1, .bool false, .slice B1 m1 q1, .bool false, .slice B2 m2 q2] 49)).call gb).add (show CanAt wb false B4 m4 q4 1 from d4)).add (show CanAt wb false B3 m3 q3 5 from d3)
  have Kc := (((Kb.call gc).add (show CanAt wc false B6 m6 q6 1 from d6)).add (show CanAt wc false B5 m5 q5 3 from d5)).alloc (.cells #[.int .i64 0, .bool false, .slice B3 m3 q3, .bool false, .slice B4 m4 q4, .int .i64 1, .bool false, .slice B5 m5 q5, .bool false, .slice B6 m6 q6] 49)
  have hva := ve_one wa ⟨false, B1, m1, q1, false, B2, m2, q2, 2, 1⟩ 1 49
  have hvb := ve_two wc ⟨false, B3, m3, q3, false, B4, m4, q4, 5, 1⟩ ⟨false, B5, m5, q5, false, B6, m6, q6, 3, 1⟩ 0 1 49
  simp only at hva hvb
  have la : wa.heap.size < (wa.alloc (.cells #[.int .i64 1, .bool false, .slice B1 m1 q1, .bool false, .slice B2 m2 q2] 49)).heap.size := by simp
  have la1 := Nat.lt_of_lt_of_le la gb.size
  have la2 := Nat.lt_of_lt_of_le la1 gc.size
  have hva3 := ((hva.call la gb).call la1 gc).call la2 (bnew _ (.cells #[.int .i64 0, .bool false, .slice B3 m3 q3, .bool false, .slice B4 m4 q4, .int .i64 1, .bool false, .slice B5 m5 q5, .bool false, .slice B6 m6 q6] 49))
  have la3 : wa.heap.size < (wc.alloc (.cells #[.int .i64 0, .bool false, .slice B3 m3 q3, .bool false, .slice B4 m4 q4, .int .i64 1, .bool false, .slice B5 m5 q5, .bool false, .slice B6 m6 q6] 49)).heap.size := by simp; omega
  have lc3 : wc.heap.size < (wc.alloc (.cells #[.int .i64 0, .bool false, .slice B3 m3 q3, .bool false, .slice B4 m4 q4, .int .i64 1, .bool false, .slice B5 m5 q5, .bool false, .slice B6 m6 q6] 49)).heap.size := by simp
  clear hva la la1 la2
  generalize wa.heap.size = ha at *
  generalize hwc : wc.heap.size = hc at *
  generalize wc.alloc (.cells #[.int .i64 0, .bool false, .slice B3 m3 q3, .bool false, .slice B4 m4 q4, .int .i64 1, .bool false, .slice B5 m5 q5, .bool false, .slice B6 m6 q6] 49) = W at *
  obtain ⟨hb0, hb5⟩ := hvb
  have jx : FE.At W ⟨false, B1, m1, q1, false, B2, m2, q2, 2, 1⟩ := ⟨Kc.ints.2.2.2.2.1.ci k2, Kc.ints.2.2.2.2.2.1.ci k1⟩
  have jy : FE.At W ⟨false, B3, m3, q3, false, B4, m4, q4, 5, 1⟩ := ⟨Kc.ints.2.2.1.ci k5, Kc.ints.2.2.2.1.ci k1⟩
  have jz : FE.At W ⟨false, B5, m5, q5, false, B6, m6, q6, 3, 1⟩ := ⟨Kc.ints.1.ci k3, Kc.ints.2.1.ci k1⟩
  have VA : VL W (some ⟨ha, 0, none⟩) [⟨1, ⟨false, B1, m1, q1, false, B2, m2, q2, 2, 1⟩⟩] := by
    refine ⟨fun e he => ?_, fun _ => ⟨ha, 0, rfl, la3, fun k e hk => ?_⟩⟩
    · rw [List.mem_singleton.1 he]; exact jx
    · match k, hk with
      | 0, hk => simp only [List.getElem?_cons_zero, Option.some.injEq] at hk; subst hk; exact hva3
      | k + 1, hk => simp at hk
  have VB : VL W (some ⟨hc, 0, none⟩) [⟨0, ⟨false, B3, m3, q3, false, B4, m4, q4, 5, 1⟩⟩, ⟨1, ⟨false, B5, m5, q5, false, B6, m6, q6, 3, 1⟩⟩] := by
    refine ⟨fun e he => ?_, fun _ => ⟨hc, 0, rfl, lc3, fun k e hk => ?_⟩⟩
    · rcases List.mem_cons.1 he with rfl | he
      · exact jy
      · rw [List.mem_singleton.1 he]; exact jz
    · match k, hk with
      | 0, hk => simp only [List.getElem?_cons_zero, Option.some.injEq] at hk; subst hk; exact hb0
      | 1, hk => simp only [List.getElem?_cons_succ, List.getElem?_cons_zero, Option.some.injEq] at hk; subst hk; exact hb5
      | k + 2, hk => simp at hk
  have hboth := fun w' (hb : Below W.heap.size W w') => vboth_at (c := 1) (d := 2) (n := 2) (VA.call hb) (VB.call hb) (by simp [valid, vrest, sgn, cmpI]) (by simp [valid, vrest, sgn, cmpI]) (by simp) (by simp)
  have hdot := dot_21 (ca := 1) (cb := 2) la3 lc3 hva3 hb0 hb5 jx jz ⟨y2, y1⟩ ⟨y3, y1⟩ hboth
  have e61 := six_one
  rw [show aN 0 1 (mN ⟨false, B1, m1, q1, false, B2, m2, q2, 2, 1⟩ ⟨false, B5, m5, q5, false, B6, m6, q6, 3, 1⟩) (mD ⟨false, B1, m1, q1, false, B2, m2, q2, 2, 1⟩ ⟨false, B5, m5, q5, false, B6, m6, q6, 3, 1⟩) = 6 from e61.1, show aD 0 1 (mN ⟨false, B1, m1, q1, false, B2, m2, q2, 2, 1⟩ ⟨false, B5, m5, q5, false, B6, m6, q6, 3, 1⟩) (mD ⟨false, B1, m1, q1, false, B2, m2, q2, 2, 1⟩ ⟨false, B5, m5, q5, false, B6, m6, q6, 3, 1⟩) = 1 from e61.2] at hdot
  clear hboth VA VB jx jy jz hb0 hb5 hva3 e61
  go_upto_region 4 with (first
    | (go_at_call 9; (with_reducible refine hdot.mono ?_); rintro e w1 ⟨B7, m7, q7, B8, m8, q8, rfl, e1, e2, g1⟩; have Kd := (((Kc.call g1).add (show CanAt w1 false B8 m8 q8 1 from e2)).add (show CanAt w1 false B7 m7 q7 6 from e1)).new 28 (Plains.four false B7 m7 q7 false B8 m8 q8))
    | fail)
  clear hdot Kc
  have Ke := Kd.drew
  clear Kd
  obtain ⟨⟨p0, p1, p2, p3⟩, _⟩ := Ke.facts
  go_region_with (first
    | (go_at_call 23; (with_reducible refine (whole_k 6 (by decide) (by decide) _).mono ?_); rintro e w2 ⟨B9, m9, q9, B0, m0, q0, rfl, e9, e0, g2⟩; have Kf := ((Ke.call g2).add (show CanAt w2 false B0 m0 q0 1 from e0)).add (show CanAt w2 false B9 m9 q9 6 from e9); clear p0 p1 p2 p3; obtain ⟨⟨p0, p1, p2, p3⟩, _⟩ := Kf.facts; have i1 := Kf.ints.1.c; have i2 := Kf.ints.2.1.c; have i3 := Kf.ints.2.2.1.c; have i4 := Kf.ints.2.2.2.1.c)
    | (go_at_call 15; (with_reducible refine (sameFrac_at i3 i4 i1 i2).mono ?_); rintro e w3 ⟨rfl, g3⟩; have Kg := Kf.call g3)
    | fail)
  all_goals
    go_wp2_with fail
    go_ret
    exact ⟨rfl, Kg.below⟩
end
end Go.Proofs.YtjbmaoplcbhgfaaGreat

