/-
  The program's appendEntry, AddScaled and Scale.
-/
import Derived.Test.YtjbmaoplcbhgfaaGreatSpG
import Derived.Deep.RegionHeld3
set_option linter.unusedVariables false
set_option linter.unusedSimpArgs false
namespace Go.Proofs.YtjbmaoplcbhgfaaGreat
open Go.RowKit

theorem nz_nd (i : Int) (q : Rat) : (nz i q).map nd = if q.num = 0 then [] else [(i, q.num, (q.den : Int))] := by
  unfold nz
  by_cases h : q = 0
  · rw [if_pos h, if_pos (Rat.num_eq_zero.2 h)]; rfl
  · rw [if_neg h, if_neg (fun h' => h (Rat.num_eq_zero.1 h'))]; rfl
/-- A vector that is built has got an entry more, or none. -/
def RetGE (w0 : World) (l : List VE) (k x y : Int) (e : Ending) (w' : World) : Prop :=
  ∃ v' l', e = .returned v' ∧ VG w0 w' v' l' ∧ l'.map VE.v = l.map VE.v ++ (if x = 0 then [] else [(k, x, y)]) ∧ l'.length ≤ l.length + 1

set_option maxHeartbeats 8000000 in
set_option maxRecDepth 100000 in
theorem appendEntry_at {w0 w : World} {v : Value} {l : List VE} {k x y : Int} {A B : Option Addr} {n c m d : Nat} (hG : VG w0 w v l) (hx : CanAt w (decide (x < 0)) A n c x) (hy : CanAt w (decide (y < 0)) B m d y) (zx : Sz x 5000) (zy : Sz y 5000) (hy0 : 0 < y) (hl : l.length ≤ 100000) :
    Calls Tryz.prog 30 #[v, .int .i64 k, .agg #[.bool (decide (x < 0)), .slice A n c, .bool (decide (y < 0)), .slice B m d]] w (RetGE w0 l k x y) := by
  obtain ⟨i0, hi, hz0, hz1, hz2⟩ := info_parts entry_info
  have K := (((St.start w).add hx).add hy).new 28 (Plains.four (decide (x < 0)) A n c (decide (y < 0)) B m d)
  have G1 := hG.call (bnew w (.cells #[.bool (decide (x < 0)), .slice A n c, .bool (decide (y < 0)), .slice B m d] 28))
  have I1 := K.ints.2.1.ci zx.ok
  have I2 := K.ints.1.ci zy.ok
  have hs : sgn x * sgn y = 0 ↔ x = 0 := by
    have h1 : sgn y ≠ 0 := fun h => by rw [sgn_zero2] at h; omega
    rw [Int.mul_eq_zero, sgn_zero2, sgn_zero2]
    omega
  have HS := Lib.hid hs
  clear hG hx hy hs
  obtain ⟨t, HT⟩ : ∃ u, Hid (sgn x * sgn y = u) := ⟨_, rfl⟩
  rw [HT.out] at HS
  by_cases ht : t = 0
  · have hx0 := HS.out.1 ht
    have hr : RetGE w0 l k x y = fun e w' => ∃ v' l', e = .returned v' ∧ VG w0 w' v' l' ∧ l'.map VE.v = l.map VE.v ∧ l'.length ≤ l.length + 1 := by
      unfold RetGE; rw [if_pos hx0, List.append_nil]
    rw [hr]
    subst ht
    clear hr hx0 HS
    go_enter Tryz.func30, Tryz.ntmps30
    go_wp2_with (first
      | (go_at_call 48; (with_reducible refine (fsign_at I1 I2).mono ?_); rw [HT.out]; rintro ee w2 ⟨rfl, g2⟩; have G2 := G1.call g2)
      | fail)
    go_ret
    exact ⟨_, l, rfl, G2, rfl, by omega⟩
  · have hx0 : ¬ x = 0 := fun h => ht (HS.out.2 h)
    have hr : RetGE w0 l k x y = fun e w' => ∃ v' l', e = .returned v' ∧ VG w0 w' v' l' ∧ l'.map VE.v = l.map VE.v ++ [(k, x, y)] ∧ l'.length ≤ l.length + 1 := by
      unfold RetGE; rw [if_neg hx0]
    rw [hr]
    clear hr hx0 HS
    go_enter Tryz.func30, Tryz.ntmps30
    go_upto_region 3 with (first
      | (go_at_call 48; (with_reducible refine (fsign_at I1 I2).mono ?_); rw [HT.out]; rintro ee w2 ⟨rfl, g2⟩; have G2 := G1.call g2; have K2 := K.call g2)
      | fail)
    obtain ⟨⟨p0, p1, p2, p3⟩, _⟩ := K2.facts
    have e1 := K2.ints.2.1.c
    have e2 := K2.ints.1.c
    have hsz := G2.2.2.size
    go_wp2_with (first
      | (at_builtin; refine wpList_append_p _ rfl _ _ 23 rfl w0.heap.size 49 i0 (.agg #[.int .i64 0, .bool false, .slice none 0 0, .bool false, .slice none 0 0]) 5 72 Tryz.underlying23 hi hz0 hz1 hz2 rfl (by decide) (entry_plain _ _ _ _ _ _ _ _ _) _ _ _ rfl (G2.call (bnew _ _)).1 ⟨w2.heap.size, 0, none⟩ 1 1 [.int .i64 k, .bool (decide (x < 0)), .slice A n c, .bool (decide (y < 0)), .slice B m d] rfl rfl (cell_five_new _ _ _ _ _ _ _) (fun u hu => by simp at hu; rcases hu with rfl | rfl | rfl | rfl | rfl <;> rfl) (entry_plain _ _ _ _ _ _ _ _ _) (by omega) (by unfold maxLen; omega) (by omega) (by simp; omega) ?_; intro v' w4 hp hgr)
      | fail)
    have G4 := (G2.call (bnew _ _)).snoc (x := ⟨k, ⟨decide (x < 0), A, n, c, decide (y < 0), B, m, d, x, y⟩⟩) ⟨e1.call (bnew _ _), e2.call (bnew _ _)⟩ hp hgr
    go_ret
    exact ⟨v', _, rfl, G4, by rw [List.map_append]; rfl, by simp⟩

theorem addQ_nil (k : Rat) (r : Nat) : addQ k r [] [] = [] := by cases r <;> rfl
theorem sz_q {a b : Int} {K : Nat} (ha : Sz a K) (hb : Sz b K) (hK : 0 < K) : Sz (qv a b).num (K + 2) ∧ Sz ((qv a b).den : Int) (K + 2) := by
  rw [← (rn_q a b).1, ← (rn_q a b).2]
  exact ⟨(sz_rn ha).mono (by omega), (sz_rd hb hK).mono (by omega)⟩

set_option maxHeartbeats 32000000 in
set_option maxRecDepth 100000 in
theorem addScaled_at {w : World} {A B : Option Addr} {c d : Nat} {l m : List VE} {n : Int} {K1 K2 K3 : Nat} {ks kt : Bool} {kA kB : Option Addr} {kn kc km kd : Nat} {e f : Int} (hA : VL w A l) (hB : VL w B m) (hk1 : IntAt w ks kA kn kc e) (hk2 : IntAt w kt kB km kd f)
    (h1 : valid l n = 0) (h2 : valid m n = 0) (hSa : ∀ x ∈ l, FE.S K1 x.e) (hSb : ∀ x ∈ m, FE.S K2 x.e) (zka : Sz e K3) (zkb : Sz f K3)
    (hK1 : K1 ≤ 900) (hK2 : K2 ≤ 900) (hK3 : K3 ≤ 900) (hKK : K2 + K3 + 3 ≤ 900) (hl : l.length ≤ 4096) (hm : m.length ≤ 4096) :
    Calls Tryz.prog 11 #[.slice A l.length c, .slice B m.length d, .agg #[.bool ks, .slice kA kn kc, .bool kt, .slice kB km kd], .int .i64 n] w (RetV w ((addQ (qv e f) (l.length + m.length) (l.map VE.q) (m.map VE.q)).map nd) 0) := by
  have hboth := fun w' (hb : Below w.heap.size w w') => vboth_at (w := w') (c := c) (d := d) (n := n) (hA.call hb) (hB.call hb) h1 h2 (by omega) (by omega)
  obtain ⟨V, HV⟩ : ∃ v, Hid ((addQ (qv e f) (l.length + m.length) (l.map VE.q) (m.map VE.q)).map nd = v) := ⟨_, rfl⟩
  rw [HV.out]
  have HVV : Hid (([] : List VE).map VE.v ++ (addQ (qv e f) (l.length + m.length) ((l.drop 0).map VE.q) ((m.drop 0).map VE.q)).map nd = V) := HV.out
  clear h1 h2 HV
  have HF := Lib.hid hA
  have HG := Lib.hid hB
  have HSA := Lib.hid hSa
  have HSB := Lib.hid hSb
  have HKK := Lib.hid hKK
  have H0 := (((St.start w).addI hk2).addI hk1).new 28 (Plains.four ks kA kn kc kt kB km kd)
  have HH := Lib.hid H0
  have ka : Sz e 900 := zka.mono hK3
  have kb : Sz f 900 := zkb.mono hK3
  clear hA hB hSa hSb hKK H0 hk1 hk2
  obtain ⟨L, HL⟩ : ∃ v, Hid (l.length = v) := ⟨_, rfl⟩
  obtain ⟨M, HM⟩ : ∃ v, Hid (m.length = v) := ⟨_, rfl⟩
  rw [HL.out] at hl HVV
  rw [HM.out] at hm HVV
  simp only [HL.out, HM.out] at hboth
  rw [HL.out, HM.out]
  go_enter Tryz.func11, Tryz.ntmps11
  go_upto_region 6 with (first
    | (go_at_call 24; (with_reducible refine (hboth _ HH.out.below).mono ?_); rintro e' w1 ⟨rfl, g1⟩; have K0 := HH.out.call g1)
    | fail)
  clear hboth HH g1
  have K0h := Lib.hid K0
  clear K0
  go_loopg [11, 12, 13] (L + M) (fun r v i j wr => ∃ (ki kj : Nat) (l' : List VE), i = .int .i64 ki ∧ j = .int .i64 kj ∧ ki ≤ L ∧ kj ≤ M ∧ (L - ki) + (M - kj) ≤ r ∧ l'.length ≤ ki + kj ∧
    VG w1 wr v l' ∧ l'.map VE.v ++ (addQ (qv e f) r ((l.drop ki).map VE.q) ((m.drop kj).map VE.q)).map nd = V)
  case atStart => exact ⟨0, 0, [], rfl, rfl, by omega, by omega, by omega, by simp, VG.nil (Below.refl _ _), HVV.out⟩
  case round =>
    clear HVV
    obtain ⟨ki, kj, l', rfl, rfl, bb1, bb2, bb3, bb4, hG, hV⟩ := hrel
    have hWB := bcall K0h.out.below hG.2.2
    have Kk := K0h.out.call hG.2.2
    by_cases hi1 : ki < L
    · obtain ⟨r', rfl⟩ : ∃ r', gk = r' + 1 := ⟨gk - 1, by omega⟩
      obtain ⟨x, hx⟩ : ∃ z, l[ki]? = some z := ⟨l[ki]'(by rw [HL.out]; exact hi1), List.getElem?_eq_getElem _⟩
      obtain ⟨g, o, eA, hg, hcell⟩ := HF.out.2 (by rw [HL.out]; omega)
      have hin := (hcell ki x hx).call hg hWB
      have HINX := Lib.hid (hcell ki x hx)
      have HGX := Lib.hid hg
      have hgw : g < wr.heap.size := Nat.lt_of_lt_of_le hg hWB.size
      have hatx := (HF.out.1 x (List.mem_of_getElem? hx)).call hWB
      have hsx := HSA.out x (List.mem_of_getElem? hx)
      by_cases hj1 : kj < M
      · obtain ⟨y, hy⟩ : ∃ z, m[kj]? = some z := ⟨m[kj]'(by rw [HM.out]; exact hj1), List.getElem?_eq_getElem _⟩
        obtain ⟨g', o', eB, hg', hcell'⟩ := HG.out.2 (by rw [HM.out]; omega)
        have hin' := (hcell' kj y hy).call hg' hWB
        have HINY := Lib.hid (hcell' kj y hy)
        have HGY := Lib.hid hg'
        have hgw' : g' < wr.heap.size := Nat.lt_of_lt_of_le hg' hWB.size
        have haty := (HG.out.1 y (List.mem_of_getElem? hy)).call hWB
        have hsy := HSB.out y (List.mem_of_getElem? hy)
        rw [drop_get hx, drop_get hy, List.map_cons, List.map_cons] at hV
        unfold addQ at hV
        have hV2 : l'.map VE.v ++ (if x.k < y.k then nz x.k (qv x.e.a x.e.b) ++ addQ (qv e f) r' ((l.drop (ki + 1)).map VE.q) (VE.q y :: (m.drop (kj + 1)).map VE.q) else if y.k < x.k then nz y.k (qv e f * qv y.e.a y.e.b) ++ addQ (qv e f) r' (VE.q x :: (l.drop (ki + 1)).map VE.q) ((m.drop (kj + 1)).map VE.q) else nz x.k (qv x.e.a x.e.b + qv e f * qv y.e.a y.e.b) ++ addQ (qv e f) r' ((l.drop (ki + 1)).map VE.q) ((m.drop (kj + 1)).map VE.q)).map nd = V := hV
        clear hV
        rw [← List.map_cons, ← List.map_cons, ← drop_get hx, ← drop_get hy] at hV2
        have hV := hV2
        clear hV2
        obtain ⟨qx, s, P, pn, pc, s', P', qn, qc, a, b⟩ := x
        obtain ⟨ck, c0, c1, c2, c3⟩ := hin
        obtain ⟨za, zb⟩ := hsx
        simp only at ck c0 c1 c2 c3 za zb hV
        have za900 : Sz a 900 := za.mono hK1
        have zb900 : Sz b 900 := zb.mono hK1
        have za2000 : Sz a 2000 := za900.mono (by decide)
        have zb2000 : Sz b 2000 := zb900.mono (by decide)
        subst eA
        clear hcell hx
        obtain ⟨qy, t, R, rn', rc, t', R', un, uc, a2, b2⟩ := y
        obtain ⟨dk, d0, d1, d2, d3⟩ := hin'
        obtain ⟨zya, zyb⟩ := hsy
        simp only at dk d0 d1 d2 d3 zya zyb hV
        have yc : Sz a2 900 := zya.mono hK2
        have yd : Sz b2 900 := zyb.mono hK2
        subst eB
        clear hcell' hy
        have HB := Lib.hid (show ki < L ∧ kj < M ∧ (L - ki) + (M - kj) ≤ r' + 1 ∧ l'.length ≤ ki + kj ∧ ki ≤ L ∧ kj ≤ M ∧ L ≤ 4096 ∧ M ≤ 4096 from ⟨hi1, hj1, bb3, bb4, bb1, bb2, hl, hm⟩)
        have j0 : (0 : Int) ≤ (ki : Int) := by omega
        have j2 : (0 : Int) ≤ (kj : Int) := by omega
        have j1 : (ki : Int) < (L : Int) := by omega
        have j3 : (kj : Int) < (M : Int) := by omega
        have j4 : ¬ (kj : Int) = (M : Int) := by omega
        have j5 : ¬ (ki : Int) = (L : Int) := by omega
        clear hi1 hj1 bb1 bb2 bb3 bb4 hWB hg hg'
        by_cases hlt : qx < qy
        · rw [if_pos hlt, List.map_append, nz_nd] at hV
          obtain ⟨X, HX⟩ : ∃ z, Hid ((qv a b).num = z) := ⟨_, rfl⟩
          obtain ⟨Y, HY⟩ : ∃ z, Hid (((qv a b).den : Int) = z) := ⟨_, rfl⟩
          have HXY : Hid (rn a b = X ∧ rd a b = Y) := by unfold Hid; rw [← HX.out, ← HY.out]; exact rn_q a b
          have HZ : Hid (Sz X 5000 ∧ Sz Y 5000 ∧ 0 < Y) := by unfold Hid; rw [← HXY.out.1, ← HXY.out.2]; exact ⟨(sz_rn za900).mono (by decide), (sz_rd zb900 (by decide)).mono (by decide), rd_pos _ _⟩
          rw [HX.out, HY.out] at hV
          have HV := Lib.hid hV
          clear hV HX HY
          go_upto_region 10 with fail
          have hd1 : ((kj : Int) == (M : Int)) = false := by simpa using j4
          have hd2 : decide (qx < qy) = true := by simpa using hlt
          have hd3 : decide ((ki : Int) < (L : Int)) = true := by simpa using j1
          go_quiet (fail)
          clear hd1 hd2 hd3
          have hbB : Below wr.heap.size wr (wr.drewN nq) := bdrewN (Below.refl _ _) _
          generalize wr.drewN nq = wB at hbB ⊢
          go_upto_region 11 with fail
          have hbD : Below wr.heap.size wr wB.drew := bcall hbB (Below.refl _ _).drew
          have G0 := hG.call hbD
          clear hbB
          have BD := bcall K0h.out.below G0.2.2
          obtain ⟨I1, I2⟩ := hatx.call hbD
          simp only at I1 I2
          obtain ⟨ax0, ax1, ax2, ax3, ax4⟩ := HINX.out.call HGX.out BD
          simp only at ax0 ax1 ax2 ax3 ax4
          clear hG Kk hatx ck c0 c1 c2 c3 haty dk d0 d1 d2 d3 hbD
          go_region_held3 (fun w' => w'.cell? ⟨g, o + ki * 5, none⟩ = some (.int .i64 qx) ∧ w'.cell? ⟨g, o + ki * 5 + 1, none⟩ = some (.bool s) ∧ w'.cell? ⟨g, o + ki * 5 + 1 + 1, none⟩ = some (.slice P pn pc) ∧ w'.cell? ⟨g, o + ki * 5 + 1 + 2, none⟩ = some (.bool s') ∧ w'.cell? ⟨g, o + ki * 5 + 1 + 3, none⟩ = some (.slice P' qn qc))
            (first | exact ⟨ax0, ax1, ax2, ax3, ax4⟩ | exact ⟨bx0, bx1, bx2, bx3, bx4⟩ | exact ⟨zx0, zx1, zx2, zx3, zx4⟩)
            (first
              | (go_at_call 31; (with_reducible refine (scanon_at I1 I2 za2000 zb2000).mono ?_); rw [HXY.out.1, HXY.out.2]; rintro ee w4 ⟨D1, o1, r1, D2, o2, r2, rfl, eX1, eX2, g4⟩; have GX := G0.call g4; obtain ⟨bx0, bx1, bx2, bx3, bx4⟩ := HINX.out.call HGX.out (bcall K0h.out.below GX.2.2); simp only at bx0 bx1 bx2 bx3 bx4)
              | (go_at_call 30; (with_reducible refine (appendEntry_at GX eX1 eX2 HZ.out.1 HZ.out.2.1 HZ.out.2.2 (by have := HB.out; omega)).mono ?_); rintro ee w5 ⟨v5, l5, rfl, G5, m5, n5⟩; obtain ⟨zx0, zx1, zx2, zx3, zx4⟩ := HINX.out.call HGX.out (bcall K0h.out.below G5.2.2); simp only at zx0 zx1 zx2 zx3 zx4)
              | fail)
          all_goals
            go_wp2_with fail
            go_roundg r'
            case rel => exact ⟨ki + 1, kj, l5, by go_num, rfl, by have := HB.out; omega, by have := HB.out; omega, by have := HB.out; omega, by have := HB.out; omega, G5, by rw [m5, List.append_assoc]; exact HV.out⟩
            case measure => omega
        rw [if_neg hlt] at hV
        by_cases hgt : qy < qx
        · rw [if_pos hgt, List.map_append, nz_nd] at hV
          obtain ⟨X, HX⟩ : ∃ z, Hid ((qv e f * qv a2 b2).num = z) := ⟨_, rfl⟩
          obtain ⟨Y, HY⟩ : ∃ z, Hid (((qv e f * qv a2 b2).den : Int) = z) := ⟨_, rfl⟩
          have HXY : Hid (rn (e * a2) (f * b2) = X ∧ rd (e * a2) (f * b2) = Y) := by unfold Hid; rw [← HX.out, ← HY.out]; exact mul_q e f a2 b2
          have HZ : Hid (Sz X 5000 ∧ Sz Y 5000 ∧ 0 < Y) := by unfold Hid; rw [← HXY.out.1, ← HXY.out.2]; exact ⟨(sz_rn (ka.mul yc)).mono (by decide), (sz_rd (kb.mul yd) (by decide)).mono (by decide), rd_pos _ _⟩
          rw [HX.out, HY.out] at hV
          have HV := Lib.hid hV
          clear hV HX HY
          go_upto_region 10 with fail
          have hd1 : ((kj : Int) == (M : Int)) = false := by simpa using j4
          have hd2 : decide (qx < qy) = false := by simpa using hlt
          have hd3 : decide ((ki : Int) < (L : Int)) = true := by simpa using j1
          go_quiet (fail)
          clear hd1 hd2 hd3
          obtain ⟨n1, rfl⟩ : ∃ v, v = nq := ⟨_, rfl⟩
          go_upto_region 13 with fail
          have hd4 : ((ki : Int) == (L : Int)) = false := by simpa using j5
          have hd5 : decide (qy < qx) = true := by simpa using hgt
          go_quiet (fail)
          clear hd4 hd5
          try rw [World.drewN_drewN]
          have hbB : Below wr.heap.size wr (wr.drewN (n1 + nq)) := bdrewN (Below.refl _ _) _
          generalize wr.drewN (n1 + nq) = wB at hbB ⊢
          go_upto_region 14 with fail
          have hbD : Below wr.heap.size wr wB.drew := bcall hbB (Below.refl _ _).drew
          have G0 := hG.call hbD
          clear hbB
          have BD := bcall K0h.out.below G0.2.2
          obtain ⟨I3, I4⟩ := haty.call hbD
          simp only at I3 I4
          have Kd := Kk.call hbD
          have J1 := Kd.ints.1.i
          have J2 := Kd.ints.2.1.i
          obtain ⟨ay0, ay1, ay2, ay3, ay4⟩ := HINY.out.call HGY.out BD
          obtain ⟨⟨ak0, ak1, ak2, ak3⟩, _⟩ := (K0h.out.call G0.2.2).facts
          simp only at ay0 ay1 ay2 ay3 ay4
          clear hG Kk hatx ck c0 c1 c2 c3 haty dk d0 d1 d2 d3 hbD
          go_region_held3 (fun w' => w'.cell? ⟨g', o' + kj * 5, none⟩ = some (.int .i64 qy) ∧ w'.cell? ⟨g', o' + kj * 5 + 1, none⟩ = some (.bool t) ∧ w'.cell? ⟨g', o' + kj * 5 + 1 + 1, none⟩ = some (.slice R rn' rc) ∧ w'.cell? ⟨g', o' + kj * 5 + 1 + 2, none⟩ = some (.bool t') ∧ w'.cell? ⟨g', o' + kj * 5 + 1 + 3, none⟩ = some (.slice R' un uc) ∧ w'.cell? ⟨w.heap.size, 0, none⟩ = some (.bool ks) ∧ w'.cell? ⟨w.heap.size, 1, none⟩ = some (.slice kA kn kc) ∧ w'.cell? ⟨w.heap.size, 2, none⟩ = some (.bool kt) ∧ w'.cell? ⟨w.heap.size, 3, none⟩ = some (.slice kB km kd))
            (first | exact ⟨ay0, ay1, ay2, ay3, ay4, ak0, ak1, ak2, ak3⟩ | exact ⟨by0, by1, by2, by3, by4, bk0, bk1, bk2, bk3⟩ | exact ⟨zy0, zy1, zy2, zy3, zy4, zk0, zk1, zk2, zk3⟩)
            (first
              | (go_at_call 32; (with_reducible refine (fmul_at J1 J2 I3 I4 ka kb yc yd).mono ?_); rw [HXY.out.1, HXY.out.2]; rintro ee w4 ⟨D1, o1, r1, D2, o2, r2, rfl, eX1, eX2, g4⟩; have GX := G0.call g4; obtain ⟨by0, by1, by2, by3, by4⟩ := HINY.out.call HGY.out (bcall K0h.out.below GX.2.2); obtain ⟨⟨bk0, bk1, bk2, bk3⟩, _⟩ := (K0h.out.call GX.2.2).facts; simp only at by0 by1 by2 by3 by4)
              | (go_at_call 30; (with_reducible refine (appendEntry_at GX eX1 eX2 HZ.out.1 HZ.out.2.1 HZ.out.2.2 (by have := HB.out; omega)).mono ?_); rintro ee w5 ⟨v5, l5, rfl, G5, m5, n5⟩; obtain ⟨zy0, zy1, zy2, zy3, zy4⟩ := HINY.out.call HGY.out (bcall K0h.out.below G5.2.2); obtain ⟨⟨zk0, zk1, zk2, zk3⟩, _⟩ := (K0h.out.call G5.2.2).facts; simp only at zy0 zy1 zy2 zy3 zy4)
              | fail)
          all_goals
            go_wp2_with fail
            go_roundg r'
            case rel => exact ⟨ki, kj + 1, l5, rfl, by go_num, by have := HB.out; omega, by have := HB.out; omega, by have := HB.out; omega, by have := HB.out; omega, G5, by rw [m5, List.append_assoc]; exact HV.out⟩
            case measure => omega
        · rw [if_neg hgt, List.map_append, nz_nd] at hV
          obtain ⟨U, HU⟩ : ∃ z, Hid ((qv e f * qv a2 b2).num = z) := ⟨_, rfl⟩
          obtain ⟨V, HVd⟩ : ∃ z, Hid (((qv e f * qv a2 b2).den : Int) = z) := ⟨_, rfl⟩
          have HMU : Hid (rn (e * a2) (f * b2) = U ∧ rd (e * a2) (f * b2) = V) := by unfold Hid; rw [← HU.out, ← HVd.out]; exact mul_q e f a2 b2
          have hquv : qv U V = qv e f * qv a2 b2 := by rw [← HU.out, ← HVd.out, qv_nd]
          have HZM : Hid (Sz U 900 ∧ Sz V 900) := by unfold Hid; rw [← HMU.out.1, ← HMU.out.2]; exact ⟨(sz_rn (zka.mul zya)).mono (by have := HKK.out; omega), (sz_rd ((zkb.mono (Nat.le_succ _)).mul zyb) (by omega)).mono (by have := HKK.out; omega)⟩
          obtain ⟨X, HX⟩ : ∃ z, Hid ((qv a b + qv e f * qv a2 b2).num = z) := ⟨_, rfl⟩
          obtain ⟨Y, HY⟩ : ∃ z, Hid (((qv a b + qv e f * qv a2 b2).den : Int) = z) := ⟨_, rfl⟩
          have HXY : Hid (aN a b U V = X ∧ aD a b U V = Y) := by unfold Hid; rw [← HX.out, ← HY.out, ← hquv]; exact aN_q a b U V
          clear hquv
          have HZ : Hid (Sz X 5000 ∧ Sz Y 5000 ∧ 0 < Y) := by
            unfold Hid
            rw [← HXY.out.1, ← HXY.out.2]
            have h9 := sz_aN2 za900 zb900 HZM.out.1 HZM.out.2 (by decide) (by decide)
            exact ⟨h9.1.mono (by decide), h9.2.mono (by decide), aD_pos _ _ _ _⟩
          rw [HX.out, HY.out] at hV
          have HV := Lib.hid hV
          clear hV HX HY HU HVd
          go_upto_region 10 with fail
          have hd1 : ((kj : Int) == (M : Int)) = false := by simpa using j4
          have hd2 : decide (qx < qy) = false := by simpa using hlt
          have hd3 : decide ((ki : Int) < (L : Int)) = true := by simpa using j1
          go_quiet (fail)
          clear hd1 hd2 hd3
          obtain ⟨n1, rfl⟩ : ∃ v, v = nq := ⟨_, rfl⟩
          go_upto_region 13 with fail
          have hd4 : ((ki : Int) == (L : Int)) = false := by simpa using j5
          have hd5 : decide (qy < qx) = false := by simpa using hgt
          go_quiet (fail)
          clear hd4 hd5
          try rw [World.drewN_drewN]
          have hbB : Below wr.heap.size wr (wr.drewN (n1 + nq)) := bdrewN (Below.refl _ _) _
          generalize wr.drewN (n1 + nq) = wB at hbB ⊢
          go_upto_region 7 with fail
          have hbD : Below wr.heap.size wr wB.drew := bcall hbB (Below.refl _ _).drew
          have G0 := hG.call hbD
          clear hbB
          have BD := bcall K0h.out.below G0.2.2
          obtain ⟨I1, I2⟩ := hatx.call hbD
          simp only at I1 I2
          obtain ⟨I3, I4⟩ := haty.call hbD
          simp only at I3 I4
          have Kd := Kk.call hbD
          have J1 := Kd.ints.1.i
          have J2 := Kd.ints.2.1.i
          obtain ⟨ax0, ax1, ax2, ax3, ax4⟩ := HINX.out.call HGX.out BD
          obtain ⟨ay0, ay1, ay2, ay3, ay4⟩ := HINY.out.call HGY.out BD
          obtain ⟨⟨ak0, ak1, ak2, ak3⟩, _⟩ := (K0h.out.call G0.2.2).facts
          simp only at ax0 ax1 ax2 ax3 ax4 ay0 ay1 ay2 ay3 ay4
          clear hG Kk hatx ck c0 c1 c2 c3 haty dk d0 d1 d2 d3 hbD
          go_region_held3 (fun w' => w'.cell? ⟨g, o + ki * 5, none⟩ = some (.int .i64 qx) ∧ w'.cell? ⟨g, o + ki * 5 + 1, none⟩ = some (.bool s) ∧ w'.cell? ⟨g, o + ki * 5 + 1 + 1, none⟩ = some (.slice P pn pc) ∧ w'.cell? ⟨g, o + ki * 5 + 1 + 2, none⟩ = some (.bool s') ∧ w'.cell? ⟨g, o + ki * 5 + 1 + 3, none⟩ = some (.slice P' qn qc) ∧ w'.cell? ⟨g', o' + kj * 5, none⟩ = some (.int .i64 qy) ∧ w'.cell? ⟨g', o' + kj * 5 + 1, none⟩ = some (.bool t) ∧ w'.cell? ⟨g', o' + kj * 5 + 1 + 1, none⟩ = some (.slice R rn' rc) ∧ w'.cell? ⟨g', o' + kj * 5 + 1 + 2, none⟩ = some (.bool t') ∧ w'.cell? ⟨g', o' + kj * 5 + 1 + 3, none⟩ = some (.slice R' un uc) ∧ w'.cell? ⟨w.heap.size, 0, none⟩ = some (.bool ks) ∧ w'.cell? ⟨w.heap.size, 1, none⟩ = some (.slice kA kn kc) ∧ w'.cell? ⟨w.heap.size, 2, none⟩ = some (.bool kt) ∧ w'.cell? ⟨w.heap.size, 3, none⟩ = some (.slice kB km kd))
            (first | exact ⟨ax0, ax1, ax2, ax3, ax4, ay0, ay1, ay2, ay3, ay4, ak0, ak1, ak2, ak3⟩ | exact ⟨bx0, bx1, bx2, bx3, bx4, by0, by1, by2, by3, by4, bk0, bk1, bk2, bk3⟩ | exact ⟨cx0, cx1, cx2, cx3, cx4, cy0, cy1, cy2, cy3, cy4, ck0, ck1, ck2, ck3⟩ | exact ⟨zx0, zx1, zx2, zx3, zx4, zy0, zy1, zy2, zy3, zy4, zk0, zk1, zk2, zk3⟩)
            (first
              | (go_at_call 32; (with_reducible refine (fmul_at J1 J2 I3 I4 ka kb yc yd).mono ?_); rw [HMU.out.1, HMU.out.2]; rintro ee w4 ⟨D1, o1, r1, D2, o2, r2, rfl, eM1, eM2, g4⟩; have G4 := G0.call g4; have M1 := (Ent.mk_ eM1).ci HZM.out.1.ok; have M2 := (Ent.mk_ eM2).ci HZM.out.2.ok; have X1 := I1.call g4; have X2 := I2.call g4; obtain ⟨bx0, bx1, bx2, bx3, bx4⟩ := HINX.out.call HGX.out (bcall K0h.out.below G4.2.2); obtain ⟨by0, by1, by2, by3, by4⟩ := HINY.out.call HGY.out (bcall K0h.out.below G4.2.2); obtain ⟨⟨bk0, bk1, bk2, bk3⟩, _⟩ := (K0h.out.call G4.2.2).facts; simp only at bx0 bx1 bx2 bx3 bx4 by0 by1 by2 by3 by4)
              | (go_at_call 33; (with_reducible refine (fadd_at X1 X2 M1 M2 za900 zb900 HZM.out.1 HZM.out.2).mono ?_); rw [HXY.out.1, HXY.out.2]; rintro ee w6 ⟨D3, o3, r3, D4, o4, r4, rfl, eX1, eX2, g6⟩; have GX := G4.call g6; obtain ⟨cx0, cx1, cx2, cx3, cx4⟩ := HINX.out.call HGX.out (bcall K0h.out.below GX.2.2); obtain ⟨cy0, cy1, cy2, cy3, cy4⟩ := HINY.out.call HGY.out (bcall K0h.out.below GX.2.2); obtain ⟨⟨ck0, ck1, ck2, ck3⟩, _⟩ := (K0h.out.call GX.2.2).facts; simp only at cx0 cx1 cx2 cx3 cx4 cy0 cy1 cy2 cy3 cy4)
              | (go_at_call 30; (with_reducible refine (appendEntry_at GX eX1 eX2 HZ.out.1 HZ.out.2.1 HZ.out.2.2 (by have := HB.out; omega)).mono ?_); rintro ee w5 ⟨v5, l5, rfl, G5, m5, n5⟩; obtain ⟨zx0, zx1, zx2, zx3, zx4⟩ := HINX.out.call HGX.out (bcall K0h.out.below G5.2.2); obtain ⟨zy0, zy1, zy2, zy3, zy4⟩ := HINY.out.call HGY.out (bcall K0h.out.below G5.2.2); obtain ⟨⟨zk0, zk1, zk2, zk3⟩, _⟩ := (K0h.out.call G5.2.2).facts; simp only at zx0 zx1 zx2 zx3 zx4 zy0 zy1 zy2 zy3 zy4)
              | fail)
          all_goals
            go_wp2_with fail
            go_roundg r'
            case rel => exact ⟨ki + 1, kj + 1, l5, by go_num, by go_num, by have := HB.out; omega, by have := HB.out; omega, by have := HB.out; omega, by have := HB.out; omega, G5, by rw [m5, List.append_assoc]; exact HV.out⟩
            case measure => omega
      · obtain rfl : kj = M := by omega
        have hnil : m.drop kj = [] := List.drop_eq_nil_of_le (by rw [HM.out]; exact Nat.le_refl _)
        rw [hnil, List.map_nil, drop_get hx, List.map_cons] at hV
        unfold addQ at hV
        have hV2 : l'.map VE.v ++ (nz x.k (qv x.e.a x.e.b) ++ addQ (qv e f) r' ((l.drop (ki + 1)).map VE.q) []).map nd = V := hV
        clear hV
        rw [show ([] : QV) = (m.drop kj).map VE.q by rw [hnil]; rfl] at hV2
        have hV := hV2
        clear hV2 hnil
        obtain ⟨qx, s, P, pn, pc, s', P', qn, qc, a, b⟩ := x
        obtain ⟨ck, c0, c1, c2, c3⟩ := hin
        obtain ⟨za, zb⟩ := hsx
        simp only at ck c0 c1 c2 c3 za zb hV
        have za900 : Sz a 900 := za.mono hK1
        have zb900 : Sz b 900 := zb.mono hK1
        have za2000 : Sz a 2000 := za900.mono (by decide)
        have zb2000 : Sz b 2000 := zb900.mono (by decide)
        subst eA
        clear hcell hx
        have HB := Lib.hid (show ki < L ∧ (L - ki) + (kj - kj) ≤ r' + 1 ∧ l'.length ≤ ki + kj ∧ ki ≤ L ∧ kj ≤ kj ∧ L ≤ 4096 ∧ kj ≤ 4096 from ⟨hi1, bb3, bb4, bb1, bb2, hl, hm⟩)
        have j0 : (0 : Int) ≤ (ki : Int) := by omega
        have j2 : (0 : Int) ≤ (kj : Int) := by omega
        have j1 : (ki : Int) < (L : Int) := by omega
        clear hi1 hj1 bb1 bb2 bb3 bb4 hWB hg
        rw [List.map_append, nz_nd] at hV
        obtain ⟨X, HX⟩ : ∃ z, Hid ((qv a b).num = z) := ⟨_, rfl⟩
        obtain ⟨Y, HY⟩ : ∃ z, Hid (((qv a b).den : Int) = z) := ⟨_, rfl⟩
        have HXY : Hid (rn a b = X ∧ rd a b = Y) := by unfold Hid; rw [← HX.out, ← HY.out]; exact rn_q a b
        have HZ : Hid (Sz X 5000 ∧ Sz Y 5000 ∧ 0 < Y) := by unfold Hid; rw [← HXY.out.1, ← HXY.out.2]; exact ⟨(sz_rn za900).mono (by decide), (sz_rd zb900 (by decide)).mono (by decide), rd_pos _ _⟩
        rw [HX.out, HY.out] at hV
        have HV := Lib.hid hV
        clear hV HX HY
        go_upto_region 10 with fail
        have hd1 : ((kj : Int) == (kj : Int)) = true := by simp
        go_quiet (fail)
        clear hd1
        have hbB : Below wr.heap.size wr (wr.drewN nq) := bdrewN (Below.refl _ _) _
        generalize wr.drewN nq = wB at hbB ⊢
        go_upto_region 11 with fail
        have hbD : Below wr.heap.size wr wB.drew := bcall hbB (Below.refl _ _).drew
        have G0 := hG.call hbD
        clear hbB
        have BD := bcall K0h.out.below G0.2.2
        obtain ⟨I1, I2⟩ := hatx.call hbD
        simp only at I1 I2
        obtain ⟨ax0, ax1, ax2, ax3, ax4⟩ := HINX.out.call HGX.out BD
        simp only at ax0 ax1 ax2 ax3 ax4
        clear hG Kk hatx ck c0 c1 c2 c3 hbD
        go_region_held3 (fun w' => w'.cell? ⟨g, o + ki * 5, none⟩ = some (.int .i64 qx) ∧ w'.cell? ⟨g, o + ki * 5 + 1, none⟩ = some (.bool s) ∧ w'.cell? ⟨g, o + ki * 5 + 1 + 1, none⟩ = some (.slice P pn pc) ∧ w'.cell? ⟨g, o + ki * 5 + 1 + 2, none⟩ = some (.bool s') ∧ w'.cell? ⟨g, o + ki * 5 + 1 + 3, none⟩ = some (.slice P' qn qc))
          (first | exact ⟨ax0, ax1, ax2, ax3, ax4⟩ | exact ⟨bx0, bx1, bx2, bx3, bx4⟩ | exact ⟨zx0, zx1, zx2, zx3, zx4⟩)
          (first
            | (go_at_call 31; (with_reducible refine (scanon_at I1 I2 za2000 zb2000).mono ?_); rw [HXY.out.1, HXY.out.2]; rintro ee w4 ⟨D1, o1, r1, D2, o2, r2, rfl, eX1, eX2, g4⟩; have GX := G0.call g4; obtain ⟨bx0, bx1, bx2, bx3, bx4⟩ := HINX.out.call HGX.out (bcall K0h.out.below GX.2.2); simp only at bx0 bx1 bx2 bx3 bx4)
            | (go_at_call 30; (with_reducible refine (appendEntry_at GX eX1 eX2 HZ.out.1 HZ.out.2.1 HZ.out.2.2 (by have := HB.out; omega)).mono ?_); rintro ee w5 ⟨v5, l5, rfl, G5, m5, n5⟩; obtain ⟨zx0, zx1, zx2, zx3, zx4⟩ := HINX.out.call HGX.out (bcall K0h.out.below G5.2.2); simp only at zx0 zx1 zx2 zx3 zx4)
            | fail)
        all_goals
          go_wp2_with fail
          go_roundg r'
          case rel => exact ⟨ki + 1, kj, l5, by go_num, rfl, by have := HB.out; omega, by have := HB.out; omega, by have := HB.out; omega, by have := HB.out; omega, G5, by rw [m5, List.append_assoc]; exact HV.out⟩
          case measure => omega
    · have HEL : Hid (ki = L) := by unfold Hid; omega
      have hnil : l.drop ki = [] := List.drop_eq_nil_of_le (by rw [HL.out, HEL.out]; exact Nat.le_refl _)
      have j1 : ¬ (ki : Int) < (L : Int) := by omega
      have j5 : (ki : Int) = (L : Int) := by have := HEL.out; omega
      by_cases hj1 : kj < M
      · obtain ⟨r', rfl⟩ : ∃ r', gk = r' + 1 := ⟨gk - 1, by omega⟩
        obtain ⟨y, hy⟩ : ∃ z, m[kj]? = some z := ⟨m[kj]'(by rw [HM.out]; exact hj1), List.getElem?_eq_getElem _⟩
        obtain ⟨g', o', eB, hg', hcell'⟩ := HG.out.2 (by rw [HM.out]; omega)
        have hin' := (hcell' kj y hy).call hg' hWB
        have HINY := Lib.hid (hcell' kj y hy)
        have HGY := Lib.hid hg'
        have hgw' : g' < wr.heap.size := Nat.lt_of_lt_of_le hg' hWB.size
        have haty := (HG.out.1 y (List.mem_of_getElem? hy)).call hWB
        have hsy := HSB.out y (List.mem_of_getElem? hy)
        rw [hnil, List.map_nil, drop_get hy, List.map_cons] at hV
        unfold addQ at hV
        have hV2 : l'.map VE.v ++ (nz y.k (qv e f * qv y.e.a y.e.b) ++ addQ (qv e f) r' [] ((m.drop (kj + 1)).map VE.q)).map nd = V := hV
        clear hV
        rw [show ([] : QV) = (l.drop ki).map VE.q by rw [hnil]; rfl] at hV2
        have hV := hV2
        clear hV2 hnil
        obtain ⟨qy, t, R, rn', rc, t', R', un, uc, a2, b2⟩ := y
        obtain ⟨dk, d0, d1, d2, d3⟩ := hin'
        obtain ⟨zya, zyb⟩ := hsy
        simp only at dk d0 d1 d2 d3 zya zyb hV
        have yc : Sz a2 900 := zya.mono hK2
        have yd : Sz b2 900 := zyb.mono hK2
        subst eB
        clear hcell' hy
        have HB := Lib.hid (show kj < M ∧ (L - ki) + (M - kj) ≤ r' + 1 ∧ l'.length ≤ ki + kj ∧ ki ≤ L ∧ kj ≤ M ∧ L ≤ 4096 ∧ M ≤ 4096 from ⟨hj1, bb3, bb4, bb1, bb2, hl, hm⟩)
        have j0 : (0 : Int) ≤ (ki : Int) := by omega
        have j2 : (0 : Int) ≤ (kj : Int) := by omega
        have j3 : (kj : Int) < (M : Int) := by omega
        have j4 : ¬ (kj : Int) = (M : Int) := by omega
        clear hi1 hj1 bb1 bb2 bb3 bb4 hWB hg'
        rw [List.map_append, nz_nd] at hV
        obtain ⟨X, HX⟩ : ∃ z, Hid ((qv e f * qv a2 b2).num = z) := ⟨_, rfl⟩
        obtain ⟨Y, HY⟩ : ∃ z, Hid (((qv e f * qv a2 b2).den : Int) = z) := ⟨_, rfl⟩
        have HXY : Hid (rn (e * a2) (f * b2) = X ∧ rd (e * a2) (f * b2) = Y) := by unfold Hid; rw [← HX.out, ← HY.out]; exact mul_q e f a2 b2
        have HZ : Hid (Sz X 5000 ∧ Sz Y 5000 ∧ 0 < Y) := by unfold Hid; rw [← HXY.out.1, ← HXY.out.2]; exact ⟨(sz_rn (ka.mul yc)).mono (by decide), (sz_rd (kb.mul yd) (by decide)).mono (by decide), rd_pos _ _⟩
        rw [HX.out, HY.out] at hV
        have HV := Lib.hid hV
        clear hV HX HY
        go_upto_region 10 with fail
        have hd1 : ((kj : Int) == (M : Int)) = false := by simpa using j4
        have hd3 : decide ((ki : Int) < (L : Int)) = false := by simpa using j1
        go_quiet (fail)
        clear hd1 hd3
        obtain ⟨n1, rfl⟩ : ∃ v, v = nq := ⟨_, rfl⟩
        go_upto_region 13 with fail
        have hd4 : ((ki : Int) == (L : Int)) = true := by simpa using j5
        go_quiet (fail)
        clear hd4
        try rw [World.drewN_drewN]
        have hbB : Below wr.heap.size wr (wr.drewN (n1 + nq)) := bdrewN (Below.refl _ _) _
        generalize wr.drewN (n1 + nq) = wB at hbB ⊢
        go_upto_region 14 with fail
        have hbD : Below wr.heap.size wr wB.drew := bcall hbB (Below.refl _ _).drew
        have G0 := hG.call hbD
        clear hbB
        have BD := bcall K0h.out.below G0.2.2
        obtain ⟨I3, I4⟩ := haty.call hbD
        simp only at I3 I4
        have Kd := Kk.call hbD
        have J1 := Kd.ints.1.i
        have J2 := Kd.ints.2.1.i
        obtain ⟨ay0, ay1, ay2, ay3, ay4⟩ := HINY.out.call HGY.out BD
        obtain ⟨⟨ak0, ak1, ak2, ak3⟩, _⟩ := (K0h.out.call G0.2.2).facts
        simp only at ay0 ay1 ay2 ay3 ay4
        clear hG Kk haty dk d0 d1 d2 d3 hbD
        go_region_held3 (fun w' => w'.cell? ⟨g', o' + kj * 5, none⟩ = some (.int .i64 qy) ∧ w'.cell? ⟨g', o' + kj * 5 + 1, none⟩ = some (.bool t) ∧ w'.cell? ⟨g', o' + kj * 5 + 1 + 1, none⟩ = some (.slice R rn' rc) ∧ w'.cell? ⟨g', o' + kj * 5 + 1 + 2, none⟩ = some (.bool t') ∧ w'.cell? ⟨g', o' + kj * 5 + 1 + 3, none⟩ = some (.slice R' un uc) ∧ w'.cell? ⟨w.heap.size, 0, none⟩ = some (.bool ks) ∧ w'.cell? ⟨w.heap.size, 1, none⟩ = some (.slice kA kn kc) ∧ w'.cell? ⟨w.heap.size, 2, none⟩ = some (.bool kt) ∧ w'.cell? ⟨w.heap.size, 3, none⟩ = some (.slice kB km kd))
          (first | exact ⟨ay0, ay1, ay2, ay3, ay4, ak0, ak1, ak2, ak3⟩ | exact ⟨by0, by1, by2, by3, by4, bk0, bk1, bk2, bk3⟩ | exact ⟨zy0, zy1, zy2, zy3, zy4, zk0, zk1, zk2, zk3⟩)
          (first
            | (go_at_call 32; (with_reducible refine (fmul_at J1 J2 I3 I4 ka kb yc yd).mono ?_); rw [HXY.out.1, HXY.out.2]; rintro ee w4 ⟨D1, o1, r1, D2, o2, r2, rfl, eX1, eX2, g4⟩; have GX := G0.call g4; obtain ⟨by0, by1, by2, by3, by4⟩ := HINY.out.call HGY.out (bcall K0h.out.below GX.2.2); obtain ⟨⟨bk0, bk1, bk2, bk3⟩, _⟩ := (K0h.out.call GX.2.2).facts; simp only at by0 by1 by2 by3 by4)
            | (go_at_call 30; (with_reducible refine (appendEntry_at GX eX1 eX2 HZ.out.1 HZ.out.2.1 HZ.out.2.2 (by have := HB.out; omega)).mono ?_); rintro ee w5 ⟨v5, l5, rfl, G5, m5, n5⟩; obtain ⟨zy0, zy1, zy2, zy3, zy4⟩ := HINY.out.call HGY.out (bcall K0h.out.below G5.2.2); obtain ⟨⟨zk0, zk1, zk2, zk3⟩, _⟩ := (K0h.out.call G5.2.2).facts; simp only at zy0 zy1 zy2 zy3 zy4)
            | fail)
        all_goals
          go_wp2_with fail
          go_roundg r'
          case rel => exact ⟨ki, kj + 1, l5, by rw [HEL.out], by go_num, by have := HB.out; omega, by have := HB.out; omega, by have := HB.out; omega, by have := HB.out; omega, G5, by rw [m5, List.append_assoc]; exact HV.out⟩
          case measure => omega
      · obtain rfl : kj = M := by omega
        have hnil' : m.drop kj = [] := List.drop_eq_nil_of_le (by rw [HM.out]; exact Nat.le_refl _)
        rw [hnil, hnil', List.map_nil, addQ_nil, List.map_nil, List.append_nil] at hV
        have j2 : ¬ (kj : Int) < (kj : Int) := by omega
        obtain ⟨A', c', rfl, hVC⟩ := hG.vc
        clear hG hnil hnil'
        go_wp2_with fail
        go_ret2
        exact ⟨A', c', l', rfl, hV, hVC, hWB⟩
end Go.Proofs.YtjbmaoplcbhgfaaGreat

