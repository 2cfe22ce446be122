/-
  The reference's Simplest.
-/
import Derived.Test.YtgjkgmlcfieodaaTfC
set_option linter.unusedVariables false
set_option linter.unusedSimpArgs false
set_option warningAsError false
namespace Go.Proofs.Ytgjkgmlcfieodaa
open Go.RowKit

/-- What Simplest answers, for canonical pairs. -/
def smK (y1 y2 : Int) : Nat := (y1 + y2).toNat
def smP (x1 y1 x2 y2 : Int) : Int × Int := simpl (smK y1 y2) x1 y1 x2 y2
def smE (x1 y1 x2 y2 : Int) : Int := if x2 * y1 < x1 * y2 then 8 else 0
def smQ (x1 y1 x2 y2 : Int) : Int × Int :=
  if x2 * y1 < x1 * y2 then (0, 0) else if 0 < x1 then smP x1 y1 x2 y2 else if x2 < 0 then (-(smP (-x2) y2 (-x1) y1).1, (smP (-x2) y2 (-x1) y1).2) else (0, 1)
/-- A canonical pair. -/
structure Cp (x y : Int) : Prop where
  pos : 0 < y
  one : Int.gcd x y = 1
theorem cp_r (a b : Int) : Cp (rn a b) (rd a b) := ⟨rd_pos a b, rn_gcd a b⟩
theorem Cp.neg {x y : Int} (h : Cp x y) : Cp (-x) y := ⟨h.pos, by rw [Int.neg_gcd]; exact h.one⟩
theorem sgn_p {x : Int} (h : 0 < x) : sgn x = 1 := cmpI_gt h
theorem sgn_n {x : Int} (h : x < 0) : sgn x = -1 := cmpI_lt h
theorem pos4_of {x1 y1 x2 y2 : Int} (h1 : Cp x1 y1) (h2 : Cp x2 y2) (hle : ¬ x2 * y1 < x1 * y2) (hx : 0 < x1) : Pos4 x1 y1 x2 y2 := by
  have a1 := h1.pos
  have a2 := h2.pos
  have a3 : 0 < x1 * y2 := Int.mul_pos hx a2
  refine ⟨hx, a1, ?_, a2, by omega⟩
  apply Classical.byContradiction; intro hn
  have : x2 * y1 ≤ 0 := Int.mul_nonpos_of_nonpos_of_nonneg (by omega) (by omega)
  omega
theorem neg_le {x1 y1 x2 y2 : Int} (hle : ¬ x2 * y1 < x1 * y2) : ¬ -x1 * y2 < -x2 * y1 := by rw [Int.neg_mul, Int.neg_mul]; omega
theorem neg_lt {x1 y1 x2 y2 : Int} (h1 : Cp x1 y1) (h2 : Cp x2 y2) (hle : ¬ x2 * y1 < x1 * y2) (hx : x2 < 0) : x1 < 0 := by
  have h := (pos4_of h2.neg h1.neg (neg_le hle) (by omega)).pc
  omega

set_option maxHeartbeats 16000000 in
set_option maxRecDepth 100000 in
theorem rsimplest_at {w : World} {s1 s2 s3 s4 : Bool} {A1 A2 A3 A4 : Option Addr} {n1 c1 n2 c2 n3 c3 n4 c4 : Nat} {a b c d : Int} (h1 : IntAt w s1 A1 n1 c1 a) (h2 : IntAt w s2 A2 n2 c2 b) (h3 : IntAt w s3 A3 n3 c3 c) (h4 : IntAt w s4 A4 n4 c4 d) (za : Sz a 50) (zb : Sz b 50) (zc : Sz c 50) (zd : Sz d 50) :
    Calls Try.prog 8 #[.agg #[.bool s1, .slice A1 n1 c1, .bool s2, .slice A2 n2 c2], .agg #[.bool s3, .slice A3 n3 c3, .bool s4, .slice A4 n4 c4]] w (RetFE w (smQ (rn a b) (rd a b) (rn c d) (rd c d)).1 (smQ (rn a b) (rd a b) (rn c d) (rd c d)).2 (smE (rn a b) (rd a b) (rn c d) (rd c d))) := by
  have H0 := (((((((St.start w).addI h1).addI h2).addI h3).addI h4).new 26 (Plains.four s1 A1 n1 c1 s2 A2 n2 c2)).new 26 (Plains.four s3 A3 n3 c3 s4 A4 n4 c4)).new 26 (Plains.four false none 0 0 false none 0 0)
  (try simp only [World.size_alloc] at H0)
  have HH := Lib.hid H0
  clear H0 h1 h2 h3 h4
  have cp1 := cp_r a b
  have cp2 := cp_r c d
  obtain ⟨x1, HX1⟩ : ∃ v, Hid (rn a b = v) := ⟨_, rfl⟩
  obtain ⟨y1, HY1⟩ : ∃ v, Hid (rd a b = v) := ⟨_, rfl⟩
  obtain ⟨x2, HX2⟩ : ∃ v, Hid (rn c d = v) := ⟨_, rfl⟩
  obtain ⟨y2, HY2⟩ : ∃ v, Hid (rd c d = v) := ⟨_, rfl⟩
  rw [HX1.out, HY1.out] at cp1
  rw [HX2.out, HY2.out] at cp2
  have za1 : Sz a 1900 := za.mono (by decide)
  have zb1 : Sz b 1900 := zb.mono (by decide)
  have zc1 : Sz c 1900 := zc.mono (by decide)
  have zd1 : Sz d 1900 := zd.mono (by decide)
  have zx1 : Sz x1 100 := by rw [← HX1.out]; exact (sz_rn za).mono (by decide)
  have zx2 : Sz x2 100 := by rw [← HX2.out]; exact (sz_rn zc).mono (by decide)
  have zy1 : Sz y1 100 := by rw [← HY1.out]; exact (sz_rd zb (by decide)).mono (by decide)
  have zy2 : Sz y2 100 := by rw [← HY2.out]; exact (sz_rd zd (by decide)).mono (by decide)
  have kx1 := zx1.ok
  have zx1_9 : Sz x1 900 := zx1.mono (by decide)
  have zx1_19 : Sz x1 1900 := zx1.mono (by decide)
  have kx2 := zx2.ok
  have zx2_9 : Sz x2 900 := zx2.mono (by decide)
  have zx2_19 : Sz x2 1900 := zx2.mono (by decide)
  have ky1 := zy1.ok
  have zy1_9 : Sz y1 900 := zy1.mono (by decide)
  have zy1_19 : Sz y1 1900 := zy1.mono (by decide)
  have ky2 := zy2.ok
  have zy2_9 : Sz y2 900 := zy2.mono (by decide)
  have zy2_19 : Sz y2 1900 := zy2.mono (by decide)
  obtain ⟨cv, HCV⟩ : ∃ v, Hid (cmpI (rn x1 y1 * rd x2 y2) (rn x2 y2 * rd x1 y1) = v) := ⟨_, rfl⟩
  obtain ⟨sg1, HSG1⟩ : ∃ v, Hid (sgn (rn x1 y1) = v) := ⟨_, rfl⟩
  obtain ⟨sg2, HSG2⟩ : ∃ v, Hid (sgn (rn x2 y2) = v) := ⟨_, rfl⟩
  have hcv : cv = cmpI (x1 * y2) (x2 * y1) := by rw [← HCV.out, (r_self cp1.pos cp1.one).1, (r_self cp1.pos cp1.one).2, (r_self cp2.pos cp2.one).1, (r_self cp2.pos cp2.one).2]
  have hsg1 : sg1 = sgn x1 := by rw [← HSG1.out, (r_self cp1.pos cp1.one).1]
  have hsg2 : sg2 = sgn x2 := by rw [← HSG2.out, (r_self cp2.pos cp2.one).1]
  rw [HX1.out, HX2.out, HY1.out, HY2.out]
  obtain ⟨X, HXa⟩ : ∃ v, Hid ((smQ x1 y1 x2 y2).1 = v) := ⟨_, rfl⟩
  obtain ⟨Y, HYa⟩ : ∃ v, Hid ((smQ x1 y1 x2 y2).2 = v) := ⟨_, rfl⟩
  obtain ⟨Z, HZa⟩ : ∃ v, Hid (smE x1 y1 x2 y2 = v) := ⟨_, rfl⟩
  rw [HXa.out, HYa.out, HZa.out]
  have CP1 := Lib.hid cp1
  have CP2 := Lib.hid cp2
  clear cp1 cp2
  have hcv := Lib.hid hcv
  have hsg1 := Lib.hid hsg1
  have hsg2 := Lib.hid hsg2
  go_enter Try.func8, Try.ntmps8
  go_upto_region 1 with fail
  have KC := HH.out
  clear HH
  go_cut [] (fun wx => ∃ (A5 : Option Addr) (n5 c5 : Nat) (A6 : Option Addr) (n6 c6 : Nat) (A7 : Option Addr) (n7 c7 : Nat) (A8 : Option Addr) (n8 c8 : Nat), St w wx [vf (w.heap.size + 1 + 1) false none 0 0 false none 0 0, vf (w.heap.size + 1) (decide (x2 < 0)) A7 n7 c7 (decide (y2 < 0)) A8 n8 c8, vf w.heap.size (decide (x1 < 0)) A5 n5 c5 (decide (y1 < 0)) A6 n6 c6] [(decide (x2 < 0), A7, n7, c7, x2, true), (decide (y2 < 0), A8, n8, c8, y2, true), (decide (x1 < 0), A5, n5, c5, x1, true), (decide (y1 < 0), A6, n6, c6, y1, true)])
  case first =>
    have Kd := KC.drew
    clear KC
    obtain ⟨_, ⟨p4, p5, p6, p7⟩, ⟨p0, p1, p2, p3⟩, _⟩ := Kd.facts
    obtain ⟨z1, z2⟩ := Kd.ne 1 2 rfl rfl (by decide)
    have i1 := Kd.ints.2.2.2.1.i
    have i2 := Kd.ints.2.2.1.i
    skip
    refine wp_region_held_drew (S := fun w' => True) (by kernel_rfl) ?_ (fun hHeld0 => ?_)
    · (first | trivial | ((try dsimp only); go_keep))
    refine wpAnyH_ready (rs := [0, 2]) (by kernel_rfl) (by simp) ?_
    refine AllReadyH.cons (o := ⟨some 6, _, _, _, _, _⟩) rfl (fun K hK => ?_) ?_
    · skip
      go_simp
      refine hK.out _ _ ?_ (fun hHeld1 => ?_)
      · (first | trivial | ((try dsimp only); go_keep))
      clear hK K hHeld0
      (try simp only [Act.put, List.setIfInBounds_toArray, List.set_cons_zero, List.set_cons_succ])
      refine wpAnyH_ready (rs := [1, 2]) (by kernel_rfl) (by simp) ?_
      refine AllReadyH.cons (o := ⟨some 7, _, _, _, _, _⟩) rfl (fun K hK => ?_) ?_
      · skip
        go_simp
        (first | (go_at_call_of 27 (Value.agg #[Value.bool s1, Value.slice A1 n1 c1, Value.bool s2, Value.slice A2 n2 c2]); (with_reducible refine (reduce_at i1 i2 za1 zb1).mono ?_); rw [HX1.out, HY1.out]; rintro e wa ⟨A5, n5, c5, A6, n6, c6, rfl, d5, d6, g5⟩; have Ka := ((Kd.call g5).add d6).add d5; clear p0 p1 p2 p3 p4 p5 p6 p7; obtain ⟨_, ⟨p4, p5, p6, p7⟩, ⟨p0, p1, p2, p3⟩, _⟩ := Ka.facts; have i3 := Ka.ints.2.2.2.1.i; have i4 := Ka.ints.2.2.1.i) | (go_at_call_of 27 (Value.agg #[Value.bool s3, Value.slice A3 n3 c3, Value.bool s4, Value.slice A4 n4 c4]); (with_reducible refine (reduce_at i3 i4 zc1 zd1).mono ?_); rw [HX2.out, HY2.out]; rintro e wb ⟨A7, n7, c7, A8, n8, c8, rfl, d7, d8, g7⟩; have Kb := ((Ka.call g7).add d8).add d7; clear p0 p1 p2 p3 p4 p5 p6 p7; obtain ⟨_, ⟨p4, p5, p6, p7⟩, ⟨p0, p1, p2, p3⟩, _⟩ := Kb.facts; obtain ⟨f0, f1, f2, f3⟩ := Kb.free (i := 1) rfl; obtain ⟨f4, f5, f6, f7⟩ := Kb.free (i := 2) rfl) | fail)
        (try go_wp2_with fail)
        refine hK.out _ _ ?_ (fun hHeld2 => ?_)
        · (first | trivial | ((try dsimp only); go_keep))
        clear hK K hHeld1
        (try simp only [Act.put, List.setIfInBounds_toArray, List.set_cons_zero, List.set_cons_succ])
        refine wpAnyH_ready (rs := [2]) (by kernel_rfl) (by simp) ?_
        refine AllReadyH.cons (o := ⟨some 8, _, _, _, _, _⟩) rfl (fun K hK => ?_) AllReadyH.nil
        go_simp
        refine hK.out _ _ ?_ (fun hHeld3 => ?_)
        · (first | trivial | ((try dsimp only); go_keep))
        clear hK K hHeld2
        (try simp only [Act.put, List.setIfInBounds_toArray, List.set_cons_zero, List.set_cons_succ])
        refine wpAnyH_ready (rs := [3]) (by kernel_rfl) (by simp) ?_
        refine AllReadyH.cons (o := ⟨some 9, _, _, _, _, _⟩) rfl (fun K hK => ?_) AllReadyH.nil
        go_simp
        (first | (go_at_call_of 27 (Value.agg #[Value.bool s1, Value.slice A1 n1 c1, Value.bool s2, Value.slice A2 n2 c2]); (with_reducible refine (reduce_at i1 i2 za1 zb1).mono ?_); rw [HX1.out, HY1.out]; rintro e wa ⟨A5, n5, c5, A6, n6, c6, rfl, d5, d6, g5⟩; have Ka := ((Kd.call g5).add d6).add d5; clear p0 p1 p2 p3 p4 p5 p6 p7; obtain ⟨_, ⟨p4, p5, p6, p7⟩, ⟨p0, p1, p2, p3⟩, _⟩ := Ka.facts; have i3 := Ka.ints.2.2.2.1.i; have i4 := Ka.ints.2.2.1.i) | (go_at_call_of 27 (Value.agg #[Value.bool s3, Value.slice A3 n3 c3, Value.bool s4, Value.slice A4 n4 c4]); (with_reducible refine (reduce_at i3 i4 zc1 zd1).mono ?_); rw [HX2.out, HY2.out]; rintro e wb ⟨A7, n7, c7, A8, n8, c8, rfl, d7, d8, g7⟩; have Kb := ((Ka.call g7).add d8).add d7; clear p0 p1 p2 p3 p4 p5 p6 p7; obtain ⟨_, ⟨p4, p5, p6, p7⟩, ⟨p0, p1, p2, p3⟩, _⟩ := Kb.facts; obtain ⟨f0, f1, f2, f3⟩ := Kb.free (i := 1) rfl; obtain ⟨f4, f5, f6, f7⟩ := Kb.free (i := 2) rfl) | fail)
        (try go_wp2_with fail)
        refine hK.out _ _ ?_ (fun hHeld4 => ?_)
        · (first | trivial | ((try dsimp only); go_keep))
        clear hK K hHeld3
        (try simp only [Act.put, List.setIfInBounds_toArray, List.set_cons_zero, List.set_cons_succ])
        refine wpAnyH_ready (rs := [4]) (by kernel_rfl) (by simp) ?_
        refine AllReadyH.cons (o := ⟨none, _, _, _, _, _⟩) rfl (fun K hK => ?_) AllReadyH.nil
        go_simp
        refine hK.out _ _ ?_ (fun hHeld5 => ?_)
        · (first | trivial | ((try dsimp only); go_keep))
        clear hK K hHeld4
        (try simp only [Act.put, List.setIfInBounds_toArray, List.set_cons_zero, List.set_cons_succ])
        refine wpAnyH_ready (rs := [5]) (by kernel_rfl) (by simp) ?_
        refine AllReadyH.cons (o := ⟨none, _, _, _, _, _⟩) rfl (fun K hK => ?_) AllReadyH.nil
        go_simp
        refine hK.out _ _ ?_ (fun hHeld6 => ?_)
        · (first | trivial | ((try dsimp only); go_keep))
        clear hK K hHeld5
        (try simp only [Act.put, List.setIfInBounds_toArray, List.set_cons_zero, List.set_cons_succ])
        refine wpAnyH_done (by kernel_rfl) ?_ _
        go_wp2_with fail
        go_meet
        have KF := (Kb.put4 2 rfl (decide (x1 < 0)) A5 n5 c5 (decide (y1 < 0)) A6 n6 c6).put4 1 rfl (decide (x2 < 0)) A7 n7 c7 (decide (y2 < 0)) A8 n8 c8
        simp only [List.set] at KF
        exact ⟨A5, n5, c5, A6, n6, c6, A7, n7, c7, A8, n8, c8, KF.ints_ ⟨KF.ints.1, KF.ints.2.1, KF.ints.2.2.1, KF.ints.2.2.2.1, trivial⟩⟩
      refine AllReadyH.cons (o := ⟨some 8, _, _, _, _, _⟩) rfl (fun K hK => ?_) AllReadyH.nil
      go_simp
      refine hK.out _ _ ?_ (fun hHeld2 => ?_)
      · (first | trivial | ((try dsimp only); go_keep))
      clear hK K hHeld1
      (try simp only [Act.put, List.setIfInBounds_toArray, List.set_cons_zero, List.set_cons_succ])
      refine wpAnyH_ready (rs := [1]) (by kernel_rfl) (by simp) ?_
      refine AllReadyH.cons (o := ⟨some 7, _, _, _, _, _⟩) rfl (fun K hK => ?_) AllReadyH.nil
      go_simp
      (first | (go_at_call_of 27 (Value.agg #[Value.bool s1, Value.slice A1 n1 c1, Value.bool s2, Value.slice A2 n2 c2]); (with_reducible refine (reduce_at i1 i2 za1 zb1).mono ?_); rw [HX1.out, HY1.out]; rintro e wa ⟨A5, n5, c5, A6, n6, c6, rfl, d5, d6, g5⟩; have Ka := ((Kd.call g5).add d6).add d5; clear p0 p1 p2 p3 p4 p5 p6 p7; obtain ⟨_, ⟨p4, p5, p6, p7⟩, ⟨p0, p1, p2, p3⟩, _⟩ := Ka.facts; have i3 := Ka.ints.2.2.2.1.i; have i4 := Ka.ints.2.2.1.i) | (go_at_call_of 27 (Value.agg #[Value.bool s3, Value.slice A3 n3 c3, Value.bool s4, Value.slice A4 n4 c4]); (with_reducible refine (reduce_at i3 i4 zc1 zd1).mono ?_); rw [HX2.out, HY2.out]; rintro e wb ⟨A7, n7, c7, A8, n8, c8, rfl, d7, d8, g7⟩; have Kb := ((Ka.call g7).add d8).add d7; clear p0 p1 p2 p3 p4 p5 p6 p7; obtain ⟨_, ⟨p4, p5, p6, p7⟩, ⟨p0, p1, p2, p3⟩, _⟩ := Kb.facts; obtain ⟨f0, f1, f2, f3⟩ := Kb.free (i := 1) rfl; obtain ⟨f4, f5, f6, f7⟩ := Kb.free (i := 2) rfl) | fail)
      (try go_wp2_with fail)
      refine hK.out _ _ ?_ (fun hHeld3 => ?_)
      · (first | trivial | ((try dsimp only); go_keep))
      clear hK K hHeld2
      (try simp only [Act.put, List.setIfInBounds_toArray, List.set_cons_zero, List.set_cons_succ])
      refine wpAnyH_ready (rs := [3]) (by kernel_rfl) (by simp) ?_
      refine AllReadyH.cons (o := ⟨some 9, _, _, _, _, _⟩) rfl (fun K hK => ?_) AllReadyH.nil
      go_simp
      (first | (go_at_call_of 27 (Value.agg #[Value.bool s1, Value.slice A1 n1 c1, Value.bool s2, Value.slice A2 n2 c2]); (with_reducible refine (reduce_at i1 i2 za1 zb1).mono ?_); rw [HX1.out, HY1.out]; rintro e wa ⟨A5, n5, c5, A6, n6, c6, rfl, d5, d6, g5⟩; have Ka := ((Kd.call g5).add d6).add d5; clear p0 p1 p2 p3 p4 p5 p6 p7; obtain ⟨_, ⟨p4, p5, p6, p7⟩, ⟨p0, p1, p2, p3⟩, _⟩ := Ka.facts; have i3 := Ka.ints.2.2.2.1.i; have i4 := Ka.ints.2.2.1.i) | (go_at_call_of 27 (Value.agg #[Value.bool s3, Value.slice A3 n3 c3, Value.bool s4, Value.slice A4 n4 c4]); (with_reducible refine (reduce_at i3 i4 zc1 zd1).mono ?_); rw [HX2.out, HY2.out]; rintro e wb ⟨A7, n7, c7, A8, n8, c8, rfl, d7, d8, g7⟩; have Kb := ((Ka.call g7).add d8).add d7; clear p0 p1 p2 p3 p4 p5 p6 p7; obtain ⟨_, ⟨p4, p5, p6, p7⟩, ⟨p0, p1, p2, p3⟩, _⟩ := Kb.facts; obtain ⟨f0, f1, f2, f3⟩ := Kb.free (i := 1) rfl; obtain ⟨f4, f5, f6, f7⟩ := Kb.free (i := 2) rfl) | fail)
      (try go_wp2_with fail)
      refine hK.out _ _ ?_ (fun hHeld4 => ?_)
      · (first | trivial | ((try dsimp only); go_keep))
      clear hK K hHeld3
      (try simp only [Act.put, List.setIfInBounds_toArray, List.set_cons_zero, List.set_cons_succ])
      refine wpAnyH_ready (rs := [4]) (by kernel_rfl) (by simp) ?_
      refine AllReadyH.cons (o := ⟨none, _, _, _, _, _⟩) rfl (fun K hK => ?_) AllReadyH.nil
      go_simp
      refine hK.out _ _ ?_ (fun hHeld5 => ?_)
      · (first | trivial | ((try dsimp only); go_keep))
      clear hK K hHeld4
      (try simp only [Act.put, List.setIfInBounds_toArray, List.set_cons_zero, List.set_cons_succ])
      refine wpAnyH_ready (rs := [5]) (by kernel_rfl) (by simp) ?_
      refine AllReadyH.cons (o := ⟨none, _, _, _, _, _⟩) rfl (fun K hK => ?_) AllReadyH.nil
      go_simp
      refine hK.out _ _ ?_ (fun hHeld6 => ?_)
      · (first | trivial | ((try dsimp only); go_keep))
      clear hK K hHeld5
      (try simp only [Act.put, List.setIfInBounds_toArray, List.set_cons_zero, List.set_cons_succ])
      refine wpAnyH_done (by kernel_rfl) ?_ _
      go_wp2_with fail
      go_meet
      have KF := (Kb.put4 2 rfl (decide (x1 < 0)) A5 n5 c5 (decide (y1 < 0)) A6 n6 c6).put4 1 rfl (decide (x2 < 0)) A7 n7 c7 (decide (y2 < 0)) A8 n8 c8
      simp only [List.set] at KF
      exact ⟨A5, n5, c5, A6, n6, c6, A7, n7, c7, A8, n8, c8, KF.ints_ ⟨KF.ints.1, KF.ints.2.1, KF.ints.2.2.1, KF.ints.2.2.2.1, trivial⟩⟩
    refine AllReadyH.cons (o := ⟨some 8, _, _, _, _, _⟩) rfl (fun K hK => ?_) AllReadyH.nil
    go_simp
    refine hK.out _ _ ?_ (fun hHeld1 => ?_)
    · (first | trivial | ((try dsimp only); go_keep))
    clear hK K hHeld0
    (try simp only [Act.put, List.setIfInBounds_toArray, List.set_cons_zero, List.set_cons_succ])
    refine wpAnyH_ready (rs := [0]) (by kernel_rfl) (by simp) ?_
    refine AllReadyH.cons (o := ⟨some 6, _, _, _, _, _⟩) rfl (fun K hK => ?_) AllReadyH.nil
    go_simp
    refine hK.out _ _ ?_ (fun hHeld2 => ?_)
    · (first | trivial | ((try dsimp only); go_keep))
    clear hK K hHeld1
    (try simp only [Act.put, List.setIfInBounds_toArray, List.set_cons_zero, List.set_cons_succ])
    refine wpAnyH_ready (rs := [1]) (by kernel_rfl) (by simp) ?_
    refine AllReadyH.cons (o := ⟨some 7, _, _, _, _, _⟩) rfl (fun K hK => ?_) AllReadyH.nil
    go_simp
    (first | (go_at_call_of 27 (Value.agg #[Value.bool s1, Value.slice A1 n1 c1, Value.bool s2, Value.slice A2 n2 c2]); (with_reducible refine (reduce_at i1 i2 za1 zb1).mono ?_); rw [HX1.out, HY1.out]; rintro e wa ⟨A5, n5, c5, A6, n6, c6, rfl, d5, d6, g5⟩; have Ka := ((Kd.call g5).add d6).add d5; clear p0 p1 p2 p3 p4 p5 p6 p7; obtain ⟨_, ⟨p4, p5, p6, p7⟩, ⟨p0, p1, p2, p3⟩, _⟩ := Ka.facts; have i3 := Ka.ints.2.2.2.1.i; have i4 := Ka.ints.2.2.1.i) | (go_at_call_of 27 (Value.agg #[Value.bool s3, Value.slice A3 n3 c3, Value.bool s4, Value.slice A4 n4 c4]); (with_reducible refine (reduce_at i3 i4 zc1 zd1).mono ?_); rw [HX2.out, HY2.out]; rintro e wb ⟨A7, n7, c7, A8, n8, c8, rfl, d7, d8, g7⟩; have Kb := ((Ka.call g7).add d8).add d7; clear p0 p1 p2 p3 p4 p5 p6 p7; obtain ⟨_, ⟨p4, p5, p6, p7⟩, ⟨p0, p1, p2, p3⟩, _⟩ := Kb.facts; obtain ⟨f0, f1, f2, f3⟩ := Kb.free (i := 1) rfl; obtain ⟨f4, f5, f6, f7⟩ := Kb.free (i := 2) rfl) | fail)
    (try go_wp2_with fail)
    refine hK.out _ _ ?_ (fun hHeld3 => ?_)
    · (first | trivial | ((try dsimp only); go_keep))
    clear hK K hHeld2
    (try simp only [Act.put, List.setIfInBounds_toArray, List.set_cons_zero, List.set_cons_succ])
    refine wpAnyH_ready (rs := [3]) (by kernel_rfl) (by simp) ?_
    refine AllReadyH.cons (o := ⟨some 9, _, _, _, _, _⟩) rfl (fun K hK => ?_) AllReadyH.nil
    go_simp
    (first | (go_at_call_of 27 (Value.agg #[Value.bool s1, Value.slice A1 n1 c1, Value.bool s2, Value.slice A2 n2 c2]); (with_reducible refine (reduce_at i1 i2 za1 zb1).mono ?_); rw [HX1.out, HY1.out]; rintro e wa ⟨A5, n5, c5, A6, n6, c6, rfl, d5, d6, g5⟩; have Ka := ((Kd.call g5).add d6).add d5; clear p0 p1 p2 p3 p4 p5 p6 p7; obtain ⟨_, ⟨p4, p5, p6, p7⟩, ⟨p0, p1, p2, p3⟩, _⟩ := Ka.facts; have i3 := Ka.ints.2.2.2.1.i; have i4 := Ka.ints.2.2.1.i) | (go_at_call_of 27 (Value.agg #[Value.bool s3, Value.slice A3 n3 c3, Value.bool s4, Value.slice A4 n4 c4]); (with_reducible refine (reduce_at i3 i4 zc1 zd1).mono ?_); rw [HX2.out, HY2.out]; rintro e wb ⟨A7, n7, c7, A8, n8, c8, rfl, d7, d8, g7⟩; have Kb := ((Ka.call g7).add d8).add d7; clear p0 p1 p2 p3 p4 p5 p6 p7; obtain ⟨_, ⟨p4, p5, p6, p7⟩, ⟨p0, p1, p2, p3⟩, _⟩ := Kb.facts; obtain ⟨f0, f1, f2, f3⟩ := Kb.free (i := 1) rfl; obtain ⟨f4, f5, f6, f7⟩ := Kb.free (i := 2) rfl) | fail)
    (try go_wp2_with fail)
    refine hK.out _ _ ?_ (fun hHeld4 => ?_)
    · (first | trivial | ((try dsimp only); go_keep))
    clear hK K hHeld3
    (try simp only [Act.put, List.setIfInBounds_toArray, List.set_cons_zero, List.set_cons_succ])
    refine wpAnyH_ready (rs := [4]) (by kernel_rfl) (by simp) ?_
    refine AllReadyH.cons (o := ⟨none, _, _, _, _, _⟩) rfl (fun K hK => ?_) AllReadyH.nil
    go_simp
    refine hK.out _ _ ?_ (fun hHeld5 => ?_)
    · (first | trivial | ((try dsimp only); go_keep))
    clear hK K hHeld4
    (try simp only [Act.put, List.setIfInBounds_toArray, List.set_cons_zero, List.set_cons_succ])
    refine wpAnyH_ready (rs := [5]) (by kernel_rfl) (by simp) ?_
    refine AllReadyH.cons (o := ⟨none, _, _, _, _, _⟩) rfl (fun K hK => ?_) AllReadyH.nil
    go_simp
    refine hK.out _ _ ?_ (fun hHeld6 => ?_)
    · (first | trivial | ((try dsimp only); go_keep))
    clear hK K hHeld5
    (try simp only [Act.put, List.setIfInBounds_toArray, List.set_cons_zero, List.set_cons_succ])
    refine wpAnyH_done (by kernel_rfl) ?_ _
    go_wp2_with fail
    go_meet
    have KF := (Kb.put4 2 rfl (decide (x1 < 0)) A5 n5 c5 (decide (y1 < 0)) A6 n6 c6).put4 1 rfl (decide (x2 < 0)) A7 n7 c7 (decide (y2 < 0)) A8 n8 c8
    simp only [List.set] at KF
    exact ⟨A5, n5, c5, A6, n6, c6, A7, n7, c7, A8, n8, c8, KF.ints_ ⟨KF.ints.1, KF.ints.2.1, KF.ints.2.2.1, KF.ints.2.2.2.1, trivial⟩⟩
  case rest =>
  clear KC
  obtain ⟨A5, n5, c5, A6, n6, c6, A7, n7, c7, A8, n8, c8, KC⟩ := hcut
  obtain ⟨⟨t00, t01, t02, t03⟩, ⟨t10, t11, t12, t13⟩, ⟨t20, t21, t22, t23⟩, _⟩ := KC.facts
  obtain ⟨f0, f1, f2, f3⟩ := KC.free (i := 0) rfl
  by_cases hE : x2 * y1 < x1 * y2
  · have hv : Hid (cv = 1) := by unfold Hid; rw [hcv.out]; exact cmpI_gt hE
    have q1 : (smQ x1 y1 x2 y2).1 = 0 ∧ (smQ x1 y1 x2 y2).2 = 0 ∧ smE x1 y1 x2 y2 = 8 := by unfold smQ smE; simp [hE]
    rw [HXa.out, HYa.out, HZa.out] at q1
    obtain ⟨rfl, rfl, rfl⟩ := q1
    clear hE
    go_wp2_with (first
      | (go_at_call 28; have j1 := KC.ints.2.2.1.ci kx1; have j2 := KC.ints.2.2.2.1.ci ky1; have j3 := KC.ints.1.ci kx2; have j4 := KC.ints.2.1.ci ky2; (with_reducible refine (rcompareF_at j1 j2 j3 j4 zx1_9 zy1_9 zx2_9 zy2_9).mono ?_); rw [HCV.out, hv.out]; rintro e1 w1 ⟨rfl, g1⟩; have K1 := KC.call g1; clear j1 j2 j3 j4; clear t00 t01 t02 t03 t10 t11 t12 t13 t20 t21 t22 t23 f0 f1 f2 f3; obtain ⟨⟨t00, t01, t02, t03⟩, ⟨t10, t11, t12, t13⟩, ⟨t20, t21, t22, t23⟩, _⟩ := K1.facts; obtain ⟨f0, f1, f2, f3⟩ := K1.free (i := 0) rfl)
      | fail)
    have KR := ((K1.put4 0 rfl false none 0 0 false none 0 0).add (CanAt.zero_ _)).add (CanAt.zero_ _)
    simp only [List.set] at KR
    obtain ⟨⟨r0, r1, r2, r3⟩, _⟩ := KR.facts
    exact bodyPost_ret (v := .tuple #[.agg #[.bool (decide ((0 : Int) < 0)), .slice none 0 0, .bool (decide ((0 : Int) < 0)), .slice none 0 0], .int .i64 8]) (by simp [results, Try.results8, go_sem, r0, r1, r2, r3]) rfl (RetFE.of_st (x := 0) (y := 0) KR)
  have hvl : Hid (cv ≤ 0) := by
    unfold Hid; rw [hcv.out]; unfold cmpI; split <;> (try split) <;> omega
  have hvl' : ¬ 0 < cv := by have := hvl.out; omega
  have hEE : smE x1 y1 x2 y2 = 0 := by unfold smE; rw [if_neg hE]
  rw [HZa.out] at hEE
  subst hEE
  by_cases hp : 0 < x1
  · have h4 := pos4_of CP1.out CP2.out hE hp
    have g1_ : Hid (sg1 = 1) := by unfold Hid; rw [hsg1.out]; exact sgn_p hp
    have g2_ : Hid (sg2 = 1) := by unfold Hid; rw [hsg2.out]; exact sgn_p h4.pc
    have hq : smQ x1 y1 x2 y2 = smP x1 y1 x2 y2 := by unfold smQ; rw [if_neg hE, if_pos hp]
    have hs := fun (w : World) (s1 s2 s3 s4 : Bool) (A1 A2 A3 A4 : Option Addr) (n1 c1 n2 c2 n3 c3 n4 c4 : Nat) (h1 : IntAt w s1 A1 n1 c1 x1) (h2 : IntAt w s2 A2 n2 c2 y1) (h3 : IntAt w s3 A3 n3 c3 x2) (h4' : IntAt w s4 A4 n4 c4 y2) => rsimp_at (smK y1 y2) h1 h2 h3 h4' zx1 zy1 zx2 zy2 h4 CP1.out.one CP2.out.one (by unfold smK; have := CP1.out.pos; have := CP2.out.pos; omega)
    obtain ⟨P, HP⟩ : ∃ v, Hid ((smP x1 y1 x2 y2).1 = v) := ⟨_, rfl⟩
    obtain ⟨Q, HQ⟩ : ∃ v, Hid ((smP x1 y1 x2 y2).2 = v) := ⟨_, rfl⟩
    have HPQ : Hid ((simpl (smK y1 y2) x1 y1 x2 y2).1 = P ∧ (simpl (smK y1 y2) x1 y1 x2 y2).2 = Q) := ⟨HP.out, HQ.out⟩
    have hXP : X = P := by rw [← HXa.out, hq]; exact HP.out
    have hYQ : Y = Q := by rw [← HYa.out, hq]; exact HQ.out
    subst hXP hYQ
    clear h4 hq hp hE
    go_wp2_with (first
      | (go_at_call 28; have j1 := KC.ints.2.2.1.ci kx1; have j2 := KC.ints.2.2.2.1.ci ky1; have j3 := KC.ints.1.ci kx2; have j4 := KC.ints.2.1.ci ky2; (with_reducible refine (rcompareF_at j1 j2 j3 j4 zx1_9 zy1_9 zx2_9 zy2_9).mono ?_); rw [HCV.out]; rintro e1 w1 ⟨rfl, g1⟩; have K1 := KC.call g1; clear j1 j2 j3 j4; clear t00 t01 t02 t03 t10 t11 t12 t13 t20 t21 t22 t23 f0 f1 f2 f3; obtain ⟨⟨t00, t01, t02, t03⟩, ⟨t10, t11, t12, t13⟩, ⟨t20, t21, t22, t23⟩, _⟩ := K1.facts; obtain ⟨f0, f1, f2, f3⟩ := K1.free (i := 0) rfl)
      | (go_at_call_of 29 (Value.agg #[Value.bool (decide (x1 < 0)), Value.slice A5 n5 c5, Value.bool (decide (y1 < 0)), Value.slice A6 n6 c6]); have j1 := K1.ints.2.2.1.ci kx1; have j2 := K1.ints.2.2.2.1.ci ky1; (with_reducible refine (rsignF_at j1 j2 zx1_19 zy1_19).mono ?_); rw [HSG1.out, g1_.out]; rintro e2 gaw ⟨rfl, ga⟩; have K2 := K1.call ga; clear j1 j2; clear t00 t01 t02 t03 t10 t11 t12 t13 t20 t21 t22 t23 f0 f1 f2 f3; obtain ⟨⟨t00, t01, t02, t03⟩, ⟨t10, t11, t12, t13⟩, ⟨t20, t21, t22, t23⟩, _⟩ := K2.facts; obtain ⟨f0, f1, f2, f3⟩ := K2.free (i := 0) rfl)
      | (go_at_call_of 29 (Value.agg #[Value.bool (decide (x2 < 0)), Value.slice A7 n7 c7, Value.bool (decide (y2 < 0)), Value.slice A8 n8 c8]); have j1 := K2.ints.1.ci kx2; have j2 := K2.ints.2.1.ci ky2; (with_reducible refine (rsignF_at j1 j2 zx2_19 zy2_19).mono ?_); rw [HSG2.out, g2_.out]; rintro e2 gbw ⟨rfl, gb⟩; have K3 := K2.call gb; clear j1 j2; clear t00 t01 t02 t03 t10 t11 t12 t13 t20 t21 t22 t23 f0 f1 f2 f3; obtain ⟨⟨t00, t01, t02, t03⟩, ⟨t10, t11, t12, t13⟩, ⟨t20, t21, t22, t23⟩, _⟩ := K3.facts; obtain ⟨f0, f1, f2, f3⟩ := K3.free (i := 0) rfl)
      | (go_at_call 32; have j1 := K3.ints.2.2.1.ci kx1; have j2 := K3.ints.2.2.2.1.ci ky1; have j3 := K3.ints.1.ci kx2; have j4 := K3.ints.2.1.ci ky2; (with_reducible refine (hs _ _ _ _ _ _ _ _ _ _ _ _ _ _ _ _ _ j1 j2 j3 j4).mono ?_); rw [HPQ.out.1, HPQ.out.2]; rintro e9 w9 ⟨D1, l1, e1, D2, l2, e2, rfl, v1, v2, g9⟩; have KE := ((K3.call g9).add v2).add v1; clear j1 j2 j3 j4; clear t00 t01 t02 t03 t10 t11 t12 t13 t20 t21 t22 t23 f0 f1 f2 f3; obtain ⟨⟨t00, t01, t02, t03⟩, ⟨t10, t11, t12, t13⟩, ⟨t20, t21, t22, t23⟩, _⟩ := KE.facts; obtain ⟨f0, f1, f2, f3⟩ := KE.free (i := 0) rfl)
      | fail)
    have KR := KE.put4 0 rfl (decide (X < 0)) D1 l1 e1 (decide (Y < 0)) D2 l2 e2
    simp only [List.set] at KR
    obtain ⟨⟨r0, r1, r2, r3⟩, _⟩ := KR.facts
    exact bodyPost_ret (v := .tuple #[.agg #[.bool (decide (X < 0)), .slice D1 l1 e1, .bool (decide (Y < 0)), .slice D2 l2 e2], .int .i64 0]) (by simp [results, Try.results8, go_sem, r0, r1, r2, r3]) rfl (RetFE.of_st KR)
  by_cases hn : x2 < 0
  · have hx := neg_lt CP1.out CP2.out hE hn
    have h4 := pos4_of CP2.out.neg CP1.out.neg (neg_le hE) (show 0 < -x2 by omega)
    have g1_ : Hid (sg1 = -1) := by unfold Hid; rw [hsg1.out]; exact sgn_n hx
    have g2_ : Hid (sg2 = -1) := by unfold Hid; rw [hsg2.out]; exact sgn_n hn
    obtain ⟨u1, HU1⟩ : ∃ v, Hid (rn (-x2) y2 = v) := ⟨_, rfl⟩
    obtain ⟨v1, HV1⟩ : ∃ v, Hid (rd (-x2) y2 = v) := ⟨_, rfl⟩
    obtain ⟨u2, HU2⟩ : ∃ v, Hid (rn (-x1) y1 = v) := ⟨_, rfl⟩
    obtain ⟨v2, HV2⟩ : ∃ v, Hid (rd (-x1) y1 = v) := ⟨_, rfl⟩
    have r1_ := r_self CP2.out.neg.pos CP2.out.neg.one
    have r2_ := r_self CP1.out.neg.pos CP1.out.neg.one
    have e1_ : u1 = -x2 := by rw [← HU1.out]; exact r1_.1
    have e2_ : v1 = y2 := by rw [← HV1.out]; exact r1_.2
    have e3_ : u2 = -x1 := by rw [← HU2.out]; exact r2_.1
    have e4_ : v2 = y1 := by rw [← HV2.out]; exact r2_.2
    have zu1 : Sz u1 100 := by rw [e1_]; exact zx2.neg
    have zv1 : Sz v1 100 := by rw [e2_]; exact zy2
    have zu2 : Sz u2 100 := by rw [e3_]; exact zx1.neg
    have zv2 : Sz v2 100 := by rw [e4_]; exact zy1
    have ku1 := zu1.ok
    have kv1 := zv1.ok
    have ku2 := zu2.ok
    have kv2 := zv2.ok
    have h4' : Pos4 u1 v1 u2 v2 := by rw [e1_, e2_, e3_, e4_]; exact h4
    have hgu : Int.gcd u1 v1 = 1 := by rw [e1_, e2_]; exact CP2.out.neg.one
    have hgv : Int.gcd u2 v2 = 1 := by rw [e3_, e4_]; exact CP1.out.neg.one
    have hfu : v1 + v2 ≤ (smK y2 y1 : Nat) := by rw [e2_, e4_]; unfold smK; have := CP1.out.pos; have := CP2.out.pos; omega
    have hso := simpl_ok (smK y2 y1) u1 v1 u2 v2 h4' hfu
    have hle := hso.le_lo h4'
    have hs := fun (w : World) (s1 s2 s3 s4 : Bool) (A1 A2 A3 A4 : Option Addr) (n1 c1 n2 c2 n3 c3 n4 c4 : Nat) (h1 : IntAt w s1 A1 n1 c1 u1) (h2 : IntAt w s2 A2 n2 c2 v1) (h3 : IntAt w s3 A3 n3 c3 u2) (h4'' : IntAt w s4 A4 n4 c4 v2) => rsimp_at (smK y2 y1) h1 h2 h3 h4'' zu1 zv1 zu2 zv2 h4' hgu hgv hfu
    obtain ⟨P, HP⟩ : ∃ v, Hid ((simpl (smK y2 y1) u1 v1 u2 v2).1 = v) := ⟨_, rfl⟩
    obtain ⟨Q, HQ⟩ : ∃ v, Hid ((simpl (smK y2 y1) u1 v1 u2 v2).2 = v) := ⟨_, rfl⟩
    rw [HP.out, HQ.out] at hso hle
    have zP : Sz P 100 := zu1.le (by have := hso.pp; omega)
    have zQ : Sz Q 100 := zv1.le (by have := hso.pq; omega)
    have zP_19 : Sz P 1900 := zP.mono (by decide)
    have zQ_19 : Sz Q 1900 := zQ.mono (by decide)
    have kP := zP.ok
    have kQ := zQ.ok
    have cpq : Cp P Q := ⟨hso.pq, hso.gcd⟩
    obtain ⟨fp, HF1⟩ : ∃ v, Hid (rn (-P) Q = v) := ⟨_, rfl⟩
    obtain ⟨fq, HF2⟩ : ∃ v, Hid (rd (-P) Q = v) := ⟨_, rfl⟩
    have r3_ := r_self cpq.neg.pos cpq.neg.one
    have hq : (smQ x1 y1 x2 y2).1 = fp ∧ (smQ x1 y1 x2 y2).2 = fq := by
      unfold smQ smP
      rw [if_neg hE, if_neg hp, if_pos hn, ← HF1.out, ← HF2.out, r3_.1, r3_.2, ← HP.out, ← HQ.out, e1_, e2_, e3_, e4_]
      exact ⟨rfl, rfl⟩
    rw [HXa.out, HYa.out] at hq
    obtain ⟨rfl, rfl⟩ := hq
    clear r1_ r2_ r3_ e1_ e2_ e3_ e4_ h4 h4' hgu hgv hfu hso hle cpq hn hp hE hx
    go_upto_region 7 with (first
      | (go_at_call 28; have j1 := KC.ints.2.2.1.ci kx1; have j2 := KC.ints.2.2.2.1.ci ky1; have j3 := KC.ints.1.ci kx2; have j4 := KC.ints.2.1.ci ky2; (with_reducible refine (rcompareF_at j1 j2 j3 j4 zx1_9 zy1_9 zx2_9 zy2_9).mono ?_); rw [HCV.out]; rintro e1 w1 ⟨rfl, g1⟩; have K1 := KC.call g1; clear j1 j2 j3 j4; clear t00 t01 t02 t03 t10 t11 t12 t13 t20 t21 t22 t23 f0 f1 f2 f3; obtain ⟨⟨t00, t01, t02, t03⟩, ⟨t10, t11, t12, t13⟩, ⟨t20, t21, t22, t23⟩, _⟩ := K1.facts; obtain ⟨f0, f1, f2, f3⟩ := K1.free (i := 0) rfl)
      | (go_at_call_of 29 (Value.agg #[Value.bool (decide (x1 < 0)), Value.slice A5 n5 c5, Value.bool (decide (y1 < 0)), Value.slice A6 n6 c6]); have j1 := K1.ints.2.2.1.ci kx1; have j2 := K1.ints.2.2.2.1.ci ky1; (with_reducible refine (rsignF_at j1 j2 zx1_19 zy1_19).mono ?_); rw [HSG1.out, g1_.out]; rintro e2 gaw ⟨rfl, ga⟩; have K2 := K1.call ga; clear j1 j2; clear t00 t01 t02 t03 t10 t11 t12 t13 t20 t21 t22 t23 f0 f1 f2 f3; obtain ⟨⟨t00, t01, t02, t03⟩, ⟨t10, t11, t12, t13⟩, ⟨t20, t21, t22, t23⟩, _⟩ := K2.facts; obtain ⟨f0, f1, f2, f3⟩ := K2.free (i := 0) rfl)
      | (go_at_call_of 29 (Value.agg #[Value.bool (decide (x2 < 0)), Value.slice A7 n7 c7, Value.bool (decide (y2 < 0)), Value.slice A8 n8 c8]); have j1 := K3.ints.1.ci kx2; have j2 := K3.ints.2.1.ci ky2; (with_reducible refine (rsignF_at j1 j2 zx2_19 zy2_19).mono ?_); rw [HSG2.out, g2_.out]; rintro e2 gcw ⟨rfl, gc⟩; have K4 := K3.call gc; clear j1 j2; clear t00 t01 t02 t03 t10 t11 t12 t13 t20 t21 t22 t23 f0 f1 f2 f3; obtain ⟨⟨t00, t01, t02, t03⟩, ⟨t10, t11, t12, t13⟩, ⟨t20, t21, t22, t23⟩, _⟩ := K4.facts; obtain ⟨f0, f1, f2, f3⟩ := K4.free (i := 0) rfl)
      | (go_at_call_of 29 (Value.agg #[Value.bool (decide (x2 < 0)), Value.slice A7 n7 c7, Value.bool (decide (y2 < 0)), Value.slice A8 n8 c8]); have j1 := K2.ints.1.ci kx2; have j2 := K2.ints.2.1.ci ky2; (with_reducible refine (rsignF_at j1 j2 zx2_19 zy2_19).mono ?_); rw [HSG2.out, g2_.out]; rintro e2 gbw ⟨rfl, gb⟩; have K3 := K2.call gb; clear j1 j2; clear t00 t01 t02 t03 t10 t11 t12 t13 t20 t21 t22 t23 f0 f1 f2 f3; obtain ⟨⟨t00, t01, t02, t03⟩, ⟨t10, t11, t12, t13⟩, ⟨t20, t21, t22, t23⟩, _⟩ := K3.facts; obtain ⟨f0, f1, f2, f3⟩ := K3.free (i := 0) rfl)
      | fail)
    clear KC K1 K2 K3 g1 ga gb gc
    have Kd := K4.drew
    clear K4 t00 t01 t02 t03 t10 t11 t12 t13 t20 t21 t22 t23 f0 f1 f2 f3
    obtain ⟨⟨t00, t01, t02, t03⟩, ⟨t10, t11, t12, t13⟩, ⟨t20, t21, t22, t23⟩, _⟩ := Kd.facts
    obtain ⟨f0, f1, f2, f3⟩ := Kd.free (i := 0) rfl
    obtain ⟨n0a, n0b⟩ := Kd.ne 0 1 rfl rfl (by decide)
    obtain ⟨n1a, n1b⟩ := Kd.ne 0 2 rfl rfl (by decide)
    have j1 := Kd.ints.1.ci kx2
    have j2 := Kd.ints.2.1.ci ky2
    have HNA : Hid (rn (-x2) y2 = u1 ∧ rd (-x2) y2 = v1) := ⟨HU1.out, HV1.out⟩
    have HNB : Hid (rn (-x1) y1 = u2 ∧ rd (-x1) y1 = v2) := ⟨HU2.out, HV2.out⟩
    go_region_held3 (fun w' => w'.cell? ⟨w.heap.size + 1, 0, none⟩ = some (.bool (decide (x2 < 0))) ∧ w'.cell? ⟨w.heap.size + 1, 1, none⟩ = some (.slice A7 n7 c7) ∧ w'.cell? ⟨w.heap.size + 1, 2, none⟩ = some (.bool (decide (y2 < 0))) ∧ w'.cell? ⟨w.heap.size + 1, 3, none⟩ = some (.slice A8 n8 c8) ∧ w'.cell? ⟨w.heap.size, 0, none⟩ = some (.bool (decide (x1 < 0))) ∧ w'.cell? ⟨w.heap.size, 1, none⟩ = some (.slice A5 n5 c5) ∧ w'.cell? ⟨w.heap.size, 2, none⟩ = some (.bool (decide (y1 < 0))) ∧ w'.cell? ⟨w.heap.size, 3, none⟩ = some (.slice A6 n6 c6))
      (go_keep)
      (first
        | (go_at_call_of 31 (Value.agg #[Value.bool (decide (x2 < 0)), Value.slice A7 n7 c7, Value.bool (decide (y2 < 0)), Value.slice A8 n8 c8]); (with_reducible refine (rnegF_at j1 j2 zx2_19 zy2_19).mono ?_); rw [HNA.out.1, HNA.out.2]; rintro ea wa ⟨C1, l1, q1, C2, l2, q2, rfl, d1, d2, ga⟩; have Ka := ((Kd.call ga).add d2).add d1; clear t00 t01 t02 t03 t10 t11 t12 t13 t20 t21 t22 t23 f0 f1 f2 f3; obtain ⟨⟨t00, t01, t02, t03⟩, ⟨t10, t11, t12, t13⟩, ⟨t20, t21, t22, t23⟩, _⟩ := Ka.facts; obtain ⟨f0, f1, f2, f3⟩ := Ka.free (i := 0) rfl; have j3 := Ka.ints.2.2.2.2.1.ci kx1; have j4 := Ka.ints.2.2.2.2.2.1.ci ky1)
        | (go_at_call_of 31 (Value.agg #[Value.bool (decide (x1 < 0)), Value.slice A5 n5 c5, Value.bool (decide (y1 < 0)), Value.slice A6 n6 c6]); (with_reducible refine (rnegF_at j3 j4 zx1_19 zy1_19).mono ?_); rw [HNB.out.1, HNB.out.2]; rintro eb wb ⟨C3, l3, q3, C4, l4, q4, rfl, d3, d4, gb⟩; have Kb := ((Ka.call gb).add d4).add d3; clear t00 t01 t02 t03 t10 t11 t12 t13 t20 t21 t22 t23 f0 f1 f2 f3; obtain ⟨⟨t00, t01, t02, t03⟩, ⟨t10, t11, t12, t13⟩, ⟨t20, t21, t22, t23⟩, _⟩ := Kb.facts; obtain ⟨f0, f1, f2, f3⟩ := Kb.free (i := 0) rfl; have i1 := Kb.ints.2.2.1.ci ku1; have i2 := Kb.ints.2.2.2.1.ci kv1; have i3 := Kb.ints.1.ci ku2; have i4 := Kb.ints.2.1.ci kv2)
        | (go_at_call 32; (with_reducible refine (hs _ _ _ _ _ _ _ _ _ _ _ _ _ _ _ _ _ i1 i2 i3 i4).mono ?_); rw [HP.out, HQ.out]; rintro ec wc ⟨C5, l5, q5, C6, l6, q6, rfl, d5, d6, gc⟩; have Kc := ((Kb.call gc).add d6).add d5; clear t00 t01 t02 t03 t10 t11 t12 t13 t20 t21 t22 t23 f0 f1 f2 f3; obtain ⟨⟨t00, t01, t02, t03⟩, ⟨t10, t11, t12, t13⟩, ⟨t20, t21, t22, t23⟩, _⟩ := Kc.facts; obtain ⟨f0, f1, f2, f3⟩ := Kc.free (i := 0) rfl; have iP := Kc.ints.1.ci kP; have iQ := Kc.ints.2.1.ci kQ)
        | (go_at_call 31; (with_reducible refine (rnegF_at iP iQ zP_19 zQ_19).mono ?_); rw [HF1.out, HF2.out]; rintro ed wd ⟨C7, l7, q7, C8, l8, q8, rfl, d7, d8, gd⟩; have Ke := ((Kc.call gd).add d8).add d7; clear t00 t01 t02 t03 t10 t11 t12 t13 t20 t21 t22 t23 f0 f1 f2 f3; obtain ⟨⟨t00, t01, t02, t03⟩, ⟨t10, t11, t12, t13⟩, ⟨t20, t21, t22, t23⟩, _⟩ := Ke.facts; obtain ⟨f0, f1, f2, f3⟩ := Ke.free (i := 0) rfl)
        | fail)
    all_goals have KR := Ke.put4 0 rfl (decide (X < 0)) C7 l7 q7 (decide (Y < 0)) C8 l8 q8
    all_goals simp only [List.set] at KR
    all_goals obtain ⟨⟨r0, r1, r2, r3⟩, _⟩ := KR.facts
    all_goals go_wp2_with fail
    all_goals exact bodyPost_ret (v := .tuple #[.agg #[.bool (decide (X < 0)), .slice C7 l7 q7, .bool (decide (Y < 0)), .slice C8 l8 q8], .int .i64 0]) (by simp [results, Try.results8, go_sem, r0, r1, r2, r3]) rfl (RetFE.of_st KR)
  have g1_ : Hid (sg1 ≤ 0) := by
    unfold Hid; rw [hsg1.out]; unfold sgn cmpI; split <;> (try split) <;> omega
  have g2_ : Hid (0 ≤ sg2) := by
    unfold Hid; rw [hsg2.out]; unfold sgn cmpI; split <;> (try split) <;> omega
  have g1o := g1_.out
  have g2o := g2_.out
  obtain ⟨u, HU⟩ : ∃ v, Hid (rn 0 1 = v) := ⟨_, rfl⟩
  obtain ⟨v, HV⟩ : ∃ v, Hid (rd 0 1 = v) := ⟨_, rfl⟩
  have hq : (smQ x1 y1 x2 y2).1 = u ∧ (smQ x1 y1 x2 y2).2 = v := by
    unfold smQ
    rw [if_neg hE, if_neg hp, if_neg hn, ← HU.out, ← HV.out, (whole_self 0).1, (whole_self 0).2]
    exact ⟨rfl, rfl⟩
  rw [HXa.out, HYa.out] at hq
  obtain ⟨rfl, rfl⟩ := hq
  clear hn hp hE
  go_wp2_with (first
    | (go_at_call 28; have j1 := KC.ints.2.2.1.ci kx1; have j2 := KC.ints.2.2.2.1.ci ky1; have j3 := KC.ints.1.ci kx2; have j4 := KC.ints.2.1.ci ky2; (with_reducible refine (rcompareF_at j1 j2 j3 j4 zx1_9 zy1_9 zx2_9 zy2_9).mono ?_); rw [HCV.out]; rintro e1 w1 ⟨rfl, g1⟩; have K1 := KC.call g1; clear j1 j2 j3 j4; clear t00 t01 t02 t03 t10 t11 t12 t13 t20 t21 t22 t23 f0 f1 f2 f3; obtain ⟨⟨t00, t01, t02, t03⟩, ⟨t10, t11, t12, t13⟩, ⟨t20, t21, t22, t23⟩, _⟩ := K1.facts; obtain ⟨f0, f1, f2, f3⟩ := K1.free (i := 0) rfl)
    | (go_at_call_of 29 (Value.agg #[Value.bool (decide (x1 < 0)), Value.slice A5 n5 c5, Value.bool (decide (y1 < 0)), Value.slice A6 n6 c6]); have j1 := K1.ints.2.2.1.ci kx1; have j2 := K1.ints.2.2.2.1.ci ky1; (with_reducible refine (rsignF_at j1 j2 zx1_19 zy1_19).mono ?_); rw [HSG1.out]; rintro e2 gaw ⟨rfl, ga⟩; have K2 := K1.call ga; clear j1 j2; clear t00 t01 t02 t03 t10 t11 t12 t13 t20 t21 t22 t23 f0 f1 f2 f3; obtain ⟨⟨t00, t01, t02, t03⟩, ⟨t10, t11, t12, t13⟩, ⟨t20, t21, t22, t23⟩, _⟩ := K2.facts; obtain ⟨f0, f1, f2, f3⟩ := K2.free (i := 0) rfl)
    | (go_at_call_of 29 (Value.agg #[Value.bool (decide (x2 < 0)), Value.slice A7 n7 c7, Value.bool (decide (y2 < 0)), Value.slice A8 n8 c8]); have j1 := K2.ints.1.ci kx2; have j2 := K2.ints.2.1.ci ky2; (with_reducible refine (rsignF_at j1 j2 zx2_19 zy2_19).mono ?_); rw [HSG2.out]; rintro e2 gbw ⟨rfl, gb⟩; have K3 := K2.call gb; clear j1 j2; clear t00 t01 t02 t03 t10 t11 t12 t13 t20 t21 t22 t23 f0 f1 f2 f3; obtain ⟨⟨t00, t01, t02, t03⟩, ⟨t10, t11, t12, t13⟩, ⟨t20, t21, t22, t23⟩, _⟩ := K3.facts; obtain ⟨f0, f1, f2, f3⟩ := K3.free (i := 0) rfl)
    | (go_at_call 30; (with_reducible refine (whole_any 0 (by decide) (by decide) _).mono ?_); rw [HU.out, HV.out]; rintro e9 w9 ⟨D1, l1, e1, D2, l2, e2, rfl, v1, v2, g9⟩; have KE := ((K3.call g9).add v2).add v1; clear t00 t01 t02 t03 t10 t11 t12 t13 t20 t21 t22 t23 f0 f1 f2 f3; obtain ⟨⟨t00, t01, t02, t03⟩, ⟨t10, t11, t12, t13⟩, ⟨t20, t21, t22, t23⟩, _⟩ := KE.facts; obtain ⟨f0, f1, f2, f3⟩ := KE.free (i := 0) rfl)
    | fail)
  have KR := KE.put4 0 rfl (decide (X < 0)) D1 l1 e1 (decide (Y < 0)) D2 l2 e2
  simp only [List.set] at KR
  obtain ⟨⟨r0, r1, r2, r3⟩, _⟩ := KR.facts
  exact bodyPost_ret (v := .tuple #[.agg #[.bool (decide (X < 0)), .slice D1 l1 e1, .bool (decide (Y < 0)), .slice D2 l2 e2], .int .i64 0]) (by simp [results, Try.results8, go_sem, r0, r1, r2, r3]) rfl (RetFE.of_st KR)
end Go.Proofs.Ytgjkgmlcfieodaa

