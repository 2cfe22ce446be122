/-
  The arithmetic of fractions, by the reference.
-/
import Derived.Test.YtgjkgmlcfieodaaRfrac
import Derived.Test.YtgjkgmlcfieodaaFrcC
set_option linter.unusedVariables false
set_option linter.unusedSimpArgs false
namespace Go.Proofs.Ytgjkgmlcfieodaa
open Go.RowKit

theorem field_num (s s' : Bool) (A A' : Option Addr) (n c n' c' : Nat) (w : World) : (Instr.field 26 (.agg #[.bool s, .slice A n c, .bool s', .slice A' n' c']) 0).run Try.prog w = .ok (.agg #[.bool s, .slice A n c]) w := by kernel_rfl
theorem field_den (s s' : Bool) (A A' : Option Addr) (n c n' c' : Nat) (w : World) : (Instr.field 26 (.agg #[.bool s, .slice A n c, .bool s', .slice A' n' c']) 1).run Try.prog w = .ok (.agg #[.bool s', .slice A' n' c']) w := by kernel_rfl

set_option maxHeartbeats 8000000 in
set_option maxRecDepth 100000 in
theorem rcompareF_at {w : World} {s1 s2 s3 s4 : Bool} {A1 A2 A3 A4 : Option Addr} {n1 c1 n2 c2 n3 c3 n4 c4 : Nat} {a b c d : Int} (h1 : IntAt w s1 A1 n1 c1 a) (h2 : IntAt w s2 A2 n2 c2 b) (h3 : IntAt w s3 A3 n3 c3 c) (h4 : IntAt w s4 A4 n4 c4 d) (za : Sz a 900) (zb : Sz b 900) (zc : Sz c 900) (zd : Sz d 900) :
    Calls Try.prog 28 #[.agg #[.bool s1, .slice A1 n1 c1, .bool s2, .slice A2 n2 c2], .agg #[.bool s3, .slice A3 n3 c3, .bool s4, .slice A4 n4 c4]] w (RetN w (cmpI (rn a b * rd c d) (rn c d * rd a b))) := by
  have H0 := (((((((St.start w).addI h1).addI h2).addI h3).addI h4).new 26 (Plains.four s1 A1 n1 c1 s2 A2 n2 c2)).new 26 (Plains.four s3 A3 n3 c3 s4 A4 n4 c4))
  (try simp only [World.size_alloc] at H0)
  have HH := Lib.hid H0
  clear H0 h1 h2 h3 h4
  obtain ⟨x1, HX1⟩ : ∃ v, Hid (rn a b = v) := ⟨_, rfl⟩
  obtain ⟨y1, HY1⟩ : ∃ v, Hid (rd a b = v) := ⟨_, rfl⟩
  obtain ⟨x2, HX2⟩ : ∃ v, Hid (rn c d = v) := ⟨_, rfl⟩
  obtain ⟨y2, HY2⟩ : ∃ v, Hid (rd c d = v) := ⟨_, rfl⟩
  have za1 : Sz a 1900 := za.mono (by decide)
  have zb1 : Sz b 1900 := zb.mono (by decide)
  have zc1 : Sz c 1900 := zc.mono (by decide)
  have zd1 : Sz d 1900 := zd.mono (by decide)
  have zx1 : Sz x1 900 := by rw [← HX1.out]; exact sz_rn za
  have zx2 : Sz x2 900 := by rw [← HX2.out]; exact sz_rn zc
  have zy1 : Sz y1 901 := by rw [← HY1.out]; exact sz_rd zb (by decide)
  have zy2 : Sz y2 901 := by rw [← HY2.out]; exact sz_rd zd (by decide)
  have kx1 := zx1.ok
  have kx2 := zx2.ok
  have ky1 := zy1.ok
  have ky2 := zy2.ok
  obtain ⟨p, HP⟩ : ∃ v, Hid (x1 * y2 = v) := ⟨_, rfl⟩
  obtain ⟨q, HQ⟩ : ∃ v, Hid (x2 * y1 = v) := ⟨_, rfl⟩
  obtain ⟨v, HV⟩ : ∃ v, Hid (cmpI p q = v) := ⟨_, rfl⟩
  have kp : (digs p.natAbs).length ≤ 1000000 := by rw [← HP.out]; exact (zx1.mul zy2).ok
  have kq : (digs q.natAbs).length ≤ 1000000 := by rw [← HQ.out]; exact (zx2.mul zy1).ok
  rw [HX1.out, HX2.out, HY1.out, HY2.out, HP.out, HQ.out, HV.out]
  go_enter Try.func28, Try.ntmps28
  go_upto_region 1 with fail
  have KC := HH.out
  clear HH
  go_cut [] (fun wx => ∃ (A5 : Option Addr) (n5 c5 : Nat) (A6 : Option Addr) (n6 c6 : Nat) (A7 : Option Addr) (n7 c7 : Nat) (A8 : Option Addr) (n8 c8 : Nat), St w wx [vf (w.heap.size + 1) (decide (x2 < 0)) A7 n7 c7 (decide (y2 < 0)) A8 n8 c8, vf w.heap.size (decide (x1 < 0)) A5 n5 c5 (decide (y1 < 0)) A6 n6 c6] [(decide (x2 < 0), A7, n7, c7, x2, true), (decide (y2 < 0), A8, n8, c8, y2, true), (decide (x1 < 0), A5, n5, c5, x1, true), (decide (y1 < 0), A6, n6, c6, y1, true)])
  case first =>
    have Kd := KC.drew
    clear KC
    obtain ⟨⟨p4, p5, p6, p7⟩, ⟨p0, p1, p2, p3⟩, _⟩ := Kd.facts
    obtain ⟨z1, z2⟩ := Kd.ne 0 1 rfl rfl (by decide)
    have i1 := Kd.ints.2.2.2.1.i
    have i2 := Kd.ints.2.2.1.i
    skip
    refine wp_region_held_drew (S := fun w' => True) (by kernel_rfl) ?_ (fun hHeld0 => ?_)
    · (first | trivial | ((try dsimp only); go_keep))
    refine wpAnyH_ready (rs := [0, 2]) (by kernel_rfl) (by simp) ?_
    refine AllReadyH.cons (o := ⟨some 5, _, _, _, _, _⟩) rfl (fun K hK => ?_) ?_
    · skip
      go_simp
      refine hK.out _ _ ?_ (fun hHeld1 => ?_)
      · (first | trivial | ((try dsimp only); go_keep))
      clear hK K hHeld0
      (try simp only [Act.put, List.setIfInBounds_toArray, List.set_cons_zero, List.set_cons_succ])
      refine wpAnyH_ready (rs := [1, 2]) (by kernel_rfl) (by simp) ?_
      refine AllReadyH.cons (o := ⟨some 6, _, _, _, _, _⟩) rfl (fun K hK => ?_) ?_
      · skip
        go_simp
        (first | (go_at_call_of 27 (Value.agg #[Value.bool s1, Value.slice A1 n1 c1, Value.bool s2, Value.slice A2 n2 c2]); (with_reducible refine (reduce_at i1 i2 za1 zb1).mono ?_); rw [HX1.out, HY1.out]; rintro e wa ⟨A5, n5, c5, A6, n6, c6, rfl, d5, d6, g5⟩; have Ka := ((Kd.call g5).add d6).add d5; clear p0 p1 p2 p3 p4 p5 p6 p7; obtain ⟨⟨p4, p5, p6, p7⟩, ⟨p0, p1, p2, p3⟩, _⟩ := Ka.facts; have i3 := Ka.ints.2.2.2.1.i; have i4 := Ka.ints.2.2.1.i) | (go_at_call_of 27 (Value.agg #[Value.bool s3, Value.slice A3 n3 c3, Value.bool s4, Value.slice A4 n4 c4]); (with_reducible refine (reduce_at i3 i4 zc1 zd1).mono ?_); rw [HX2.out, HY2.out]; rintro e wb ⟨A7, n7, c7, A8, n8, c8, rfl, d7, d8, g7⟩; have Kb := ((Ka.call g7).add d8).add d7; clear p0 p1 p2 p3 p4 p5 p6 p7; obtain ⟨⟨p4, p5, p6, p7⟩, ⟨p0, p1, p2, p3⟩, _⟩ := Kb.facts; obtain ⟨f0, f1, f2, f3⟩ := Kb.free (i := 0) rfl; obtain ⟨f4, f5, f6, f7⟩ := Kb.free (i := 1) rfl) | fail)
        (try go_wp2_with fail)
        refine hK.out _ _ ?_ (fun hHeld2 => ?_)
        · (first | trivial | ((try dsimp only); go_keep))
        clear hK K hHeld1
        (try simp only [Act.put, List.setIfInBounds_toArray, List.set_cons_zero, List.set_cons_succ])
        refine wpAnyH_ready (rs := [2]) (by kernel_rfl) (by simp) ?_
        refine AllReadyH.cons (o := ⟨some 7, _, _, _, _, _⟩) rfl (fun K hK => ?_) AllReadyH.nil
        go_simp
        refine hK.out _ _ ?_ (fun hHeld3 => ?_)
        · (first | trivial | ((try dsimp only); go_keep))
        clear hK K hHeld2
        (try simp only [Act.put, List.setIfInBounds_toArray, List.set_cons_zero, List.set_cons_succ])
        refine wpAnyH_ready (rs := [3]) (by kernel_rfl) (by simp) ?_
        refine AllReadyH.cons (o := ⟨some 8, _, _, _, _, _⟩) rfl (fun K hK => ?_) AllReadyH.nil
        go_simp
        (first | (go_at_call_of 27 (Value.agg #[Value.bool s1, Value.slice A1 n1 c1, Value.bool s2, Value.slice A2 n2 c2]); (with_reducible refine (reduce_at i1 i2 za1 zb1).mono ?_); rw [HX1.out, HY1.out]; rintro e wa ⟨A5, n5, c5, A6, n6, c6, rfl, d5, d6, g5⟩; have Ka := ((Kd.call g5).add d6).add d5; clear p0 p1 p2 p3 p4 p5 p6 p7; obtain ⟨⟨p4, p5, p6, p7⟩, ⟨p0, p1, p2, p3⟩, _⟩ := Ka.facts; have i3 := Ka.ints.2.2.2.1.i; have i4 := Ka.ints.2.2.1.i) | (go_at_call_of 27 (Value.agg #[Value.bool s3, Value.slice A3 n3 c3, Value.bool s4, Value.slice A4 n4 c4]); (with_reducible refine (reduce_at i3 i4 zc1 zd1).mono ?_); rw [HX2.out, HY2.out]; rintro e wb ⟨A7, n7, c7, A8, n8, c8, rfl, d7, d8, g7⟩; have Kb := ((Ka.call g7).add d8).add d7; clear p0 p1 p2 p3 p4 p5 p6 p7; obtain ⟨⟨p4, p5, p6, p7⟩, ⟨p0, p1, p2, p3⟩, _⟩ := Kb.facts; obtain ⟨f0, f1, f2, f3⟩ := Kb.free (i := 0) rfl; obtain ⟨f4, f5, f6, f7⟩ := Kb.free (i := 1) rfl) | fail)
        (try go_wp2_with fail)
        refine hK.out _ _ ?_ (fun hHeld4 => ?_)
        · (first | trivial | ((try dsimp only); go_keep))
        clear hK K hHeld3
        (try simp only [Act.put, List.setIfInBounds_toArray, List.set_cons_zero, List.set_cons_succ])
        refine wpAnyH_ready (rs := [4]) (by kernel_rfl) (by simp) ?_
        refine AllReadyH.cons (o := ⟨none, _, _, _, _, _⟩) rfl (fun K hK => ?_) AllReadyH.nil
        go_simp
        refine hK.out _ _ ?_ (fun hHeld5 => ?_)
        · (first | trivial | ((try dsimp only); go_keep))
        clear hK K hHeld4
        (try simp only [Act.put, List.setIfInBounds_toArray, List.set_cons_zero, List.set_cons_succ])
        refine wpAnyH_ready (rs := [5]) (by kernel_rfl) (by simp) ?_
        refine AllReadyH.cons (o := ⟨none, _, _, _, _, _⟩) rfl (fun K hK => ?_) AllReadyH.nil
        go_simp
        refine hK.out _ _ ?_ (fun hHeld6 => ?_)
        · (first | trivial | ((try dsimp only); go_keep))
        clear hK K hHeld5
        (try simp only [Act.put, List.setIfInBounds_toArray, List.set_cons_zero, List.set_cons_succ])
        refine wpAnyH_done (by kernel_rfl) ?_ _
        go_wp2_with fail
        go_meet
        have KF := (Kb.put4 1 rfl (decide (x1 < 0)) A5 n5 c5 (decide (y1 < 0)) A6 n6 c6).put4 0 rfl (decide (x2 < 0)) A7 n7 c7 (decide (y2 < 0)) A8 n8 c8
        simp only [List.set] at KF
        exact ⟨A5, n5, c5, A6, n6, c6, A7, n7, c7, A8, n8, c8, KF.ints_ ⟨KF.ints.1, KF.ints.2.1, KF.ints.2.2.1, KF.ints.2.2.2.1, trivial⟩⟩
      refine AllReadyH.cons (o := ⟨some 7, _, _, _, _, _⟩) rfl (fun K hK => ?_) AllReadyH.nil
      go_simp
      refine hK.out _ _ ?_ (fun hHeld2 => ?_)
      · (first | trivial | ((try dsimp only); go_keep))
      clear hK K hHeld1
      (try simp only [Act.put, List.setIfInBounds_toArray, List.set_cons_zero, List.set_cons_succ])
      refine wpAnyH_ready (rs := [1]) (by kernel_rfl) (by simp) ?_
      refine AllReadyH.cons (o := ⟨some 6, _, _, _, _, _⟩) rfl (fun K hK => ?_) AllReadyH.nil
      go_simp
      (first | (go_at_call_of 27 (Value.agg #[Value.bool s1, Value.slice A1 n1 c1, Value.bool s2, Value.slice A2 n2 c2]); (with_reducible refine (reduce_at i1 i2 za1 zb1).mono ?_); rw [HX1.out, HY1.out]; rintro e wa ⟨A5, n5, c5, A6, n6, c6, rfl, d5, d6, g5⟩; have Ka := ((Kd.call g5).add d6).add d5; clear p0 p1 p2 p3 p4 p5 p6 p7; obtain ⟨⟨p4, p5, p6, p7⟩, ⟨p0, p1, p2, p3⟩, _⟩ := Ka.facts; have i3 := Ka.ints.2.2.2.1.i; have i4 := Ka.ints.2.2.1.i) | (go_at_call_of 27 (Value.agg #[Value.bool s3, Value.slice A3 n3 c3, Value.bool s4, Value.slice A4 n4 c4]); (with_reducible refine (reduce_at i3 i4 zc1 zd1).mono ?_); rw [HX2.out, HY2.out]; rintro e wb ⟨A7, n7, c7, A8, n8, c8, rfl, d7, d8, g7⟩; have Kb := ((Ka.call g7).add d8).add d7; clear p0 p1 p2 p3 p4 p5 p6 p7; obtain ⟨⟨p4, p5, p6, p7⟩, ⟨p0, p1, p2, p3⟩, _⟩ := Kb.facts; obtain ⟨f0, f1, f2, f3⟩ := Kb.free (i := 0) rfl; obtain ⟨f4, f5, f6, f7⟩ := Kb.free (i := 1) rfl) | fail)
      (try go_wp2_with fail)
      refine hK.out _ _ ?_ (fun hHeld3 => ?_)
      · (first | trivial | ((try dsimp only); go_keep))
      clear hK K hHeld2
      (try simp only [Act.put, List.setIfInBounds_toArray, List.set_cons_zero, List.set_cons_succ])
      refine wpAnyH_ready (rs := [3]) (by kernel_rfl) (by simp) ?_
      refine AllReadyH.cons (o := ⟨some 8, _, _, _, _, _⟩) rfl (fun K hK => ?_) AllReadyH.nil
      go_simp
      (first | (go_at_call_of 27 (Value.agg #[Value.bool s1, Value.slice A1 n1 c1, Value.bool s2, Value.slice A2 n2 c2]); (with_reducible refine (reduce_at i1 i2 za1 zb1).mono ?_); rw [HX1.out, HY1.out]; rintro e wa ⟨A5, n5, c5, A6, n6, c6, rfl, d5, d6, g5⟩; have Ka := ((Kd.call g5).add d6).add d5; clear p0 p1 p2 p3 p4 p5 p6 p7; obtain ⟨⟨p4, p5, p6, p7⟩, ⟨p0, p1, p2, p3⟩, _⟩ := Ka.facts; have i3 := Ka.ints.2.2.2.1.i; have i4 := Ka.ints.2.2.1.i) | (go_at_call_of 27 (Value.agg #[Value.bool s3, Value.slice A3 n3 c3, Value.bool s4, Value.slice A4 n4 c4]); (with_reducible refine (reduce_at i3 i4 zc1 zd1).mono ?_); rw [HX2.out, HY2.out]; rintro e wb ⟨A7, n7, c7, A8, n8, c8, rfl, d7, d8, g7⟩; have Kb := ((Ka.call g7).add d8).add d7; clear p0 p1 p2 p3 p4 p5 p6 p7; obtain ⟨⟨p4, p5, p6, p7⟩, ⟨p0, p1, p2, p3⟩, _⟩ := Kb.facts; obtain ⟨f0, f1, f2, f3⟩ := Kb.free (i := 0) rfl; obtain ⟨f4, f5, f6, f7⟩ := Kb.free (i := 1) rfl) | fail)
      (try go_wp2_with fail)
      refine hK.out _ _ ?_ (fun hHeld4 => ?_)
      · (first | trivial | ((try dsimp only); go_keep))
      clear hK K hHeld3
      (try simp only [Act.put, List.setIfInBounds_toArray, List.set_cons_zero, List.set_cons_succ])
      refine wpAnyH_ready (rs := [4]) (by kernel_rfl) (by simp) ?_
      refine AllReadyH.cons (o := ⟨none, _, _, _, _, _⟩) rfl (fun K hK => ?_) AllReadyH.nil
      go_simp
      refine hK.out _ _ ?_ (fun hHeld5 => ?_)
      · (first | trivial | ((try dsimp only); go_keep))
      clear hK K hHeld4
      (try simp only [Act.put, List.setIfInBounds_toArray, List.set_cons_zero, List.set_cons_succ])
      refine wpAnyH_ready (rs := [5]) (by kernel_rfl) (by simp) ?_
      refine AllReadyH.cons (o := ⟨none, _, _, _, _, _⟩) rfl (fun K hK => ?_) AllReadyH.nil
      go_simp
      refine hK.out _ _ ?_ (fun hHeld6 => ?_)
      · (first | trivial | ((try dsimp only); go_keep))
      clear hK K hHeld5
      (try simp only [Act.put, List.setIfInBounds_toArray, List.set_cons_zero, List.set_cons_succ])
      refine wpAnyH_done (by kernel_rfl) ?_ _
      go_wp2_with fail
      go_meet
      have KF := (Kb.put4 1 rfl (decide (x1 < 0)) A5 n5 c5 (decide (y1 < 0)) A6 n6 c6).put4 0 rfl (decide (x2 < 0)) A7 n7 c7 (decide (y2 < 0)) A8 n8 c8
      simp only [List.set] at KF
      exact ⟨A5, n5, c5, A6, n6, c6, A7, n7, c7, A8, n8, c8, KF.ints_ ⟨KF.ints.1, KF.ints.2.1, KF.ints.2.2.1, KF.ints.2.2.2.1, trivial⟩⟩
    refine AllReadyH.cons (o := ⟨some 7, _, _, _, _, _⟩) rfl (fun K hK => ?_) AllReadyH.nil
    go_simp
    refine hK.out _ _ ?_ (fun hHeld1 => ?_)
    · (first | trivial | ((try dsimp only); go_keep))
    clear hK K hHeld0
    (try simp only [Act.put, List.setIfInBounds_toArray, List.set_cons_zero, List.set_cons_succ])
    refine wpAnyH_ready (rs := [0]) (by kernel_rfl) (by simp) ?_
    refine AllReadyH.cons (o := ⟨some 5, _, _, _, _, _⟩) rfl (fun K hK => ?_) AllReadyH.nil
    go_simp
    refine hK.out _ _ ?_ (fun hHeld2 => ?_)
    · (first | trivial | ((try dsimp only); go_keep))
    clear hK K hHeld1
    (try simp only [Act.put, List.setIfInBounds_toArray, List.set_cons_zero, List.set_cons_succ])
    refine wpAnyH_ready (rs := [1]) (by kernel_rfl) (by simp) ?_
    refine AllReadyH.cons (o := ⟨some 6, _, _, _, _, _⟩) rfl (fun K hK => ?_) AllReadyH.nil
    go_simp
    (first | (go_at_call_of 27 (Value.agg #[Value.bool s1, Value.slice A1 n1 c1, Value.bool s2, Value.slice A2 n2 c2]); (with_reducible refine (reduce_at i1 i2 za1 zb1).mono ?_); rw [HX1.out, HY1.out]; rintro e wa ⟨A5, n5, c5, A6, n6, c6, rfl, d5, d6, g5⟩; have Ka := ((Kd.call g5).add d6).add d5; clear p0 p1 p2 p3 p4 p5 p6 p7; obtain ⟨⟨p4, p5, p6, p7⟩, ⟨p0, p1, p2, p3⟩, _⟩ := Ka.facts; have i3 := Ka.ints.2.2.2.1.i; have i4 := Ka.ints.2.2.1.i) | (go_at_call_of 27 (Value.agg #[Value.bool s3, Value.slice A3 n3 c3, Value.bool s4, Value.slice A4 n4 c4]); (with_reducible refine (reduce_at i3 i4 zc1 zd1).mono ?_); rw [HX2.out, HY2.out]; rintro e wb ⟨A7, n7, c7, A8, n8, c8, rfl, d7, d8, g7⟩; have Kb := ((Ka.call g7).add d8).add d7; clear p0 p1 p2 p3 p4 p5 p6 p7; obtain ⟨⟨p4, p5, p6, p7⟩, ⟨p0, p1, p2, p3⟩, _⟩ := Kb.facts; obtain ⟨f0, f1, f2, f3⟩ := Kb.free (i := 0) rfl; obtain ⟨f4, f5, f6, f7⟩ := Kb.free (i := 1) rfl) | fail)
    (try go_wp2_with fail)
    refine hK.out _ _ ?_ (fun hHeld3 => ?_)
    · (first | trivial | ((try dsimp only); go_keep))
    clear hK K hHeld2
    (try simp only [Act.put, List.setIfInBounds_toArray, List.set_cons_zero, List.set_cons_succ])
    refine wpAnyH_ready (rs := [3]) (by kernel_rfl) (by simp) ?_
    refine AllReadyH.cons (o := ⟨some 8, _, _, _, _, _⟩) rfl (fun K hK => ?_) AllReadyH.nil
    go_simp
    (first | (go_at_call_of 27 (Value.agg #[Value.bool s1, Value.slice A1 n1 c1, Value.bool s2, Value.slice A2 n2 c2]); (with_reducible refine (reduce_at i1 i2 za1 zb1).mono ?_); rw [HX1.out, HY1.out]; rintro e wa ⟨A5, n5, c5, A6, n6, c6, rfl, d5, d6, g5⟩; have Ka := ((Kd.call g5).add d6).add d5; clear p0 p1 p2 p3 p4 p5 p6 p7; obtain ⟨⟨p4, p5, p6, p7⟩, ⟨p0, p1, p2, p3⟩, _⟩ := Ka.facts; have i3 := Ka.ints.2.2.2.1.i; have i4 := Ka.ints.2.2.1.i) | (go_at_call_of 27 (Value.agg #[Value.bool s3, Value.slice A3 n3 c3, Value.bool s4, Value.slice A4 n4 c4]); (with_reducible refine (reduce_at i3 i4 zc1 zd1).mono ?_); rw [HX2.out, HY2.out]; rintro e wb ⟨A7, n7, c7, A8, n8, c8, rfl, d7, d8, g7⟩; have Kb := ((Ka.call g7).add d8).add d7; clear p0 p1 p2 p3 p4 p5 p6 p7; obtain ⟨⟨p4, p5, p6, p7⟩, ⟨p0, p1, p2, p3⟩, _⟩ := Kb.facts; obtain ⟨f0, f1, f2, f3⟩ := Kb.free (i := 0) rfl; obtain ⟨f4, f5, f6, f7⟩ := Kb.free (i := 1) rfl) | fail)
    (try go_wp2_with fail)
    refine hK.out _ _ ?_ (fun hHeld4 => ?_)
    · (first | trivial | ((try dsimp only); go_keep))
    clear hK K hHeld3
    (try simp only [Act.put, List.setIfInBounds_toArray, List.set_cons_zero, List.set_cons_succ])
    refine wpAnyH_ready (rs := [4]) (by kernel_rfl) (by simp) ?_
    refine AllReadyH.cons (o := ⟨none, _, _, _, _, _⟩) rfl (fun K hK => ?_) AllReadyH.nil
    go_simp
    refine hK.out _ _ ?_ (fun hHeld5 => ?_)
    · (first | trivial | ((try dsimp only); go_keep))
    clear hK K hHeld4
    (try simp only [Act.put, List.setIfInBounds_toArray, List.set_cons_zero, List.set_cons_succ])
    refine wpAnyH_ready (rs := [5]) (by kernel_rfl) (by simp) ?_
    refine AllReadyH.cons (o := ⟨none, _, _, _, _, _⟩) rfl (fun K hK => ?_) AllReadyH.nil
    go_simp
    refine hK.out _ _ ?_ (fun hHeld6 => ?_)
    · (first | trivial | ((try dsimp only); go_keep))
    clear hK K hHeld5
    (try simp only [Act.put, List.setIfInBounds_toArray, List.set_cons_zero, List.set_cons_succ])
    refine wpAnyH_done (by kernel_rfl) ?_ _
    go_wp2_with fail
    go_meet
    have KF := (Kb.put4 1 rfl (decide (x1 < 0)) A5 n5 c5 (decide (y1 < 0)) A6 n6 c6).put4 0 rfl (decide (x2 < 0)) A7 n7 c7 (decide (y2 < 0)) A8 n8 c8
    simp only [List.set] at KF
    exact ⟨A5, n5, c5, A6, n6, c6, A7, n7, c7, A8, n8, c8, KF.ints_ ⟨KF.ints.1, KF.ints.2.1, KF.ints.2.2.1, KF.ints.2.2.2.1, trivial⟩⟩
  case rest =>
    clear KC
    obtain ⟨A5, n5, c5, A6, n6, c6, A7, n7, c7, A8, n8, c8, KC⟩ := hcut
    have Kd := KC.drew
    clear KC
    obtain ⟨⟨p4, p5, p6, p7⟩, ⟨p0, p1, p2, p3⟩, _⟩ := Kd.facts
    have j1 := Kd.ints.2.2.1.ci kx1
    have j4 := Kd.ints.2.1.ci ky2
    have l5 : n5 ≤ 100000 := by rw [← Kd.ints.2.2.1.c.2.1.len]; exact zx1.len2
    have l6 : n6 ≤ 100000 := by rw [← Kd.ints.2.2.2.1.c.2.1.len]; exact zy1.len2
    have l7 : n7 ≤ 100000 := by rw [← Kd.ints.1.c.2.1.len]; exact zx2.len2
    have l8 : n8 ≤ 100000 := by rw [← Kd.ints.2.1.c.2.1.len]; exact zy2.len2
    go_upto_region 2 with fail
    go_region_held3 (fun w' => w'.cell? ⟨w.heap.size, 0, none⟩ = some (.bool (decide (x1 < 0))) ∧ w'.cell? ⟨w.heap.size, 1, none⟩ = some (.slice A5 n5 c5) ∧ w'.cell? ⟨w.heap.size, 2, none⟩ = some (.bool (decide (y1 < 0))) ∧ w'.cell? ⟨w.heap.size, 3, none⟩ = some (.slice A6 n6 c6) ∧ w'.cell? ⟨w.heap.size + 1, 0, none⟩ = some (.bool (decide (x2 < 0))) ∧ w'.cell? ⟨w.heap.size + 1, 1, none⟩ = some (.slice A7 n7 c7) ∧ w'.cell? ⟨w.heap.size + 1, 2, none⟩ = some (.bool (decide (y2 < 0))) ∧ w'.cell? ⟨w.heap.size + 1, 3, none⟩ = some (.slice A8 n8 c8))
      (go_keep)
      (first
        | (go_at_call_of 57 (Value.agg #[Value.bool (decide (x1 < 0)), Value.slice A5 n5 c5]); (with_reducible refine (rmul_at j1 j4 l5 l8).mono ?_); rw [HP.out]; rintro e wc ⟨C1, m1, k1, rfl, d1, u1, v1, g1⟩; have Ke := (Kd.call g1).add (CanAt.mk_ d1 u1 v1); clear p0 p1 p2 p3 p4 p5 p6 p7; obtain ⟨⟨p4, p5, p6, p7⟩, ⟨p0, p1, p2, p3⟩, _⟩ := Ke.facts; have j3 := Ke.ints.2.1.ci kx2; have j2 := Ke.ints.2.2.2.2.1.ci ky1)
        | (go_at_call_of 57 (Value.agg #[Value.bool (decide (x2 < 0)), Value.slice A7 n7 c7]); (with_reducible refine (rmul_at j3 j2 l7 l6).mono ?_); rw [HQ.out]; rintro e wd ⟨C2, m2, k2, rfl, d2, u2, v2, g2⟩; have Kf := (Ke.call g2).add (CanAt.mk_ d2 u2 v2); clear p0 p1 p2 p3 p4 p5 p6 p7; obtain ⟨⟨p4, p5, p6, p7⟩, ⟨p0, p1, p2, p3⟩, _⟩ := Kf.facts; have jp := Kf.ints.2.1.ci kp; have jq := Kf.ints.1.ci kq)
        | (go_at_call 56; (with_reducible refine (rcompare_at jp jq).mono ?_); rw [HV.out]; rintro e we ⟨rfl, g3⟩; have Kg := Kf.call g3; clear p0 p1 p2 p3 p4 p5 p6 p7; obtain ⟨⟨p4, p5, p6, p7⟩, ⟨p0, p1, p2, p3⟩, _⟩ := Kg.facts)
        | fail)
    go_wp2_with fail
    go_ret
    exact ⟨rfl, Kg.below⟩

set_option maxHeartbeats 8000000 in
set_option maxRecDepth 100000 in
theorem rsignF_at {w : World} {s1 s2 : Bool} {A1 A2 : Option Addr} {n1 c1 n2 c2 : Nat} {a b : Int} (h1 : IntAt w s1 A1 n1 c1 a) (h2 : IntAt w s2 A2 n2 c2 b) (za : Sz a 1900) (zb : Sz b 1900) :
    Calls Try.prog 29 #[.agg #[.bool s1, .slice A1 n1 c1, .bool s2, .slice A2 n2 c2]] w (RetN w (sgn (rn a b))) := by
  have H0 := (((St.start w).addI h1).addI h2).new 26 (Plains.four s1 A1 n1 c1 s2 A2 n2 c2)
  (try simp only [World.size_alloc] at H0)
  have HH := Lib.hid H0
  clear H0 h1 h2
  obtain ⟨x, HX⟩ : ∃ v, Hid (rn a b = v) := ⟨_, rfl⟩
  obtain ⟨y, HY⟩ : ∃ v, Hid (rd a b = v) := ⟨_, rfl⟩
  obtain ⟨v, HV⟩ : ∃ v, Hid (sgn x = v) := ⟨_, rfl⟩
  have kx : (digs x.natAbs).length ≤ 1000000 := by rw [← HX.out]; exact (sz_rn za).ok
  rw [HX.out, HV.out]
  go_enter Try.func29, Try.ntmps29
  go_wp2_with (first
    | (go_at_call 27; have K := HH.out; clear HH; have i1 := K.ints.2.1.i; have i2 := K.ints.1.i; (with_reducible refine (reduce_at i1 i2 za zb).mono ?_); rw [HX.out, HY.out]; rintro e wa ⟨B1, m1, k1, B2, m2, k2, rfl, d1, d2, ga⟩; have Ka := ((K.call ga).add d2).add d1; have ix := Ka.ints.1.ci kx; have hfd := field_num (decide (x < 0)) (decide (y < 0)) B1 B2 m1 k1 m2 k2 wa)
    | (go_at_call 58; (with_reducible refine (rsign_at ix).mono ?_); rw [HV.out]; rintro e wb ⟨rfl, gb⟩; have Kb := Ka.call gb)
    | fail)
  go_ret
  exact ⟨rfl, Kb.below⟩

set_option maxHeartbeats 8000000 in
set_option maxRecDepth 100000 in
theorem rnegF_at {w : World} {s1 s2 : Bool} {A1 A2 : Option Addr} {n1 c1 n2 c2 : Nat} {a b : Int} (h1 : IntAt w s1 A1 n1 c1 a) (h2 : IntAt w s2 A2 n2 c2 b) (za : Sz a 1900) (zb : Sz b 1900) :
    Calls Try.prog 31 #[.agg #[.bool s1, .slice A1 n1 c1, .bool s2, .slice A2 n2 c2]] w (RetFr w (rn (-a) b) (rd (-a) b)) := by
  have H0 := ((((St.start w).addI h1).addI h2).new 26 (Plains.four s1 A1 n1 c1 s2 A2 n2 c2)).new 26 (Plains.four false none 0 0 false none 0 0)
  (try simp only [World.size_alloc] at H0)
  have HH := Lib.hid H0
  clear H0 h1 h2
  obtain ⟨z, HZ⟩ : ∃ v, Hid (-a = v) := ⟨_, rfl⟩
  have zz : Sz z 1900 := by rw [← HZ.out]; exact za.neg
  have kz := zz.ok
  rw [HZ.out]
  obtain ⟨x, HX⟩ : ∃ v, Hid (rn z b = v) := ⟨_, rfl⟩
  obtain ⟨y, HY⟩ : ∃ v, Hid (rd z b = v) := ⟨_, rfl⟩
  rw [HX.out, HY.out]
  go_enter Try.func31, Try.ntmps31
  go_upto_region 1 with fail
  have Kd := HH.out.drew
  clear HH
  obtain ⟨_, ⟨p0, p1, p2, p3⟩, _⟩ := Kd.facts
  obtain ⟨z1, z2⟩ := Kd.ne 0 1 rfl rfl (by decide)
  have ia := Kd.ints.2.1.i
  go_region_held3 (fun w' => w'.cell? ⟨w.heap.size, 0, none⟩ = some (.bool s1) ∧ w'.cell? ⟨w.heap.size, 1, none⟩ = some (.slice A1 n1 c1) ∧ w'.cell? ⟨w.heap.size, 2, none⟩ = some (.bool s2) ∧ w'.cell? ⟨w.heap.size, 3, none⟩ = some (.slice A2 n2 c2))
    (go_keep)
    (first
      | (go_at_call 53; (with_reducible refine (rnegate_at ia).mono ?_); rw [HZ.out]; rintro e wa ⟨B1, m1, k1, rfl, d1, u1, v1, ga⟩; have Ka := (Kd.call ga).add (CanAt.mk_ d1 u1 v1); clear p0 p1 p2 p3; obtain ⟨_, ⟨p0, p1, p2, p3⟩, _⟩ := Ka.facts; have iz := Ka.ints.1.ci kz; have ib := Ka.ints.2.1.i)
      | (go_at_call 27; (with_reducible refine (reduce_at iz ib zz zb).mono ?_); rw [HX.out, HY.out]; rintro e wc ⟨B5, m5, k5, B6, m6, k6, rfl, d5, d6, gc⟩; have Kc := ((Ka.call gc).add d6).add d5; clear p0 p1 p2 p3; obtain ⟨⟨q4, q5, q6, q7⟩, ⟨p0, p1, p2, p3⟩, _⟩ := Kc.facts; obtain ⟨f0, f1, f2, f3⟩ := Kc.free (i := 0) rfl)
      | fail)
  have K4 := Kc.put4 0 rfl (decide (x < 0)) B5 m5 k5 (decide (y < 0)) B6 m6 k6
  simp only [List.set] at K4
  obtain ⟨⟨r0, r1, r2, r3⟩, _⟩ := K4.facts
  go_wp2_with fail
  exact bodyPost_ret (v := .agg #[.bool (decide (x < 0)), .slice B5 m5 k5, .bool (decide (y < 0)), .slice B6 m6 k6]) (by simp [results, Try.results31, go_sem, r0, r1, r2, r3]) rfl (RetFr.of_st K4)

set_option maxHeartbeats 8000000 in
set_option maxRecDepth 100000 in
theorem raddF_at {w : World} {s1 s2 s3 s4 : Bool} {A1 A2 A3 A4 : Option Addr} {n1 c1 n2 c2 n3 c3 n4 c4 : Nat} {a b c d : Int} (h1 : IntAt w s1 A1 n1 c1 a) (h2 : IntAt w s2 A2 n2 c2 b) (h3 : IntAt w s3 A3 n3 c3 c) (h4 : IntAt w s4 A4 n4 c4 d) (za : Sz a 910) (zb : Sz b 910) (zc : Sz c 910) (zd : Sz d 910) :
    Calls Try.prog 62 #[.agg #[.bool s1, .slice A1 n1 c1, .bool s2, .slice A2 n2 c2], .agg #[.bool s3, .slice A3 n3 c3, .bool s4, .slice A4 n4 c4]] w (RetFr w (aN a b c d) (aD a b c d)) := by
  have H0 := (((((((St.start w).addI h1).addI h2).addI h3).addI h4).new 26 (Plains.four s1 A1 n1 c1 s2 A2 n2 c2)).new 26 (Plains.four s3 A3 n3 c3 s4 A4 n4 c4)).new 26 (Plains.four false none 0 0 false none 0 0)
  (try simp only [World.size_alloc] at H0)
  have HH := Lib.hid H0
  clear H0 h1 h2 h3 h4
  obtain ⟨x1, HX1⟩ : ∃ v, Hid (rn a b = v) := ⟨_, rfl⟩
  obtain ⟨y1, HY1⟩ : ∃ v, Hid (rd a b = v) := ⟨_, rfl⟩
  obtain ⟨x2, HX2⟩ : ∃ v, Hid (rn c d = v) := ⟨_, rfl⟩
  obtain ⟨y2, HY2⟩ : ∃ v, Hid (rd c d = v) := ⟨_, rfl⟩
  have za1 : Sz a 1900 := za.mono (by decide)
  have zb1 : Sz b 1900 := zb.mono (by decide)
  have zc1 : Sz c 1900 := zc.mono (by decide)
  have zd1 : Sz d 1900 := zd.mono (by decide)
  have zx1 : Sz x1 910 := by rw [← HX1.out]; exact sz_rn za
  have zx2 : Sz x2 910 := by rw [← HX2.out]; exact sz_rn zc
  have zy1 : Sz y1 911 := by rw [← HY1.out]; exact sz_rd zb (by decide)
  have zy2 : Sz y2 911 := by rw [← HY2.out]; exact sz_rd zd (by decide)
  have kx1 := zx1.ok
  have kx2 := zx2.ok
  have ky1 := zy1.ok
  have ky2 := zy2.ok
  obtain ⟨p, HP⟩ : ∃ v, Hid (x1 * y2 = v) := ⟨_, rfl⟩
  obtain ⟨q, HQ⟩ : ∃ v, Hid (x2 * y1 = v) := ⟨_, rfl⟩
  obtain ⟨t, HT⟩ : ∃ v, Hid (p + q = v) := ⟨_, rfl⟩
  obtain ⟨m, HM⟩ : ∃ v, Hid (y1 * y2 = v) := ⟨_, rfl⟩
  have zp : Sz p 1821 := by rw [← HP.out]; exact zx1.mul zy2
  have zq : Sz q 1821 := by rw [← HQ.out]; exact zx2.mul zy1
  have zt : Sz t 1900 := by rw [← HT.out]; exact (zp.add zq).mono (by decide)
  have zm : Sz m 1900 := by rw [← HM.out]; exact (zy1.mul zy2).mono (by decide)
  have kp := zp.ok
  have kq := zq.ok
  have kt := zt.ok
  have km := zm.ok
  obtain ⟨x, HX⟩ : ∃ v, Hid (aN a b c d = v) := ⟨_, rfl⟩
  obtain ⟨y, HY⟩ : ∃ v, Hid (aD a b c d = v) := ⟨_, rfl⟩
  have HEX : Hid (rn t m = x) := by unfold Hid; rw [← HX.out, ← HT.out, ← HP.out, ← HQ.out, ← HM.out, ← HX1.out, ← HX2.out, ← HY1.out, ← HY2.out]; rfl
  have HEY : Hid (rd t m = y) := by unfold Hid; rw [← HY.out, ← HT.out, ← HP.out, ← HQ.out, ← HM.out, ← HX1.out, ← HX2.out, ← HY1.out, ← HY2.out]; rfl
  rw [HX.out, HY.out]
  go_enter Try.func62, Try.ntmps62
  go_upto_region 1 with fail
  have KC := HH.out
  clear HH
  go_cut [] (fun wx => ∃ (A5 : Option Addr) (n5 c5 : Nat) (A6 : Option Addr) (n6 c6 : Nat) (A7 : Option Addr) (n7 c7 : Nat) (A8 : Option Addr) (n8 c8 : Nat), St w wx [vf (w.heap.size + 1 + 1) false none 0 0 false none 0 0, vf (w.heap.size + 1) (decide (x2 < 0)) A7 n7 c7 (decide (y2 < 0)) A8 n8 c8, vf w.heap.size (decide (x1 < 0)) A5 n5 c5 (decide (y1 < 0)) A6 n6 c6] [(decide (x2 < 0), A7, n7, c7, x2, true), (decide (y2 < 0), A8, n8, c8, y2, true), (decide (x1 < 0), A5, n5, c5, x1, true), (decide (y1 < 0), A6, n6, c6, y1, true)])
  case first =>
    have Kd := KC.drew
    clear KC
    obtain ⟨_, ⟨p4, p5, p6, p7⟩, ⟨p0, p1, p2, p3⟩, _⟩ := Kd.facts
    obtain ⟨z1, z2⟩ := Kd.ne 1 2 rfl rfl (by decide)
    have i1 := Kd.ints.2.2.2.1.i
    have i2 := Kd.ints.2.2.1.i
    skip
    refine wp_region_held_drew (S := fun w' => True) (by kernel_rfl) ?_ (fun hHeld0 => ?_)
    · (first | trivial | ((try dsimp only); go_keep))
    refine wpAnyH_ready (rs := [0, 2]) (by kernel_rfl) (by simp) ?_
    refine AllReadyH.cons (o := ⟨some 5, _, _, _, _, _⟩) rfl (fun K hK => ?_) ?_
    · skip
      go_simp
      refine hK.out _ _ ?_ (fun hHeld1 => ?_)
      · (first | trivial | ((try dsimp only); go_keep))
      clear hK K hHeld0
      (try simp only [Act.put, List.setIfInBounds_toArray, List.set_cons_zero, List.set_cons_succ])
      refine wpAnyH_ready (rs := [1, 2]) (by kernel_rfl) (by simp) ?_
      refine AllReadyH.cons (o := ⟨some 6, _, _, _, _, _⟩) rfl (fun K hK => ?_) ?_
      · skip
        go_simp
        (first | (go_at_call_of 27 (Value.agg #[Value.bool s1, Value.slice A1 n1 c1, Value.bool s2, Value.slice A2 n2 c2]); (with_reducible refine (reduce_at i1 i2 za1 zb1).mono ?_); rw [HX1.out, HY1.out]; rintro e wa ⟨A5, n5, c5, A6, n6, c6, rfl, d5, d6, g5⟩; have Ka := ((Kd.call g5).add d6).add d5; clear p0 p1 p2 p3 p4 p5 p6 p7; obtain ⟨_, ⟨p4, p5, p6, p7⟩, ⟨p0, p1, p2, p3⟩, _⟩ := Ka.facts; have i3 := Ka.ints.2.2.2.1.i; have i4 := Ka.ints.2.2.1.i) | (go_at_call_of 27 (Value.agg #[Value.bool s3, Value.slice A3 n3 c3, Value.bool s4, Value.slice A4 n4 c4]); (with_reducible refine (reduce_at i3 i4 zc1 zd1).mono ?_); rw [HX2.out, HY2.out]; rintro e wb ⟨A7, n7, c7, A8, n8, c8, rfl, d7, d8, g7⟩; have Kb := ((Ka.call g7).add d8).add d7; clear p0 p1 p2 p3 p4 p5 p6 p7; obtain ⟨_, ⟨p4, p5, p6, p7⟩, ⟨p0, p1, p2, p3⟩, _⟩ := Kb.facts; obtain ⟨f0, f1, f2, f3⟩ := Kb.free (i := 1) rfl; obtain ⟨f4, f5, f6, f7⟩ := Kb.free (i := 2) rfl) | fail)
        (try go_wp2_with fail)
        refine hK.out _ _ ?_ (fun hHeld2 => ?_)
        · (first | trivial | ((try dsimp only); go_keep))
        clear hK K hHeld1
        (try simp only [Act.put, List.setIfInBounds_toArray, List.set_cons_zero, List.set_cons_succ])
        refine wpAnyH_ready (rs := [2]) (by kernel_rfl) (by simp) ?_
        refine AllReadyH.cons (o := ⟨some 7, _, _, _, _, _⟩) rfl (fun K hK => ?_) AllReadyH.nil
        go_simp
        refine hK.out _ _ ?_ (fun hHeld3 => ?_)
        · (first | trivial | ((try dsimp only); go_keep))
        clear hK K hHeld2
        (try simp only [Act.put, List.setIfInBounds_toArray, List.set_cons_zero, List.set_cons_succ])
        refine wpAnyH_ready (rs := [3]) (by kernel_rfl) (by simp) ?_
        refine AllReadyH.cons (o := ⟨some 8, _, _, _, _, _⟩) rfl (fun K hK => ?_) AllReadyH.nil
        go_simp
        (first | (go_at_call_of 27 (Value.agg #[Value.bool s1, Value.slice A1 n1 c1, Value.bool s2, Value.slice A2 n2 c2]); (with_reducible refine (reduce_at i1 i2 za1 zb1).mono ?_); rw [HX1.out, HY1.out]; rintro e wa ⟨A5, n5, c5, A6, n6, c6, rfl, d5, d6, g5⟩; have Ka := ((Kd.call g5).add d6).add d5; clear p0 p1 p2 p3 p4 p5 p6 p7; obtain ⟨_, ⟨p4, p5, p6, p7⟩, ⟨p0, p1, p2, p3⟩, _⟩ := Ka.facts; have i3 := Ka.ints.2.2.2.1.i; have i4 := Ka.ints.2.2.1.i) | (go_at_call_of 27 (Value.agg #[Value.bool s3, Value.slice A3 n3 c3, Value.bool s4, Value.slice A4 n4 c4]); (with_reducible refine (reduce_at i3 i4 zc1 zd1).mono ?_); rw [HX2.out, HY2.out]; rintro e wb ⟨A7, n7, c7, A8, n8, c8, rfl, d7, d8, g7⟩; have Kb := ((Ka.call g7).add d8).add d7; clear p0 p1 p2 p3 p4 p5 p6 p7; obtain ⟨_, ⟨p4, p5, p6, p7⟩, ⟨p0, p1, p2, p3⟩, _⟩ := Kb.facts; obtain ⟨f0, f1, f2, f3⟩ := Kb.free (i := 1) rfl; obtain ⟨f4, f5, f6, f7⟩ := Kb.free (i := 2) rfl) | fail)
        (try go_wp2_with fail)
        refine hK.out _ _ ?_ (fun hHeld4 => ?_)
        · (first | trivial | ((try dsimp only); go_keep))
        clear hK K hHeld3
        (try simp only [Act.put, List.setIfInBounds_toArray, List.set_cons_zero, List.set_cons_succ])
        refine wpAnyH_ready (rs := [4]) (by kernel_rfl) (by simp) ?_
        refine AllReadyH.cons (o := ⟨none, _, _, _, _, _⟩) rfl (fun K hK => ?_) AllReadyH.nil
        go_simp
        refine hK.out _ _ ?_ (fun hHeld5 => ?_)
        · (first | trivial | ((try dsimp only); go_keep))
        clear hK K hHeld4
        (try simp only [Act.put, List.setIfInBounds_toArray, List.set_cons_zero, List.set_cons_succ])
        refine wpAnyH_ready (rs := [5]) (by kernel_rfl) (by simp) ?_
        refine AllReadyH.cons (o := ⟨none, _, _, _, _, _⟩) rfl (fun K hK => ?_) AllReadyH.nil
        go_simp
        refine hK.out _ _ ?_ (fun hHeld6 => ?_)
        · (first | trivial | ((try dsimp only); go_keep))
        clear hK K hHeld5
        (try simp only [Act.put, List.setIfInBounds_toArray, List.set_cons_zero, List.set_cons_succ])
        refine wpAnyH_done (by kernel_rfl) ?_ _
        go_wp2_with fail
        go_meet
        have KF := (Kb.put4 2 rfl (decide (x1 < 0)) A5 n5 c5 (decide (y1 < 0)) A6 n6 c6).put4 1 rfl (decide (x2 < 0)) A7 n7 c7 (decide (y2 < 0)) A8 n8 c8
        simp only [List.set] at KF
        exact ⟨A5, n5, c5, A6, n6, c6, A7, n7, c7, A8, n8, c8, KF.ints_ ⟨KF.ints.1, KF.ints.2.1, KF.ints.2.2.1, KF.ints.2.2.2.1, trivial⟩⟩
      refine AllReadyH.cons (o := ⟨some 7, _, _, _, _, _⟩) rfl (fun K hK => ?_) AllReadyH.nil
      go_simp
      refine hK.out _ _ ?_ (fun hHeld2 => ?_)
      · (first | trivial | ((try dsimp only); go_keep))
      clear hK K hHeld1
      (try simp only [Act.put, List.setIfInBounds_toArray, List.set_cons_zero, List.set_cons_succ])
      refine wpAnyH_ready (rs := [1]) (by kernel_rfl) (by simp) ?_
      refine AllReadyH.cons (o := ⟨some 6, _, _, _, _, _⟩) rfl (fun K hK => ?_) AllReadyH.nil
      go_simp
      (first | (go_at_call_of 27 (Value.agg #[Value.bool s1, Value.slice A1 n1 c1, Value.bool s2, Value.slice A2 n2 c2]); (with_reducible refine (reduce_at i1 i2 za1 zb1).mono ?_); rw [HX1.out, HY1.out]; rintro e wa ⟨A5, n5, c5, A6, n6, c6, rfl, d5, d6, g5⟩; have Ka := ((Kd.call g5).add d6).add d5; clear p0 p1 p2 p3 p4 p5 p6 p7; obtain ⟨_, ⟨p4, p5, p6, p7⟩, ⟨p0, p1, p2, p3⟩, _⟩ := Ka.facts; have i3 := Ka.ints.2.2.2.1.i; have i4 := Ka.ints.2.2.1.i) | (go_at_call_of 27 (Value.agg #[Value.bool s3, Value.slice A3 n3 c3, Value.bool s4, Value.slice A4 n4 c4]); (with_reducible refine (reduce_at i3 i4 zc1 zd1).mono ?_); rw [HX2.out, HY2.out]; rintro e wb ⟨A7, n7, c7, A8, n8, c8, rfl, d7, d8, g7⟩; have Kb := ((Ka.call g7).add d8).add d7; clear p0 p1 p2 p3 p4 p5 p6 p7; obtain ⟨_, ⟨p4, p5, p6, p7⟩, ⟨p0, p1, p2, p3⟩, _⟩ := Kb.facts; obtain ⟨f0, f1, f2, f3⟩ := Kb.free (i := 1) rfl; obtain ⟨f4, f5, f6, f7⟩ := Kb.free (i := 2) rfl) | fail)
      (try go_wp2_with fail)
      refine hK.out _ _ ?_ (fun hHeld3 => ?_)
      · (first | trivial | ((try dsimp only); go_keep))
      clear hK K hHeld2
      (try simp only [Act.put, List.setIfInBounds_toArray, List.set_cons_zero, List.set_cons_succ])
      refine wpAnyH_ready (rs := [3]) (by kernel_rfl) (by simp) ?_
      refine AllReadyH.cons (o := ⟨some 8, _, _, _, _, _⟩) rfl (fun K hK => ?_) AllReadyH.nil
      go_simp
      (first | (go_at_call_of 27 (Value.agg #[Value.bool s1, Value.slice A1 n1 c1, Value.bool s2, Value.slice A2 n2 c2]); (with_reducible refine (reduce_at i1 i2 za1 zb1).mono ?_); rw [HX1.out, HY1.out]; rintro e wa ⟨A5, n5, c5, A6, n6, c6, rfl, d5, d6, g5⟩; have Ka := ((Kd.call g5).add d6).add d5; clear p0 p1 p2 p3 p4 p5 p6 p7; obtain ⟨_, ⟨p4, p5, p6, p7⟩, ⟨p0, p1, p2, p3⟩, _⟩ := Ka.facts; have i3 := Ka.ints.2.2.2.1.i; have i4 := Ka.ints.2.2.1.i) | (go_at_call_of 27 (Value.agg #[Value.bool s3, Value.slice A3 n3 c3, Value.bool s4, Value.slice A4 n4 c4]); (with_reducible refine (reduce_at i3 i4 zc1 zd1).mono ?_); rw [HX2.out, HY2.out]; rintro e wb ⟨A7, n7, c7, A8, n8, c8, rfl, d7, d8, g7⟩; have Kb := ((Ka.call g7).add d8).add d7; clear p0 p1 p2 p3 p4 p5 p6 p7; obtain ⟨_, ⟨p4, p5, p6, p7⟩, ⟨p0, p1, p2, p3⟩, _⟩ := Kb.facts; obtain ⟨f0, f1, f2, f3⟩ := Kb.free (i := 1) rfl; obtain ⟨f4, f5, f6, f7⟩ := Kb.free (i := 2) rfl) | fail)
      (try go_wp2_with fail)
      refine hK.out _ _ ?_ (fun hHeld4 => ?_)
      · (first | trivial | ((try dsimp only); go_keep))
      clear hK K hHeld3
      (try simp only [Act.put, List.setIfInBounds_toArray, List.set_cons_zero, List.set_cons_succ])
      refine wpAnyH_ready (rs := [4]) (by kernel_rfl) (by simp) ?_
      refine AllReadyH.cons (o := ⟨none, _, _, _, _, _⟩) rfl (fun K hK => ?_) AllReadyH.nil
      go_simp
      refine hK.out _ _ ?_ (fun hHeld5 => ?_)
      · (first | trivial | ((try dsimp only); go_keep))
      clear hK K hHeld4
      (try simp only [Act.put, List.setIfInBounds_toArray, List.set_cons_zero, List.set_cons_succ])
      refine wpAnyH_ready (rs := [5]) (by kernel_rfl) (by simp) ?_
      refine AllReadyH.cons (o := ⟨none, _, _, _, _, _⟩) rfl (fun K hK => ?_) AllReadyH.nil
      go_simp
      refine hK.out _ _ ?_ (fun hHeld6 => ?_)
      · (first | trivial | ((try dsimp only); go_keep))
      clear hK K hHeld5
      (try simp only [Act.put, List.setIfInBounds_toArray, List.set_cons_zero, List.set_cons_succ])
      refine wpAnyH_done (by kernel_rfl) ?_ _
      go_wp2_with fail
      go_meet
      have KF := (Kb.put4 2 rfl (decide (x1 < 0)) A5 n5 c5 (decide (y1 < 0)) A6 n6 c6).put4 1 rfl (decide (x2 < 0)) A7 n7 c7 (decide (y2 < 0)) A8 n8 c8
      simp only [List.set] at KF
      exact ⟨A5, n5, c5, A6, n6, c6, A7, n7, c7, A8, n8, c8, KF.ints_ ⟨KF.ints.1, KF.ints.2.1, KF.ints.2.2.1, KF.ints.2.2.2.1, trivial⟩⟩
    refine AllReadyH.cons (o := ⟨some 7, _, _, _, _, _⟩) rfl (fun K hK => ?_) AllReadyH.nil
    go_simp
    refine hK.out _ _ ?_ (fun hHeld1 => ?_)
    · (first | trivial | ((try dsimp only); go_keep))
    clear hK K hHeld0
    (try simp only [Act.put, List.setIfInBounds_toArray, List.set_cons_zero, List.set_cons_succ])
    refine wpAnyH_ready (rs := [0]) (by kernel_rfl) (by simp) ?_
    refine AllReadyH.cons (o := ⟨some 5, _, _, _, _, _⟩) rfl (fun K hK => ?_) AllReadyH.nil
    go_simp
    refine hK.out _ _ ?_ (fun hHeld2 => ?_)
    · (first | trivial | ((try dsimp only); go_keep))
    clear hK K hHeld1
    (try simp only [Act.put, List.setIfInBounds_toArray, List.set_cons_zero, List.set_cons_succ])
    refine wpAnyH_ready (rs := [1]) (by kernel_rfl) (by simp) ?_
    refine AllReadyH.cons (o := ⟨some 6, _, _, _, _, _⟩) rfl (fun K hK => ?_) AllReadyH.nil
    go_simp
    (first | (go_at_call_of 27 (Value.agg #[Value.bool s1, Value.slice A1 n1 c1, Value.bool s2, Value.slice A2 n2 c2]); (with_reducible refine (reduce_at i1 i2 za1 zb1).mono ?_); rw [HX1.out, HY1.out]; rintro e wa ⟨A5, n5, c5, A6, n6, c6, rfl, d5, d6, g5⟩; have Ka := ((Kd.call g5).add d6).add d5; clear p0 p1 p2 p3 p4 p5 p6 p7; obtain ⟨_, ⟨p4, p5, p6, p7⟩, ⟨p0, p1, p2, p3⟩, _⟩ := Ka.facts; have i3 := Ka.ints.2.2.2.1.i; have i4 := Ka.ints.2.2.1.i) | (go_at_call_of 27 (Value.agg #[Value.bool s3, Value.slice A3 n3 c3, Value.bool s4, Value.slice A4 n4 c4]); (with_reducible refine (reduce_at i3 i4 zc1 zd1).mono ?_); rw [HX2.out, HY2.out]; rintro e wb ⟨A7, n7, c7, A8, n8, c8, rfl, d7, d8, g7⟩; have Kb := ((Ka.call g7).add d8).add d7; clear p0 p1 p2 p3 p4 p5 p6 p7; obtain ⟨_, ⟨p4, p5, p6, p7⟩, ⟨p0, p1, p2, p3⟩, _⟩ := Kb.facts; obtain ⟨f0, f1, f2, f3⟩ := Kb.free (i := 1) rfl; obtain ⟨f4, f5, f6, f7⟩ := Kb.free (i := 2) rfl) | fail)
    (try go_wp2_with fail)
    refine hK.out _ _ ?_ (fun hHeld3 => ?_)
    · (first | trivial | ((try dsimp only); go_keep))
    clear hK K hHeld2
    (try simp only [Act.put, List.setIfInBounds_toArray, List.set_cons_zero, List.set_cons_succ])
    refine wpAnyH_ready (rs := [3]) (by kernel_rfl) (by simp) ?_
    refine AllReadyH.cons (o := ⟨some 8, _, _, _, _, _⟩) rfl (fun K hK => ?_) AllReadyH.nil
    go_simp
    (first | (go_at_call_of 27 (Value.agg #[Value.bool s1, Value.slice A1 n1 c1, Value.bool s2, Value.slice A2 n2 c2]); (with_reducible refine (reduce_at i1 i2 za1 zb1).mono ?_); rw [HX1.out, HY1.out]; rintro e wa ⟨A5, n5, c5, A6, n6, c6, rfl, d5, d6, g5⟩; have Ka := ((Kd.call g5).add d6).add d5; clear p0 p1 p2 p3 p4 p5 p6 p7; obtain ⟨_, ⟨p4, p5, p6, p7⟩, ⟨p0, p1, p2, p3⟩, _⟩ := Ka.facts; have i3 := Ka.ints.2.2.2.1.i; have i4 := Ka.ints.2.2.1.i) | (go_at_call_of 27 (Value.agg #[Value.bool s3, Value.slice A3 n3 c3, Value.bool s4, Value.slice A4 n4 c4]); (with_reducible refine (reduce_at i3 i4 zc1 zd1).mono ?_); rw [HX2.out, HY2.out]; rintro e wb ⟨A7, n7, c7, A8, n8, c8, rfl, d7, d8, g7⟩; have Kb := ((Ka.call g7).add d8).add d7; clear p0 p1 p2 p3 p4 p5 p6 p7; obtain ⟨_, ⟨p4, p5, p6, p7⟩, ⟨p0, p1, p2, p3⟩, _⟩ := Kb.facts; obtain ⟨f0, f1, f2, f3⟩ := Kb.free (i := 1) rfl; obtain ⟨f4, f5, f6, f7⟩ := Kb.free (i := 2) rfl) | fail)
    (try go_wp2_with fail)
    refine hK.out _ _ ?_ (fun hHeld4 => ?_)
    · (first | trivial | ((try dsimp only); go_keep))
    clear hK K hHeld3
    (try simp only [Act.put, List.setIfInBounds_toArray, List.set_cons_zero, List.set_cons_succ])
    refine wpAnyH_ready (rs := [4]) (by kernel_rfl) (by simp) ?_
    refine AllReadyH.cons (o := ⟨none, _, _, _, _, _⟩) rfl (fun K hK => ?_) AllReadyH.nil
    go_simp
    refine hK.out _ _ ?_ (fun hHeld5 => ?_)
    · (first | trivial | ((try dsimp only); go_keep))
    clear hK K hHeld4
    (try simp only [Act.put, List.setIfInBounds_toArray, List.set_cons_zero, List.set_cons_succ])
    refine wpAnyH_ready (rs := [5]) (by kernel_rfl) (by simp) ?_
    refine AllReadyH.cons (o := ⟨none, _, _, _, _, _⟩) rfl (fun K hK => ?_) AllReadyH.nil
    go_simp
    refine hK.out _ _ ?_ (fun hHeld6 => ?_)
    · (first | trivial | ((try dsimp only); go_keep))
    clear hK K hHeld5
    (try simp only [Act.put, List.setIfInBounds_toArray, List.set_cons_zero, List.set_cons_succ])
    refine wpAnyH_done (by kernel_rfl) ?_ _
    go_wp2_with fail
    go_meet
    have KF := (Kb.put4 2 rfl (decide (x1 < 0)) A5 n5 c5 (decide (y1 < 0)) A6 n6 c6).put4 1 rfl (decide (x2 < 0)) A7 n7 c7 (decide (y2 < 0)) A8 n8 c8
    simp only [List.set] at KF
    exact ⟨A5, n5, c5, A6, n6, c6, A7, n7, c7, A8, n8, c8, KF.ints_ ⟨KF.ints.1, KF.ints.2.1, KF.ints.2.2.1, KF.ints.2.2.2.1, trivial⟩⟩
  case rest =>
    clear KC
    obtain ⟨A5, n5, c5, A6, n6, c6, A7, n7, c7, A8, n8, c8, KC⟩ := hcut
    have Kd := KC.drew
    clear KC
    obtain ⟨_, ⟨p4, p5, p6, p7⟩, ⟨p0, p1, p2, p3⟩, _⟩ := Kd.facts
    have j1 := Kd.ints.2.2.1.ci kx1
    have j4 := Kd.ints.2.1.ci ky2
    have l5 : n5 ≤ 100000 := by rw [← Kd.ints.2.2.1.c.2.1.len]; exact zx1.len2
    have l6 : n6 ≤ 100000 := by rw [← Kd.ints.2.2.2.1.c.2.1.len]; exact zy1.len2
    have l7 : n7 ≤ 100000 := by rw [← Kd.ints.1.c.2.1.len]; exact zx2.len2
    have l8 : n8 ≤ 100000 := by rw [← Kd.ints.2.1.c.2.1.len]; exact zy2.len2
    obtain ⟨y1', y2'⟩ := Kd.ne 0 1 rfl rfl (by decide)
    obtain ⟨y3', y4'⟩ := Kd.ne 0 2 rfl rfl (by decide)
    go_upto_region 2 with fail
    go_region_held3 (fun w' => w'.cell? ⟨w.heap.size, 0, none⟩ = some (.bool (decide (x1 < 0))) ∧ w'.cell? ⟨w.heap.size, 1, none⟩ = some (.slice A5 n5 c5) ∧ w'.cell? ⟨w.heap.size, 2, none⟩ = some (.bool (decide (y1 < 0))) ∧ w'.cell? ⟨w.heap.size, 3, none⟩ = some (.slice A6 n6 c6) ∧ w'.cell? ⟨w.heap.size + 1, 0, none⟩ = some (.bool (decide (x2 < 0))) ∧ w'.cell? ⟨w.heap.size + 1, 1, none⟩ = some (.slice A7 n7 c7) ∧ w'.cell? ⟨w.heap.size + 1, 2, none⟩ = some (.bool (decide (y2 < 0))) ∧ w'.cell? ⟨w.heap.size + 1, 3, none⟩ = some (.slice A8 n8 c8))
      (go_keep)
      (first
        | (go_at_call_of 57 (Value.agg #[Value.bool (decide (x1 < 0)), Value.slice A5 n5 c5]); (with_reducible refine (rmul_at j1 j4 l5 l8).mono ?_); rw [HP.out]; rintro e wc ⟨C1, m1, k1, rfl, d1, u1, w1, g1⟩; have Ke := (Kd.call g1).add (CanAt.mk_ d1 u1 w1); clear p0 p1 p2 p3 p4 p5 p6 p7; obtain ⟨_, ⟨p4, p5, p6, p7⟩, ⟨p0, p1, p2, p3⟩, _⟩ := Ke.facts; have j3 := Ke.ints.2.1.ci kx2; have j2 := Ke.ints.2.2.2.2.1.ci ky1; have lp : m1 ≤ 100000 := (by rw [← d1.len]; exact zp.len2))
        | (go_at_call_of 57 (Value.agg #[Value.bool (decide (x2 < 0)), Value.slice A7 n7 c7]); (with_reducible refine (rmul_at j3 j2 l7 l6).mono ?_); rw [HQ.out]; rintro e wd ⟨C2, m2, k2, rfl, d2, u2, w2, g2⟩; have Kf := (Ke.call g2).add (CanAt.mk_ d2 u2 w2); clear p0 p1 p2 p3 p4 p5 p6 p7; obtain ⟨_, ⟨p4, p5, p6, p7⟩, ⟨p0, p1, p2, p3⟩, _⟩ := Kf.facts; have jp := Kf.ints.2.1.ci kp; have jq := Kf.ints.1.ci kq; have lq : m2 ≤ 100000 := (by rw [← d2.len]; exact zq.len2))
        | (go_at_call 82; (with_reducible refine (radd_at jp jq lp lq).mono ?_); rw [HT.out]; rintro e we ⟨C3, m3, k3, rfl, d3, u3, w3, g3⟩; have Kg := (Kf.call g3).add (CanAt.mk_ d3 u3 w3); clear p0 p1 p2 p3 p4 p5 p6 p7; obtain ⟨_, ⟨p4, p5, p6, p7⟩, ⟨p0, p1, p2, p3⟩, _⟩ := Kg.facts; have jy1 := Kg.ints.2.2.2.2.2.2.1.ci ky1; have jy2 := Kg.ints.2.2.2.2.1.ci ky2)
        | (go_at_call_of 57 (Value.agg #[Value.bool (decide (y1 < 0)), Value.slice A6 n6 c6]); (with_reducible refine (rmul_at jy1 jy2 l6 l8).mono ?_); rw [HM.out]; rintro e wf ⟨C4, m4, k4, rfl, d4, u4, w4, g4⟩; have Kh := (Kg.call g4).add (CanAt.mk_ d4 u4 w4); clear p0 p1 p2 p3 p4 p5 p6 p7; obtain ⟨_, ⟨p4, p5, p6, p7⟩, ⟨p0, p1, p2, p3⟩, _⟩ := Kh.facts; have jt := Kh.ints.2.1.ci kt; have jm := Kh.ints.1.ci km)
        | (go_at_call 27; (with_reducible refine (reduce_at jt jm zt zm).mono ?_); rw [HEX.out, HEY.out]; rintro e wg ⟨B5, m5, k5, B6, m6, k6, rfl, d5, d6, g5⟩; have Ki := ((Kh.call g5).add d6).add d5; clear p0 p1 p2 p3 p4 p5 p6 p7; obtain ⟨⟨q0, q1, q2, q3⟩, ⟨p4, p5, p6, p7⟩, ⟨p0, p1, p2, p3⟩, _⟩ := Ki.facts; obtain ⟨f0, f1, f2, f3⟩ := Ki.free (i := 0) rfl)
        | fail)
    have K4 := Ki.put4 0 rfl (decide (x < 0)) B5 m5 k5 (decide (y < 0)) B6 m6 k6
    simp only [List.set] at K4
    obtain ⟨⟨r0, r1, r2, r3⟩, _⟩ := K4.facts
    go_wp2_with fail
    exact bodyPost_ret (v := .agg #[.bool (decide (x < 0)), .slice B5 m5 k5, .bool (decide (y < 0)), .slice B6 m6 k6]) (by simp [results, Try.results62, go_sem, r0, r1, r2, r3]) rfl (RetFr.of_st K4)

set_option maxHeartbeats 8000000 in
set_option maxRecDepth 100000 in
theorem rsubF_at {w : World} {s1 s2 s3 s4 : Bool} {A1 A2 A3 A4 : Option Addr} {n1 c1 n2 c2 n3 c3 n4 c4 : Nat} {a b c d : Int} (h1 : IntAt w s1 A1 n1 c1 a) (h2 : IntAt w s2 A2 n2 c2 b) (h3 : IntAt w s3 A3 n3 c3 c) (h4 : IntAt w s4 A4 n4 c4 d) (za : Sz a 900) (zb : Sz b 900) (zc : Sz c 900) (zd : Sz d 900) :
    Calls Try.prog 64 #[.agg #[.bool s1, .slice A1 n1 c1, .bool s2, .slice A2 n2 c2], .agg #[.bool s3, .slice A3 n3 c3, .bool s4, .slice A4 n4 c4]] w (RetFr w (aN a b (-c) d) (aD a b (-c) d)) := by
  have H0 := (((((((St.start w).addI h1).addI h2).addI h3).addI h4).new 26 (Plains.four s1 A1 n1 c1 s2 A2 n2 c2)).new 26 (Plains.four s3 A3 n3 c3 s4 A4 n4 c4)).new 26 (Plains.four false none 0 0 false none 0 0)
  (try simp only [World.size_alloc] at H0)
  have HH := Lib.hid H0
  clear H0 h1 h2 h3 h4
  obtain ⟨x1, HX1⟩ : ∃ v, Hid (rn (-c) d = v) := ⟨_, rfl⟩
  obtain ⟨y1, HY1⟩ : ∃ v, Hid (rd (-c) d = v) := ⟨_, rfl⟩
  have zx1 : Sz x1 910 := by rw [← HX1.out]; exact (sz_rn zc.neg).mono (by decide)
  have zy1 : Sz y1 910 := by rw [← HY1.out]; exact (sz_rd zd (by decide)).mono (by decide)
  have kx1 := zx1.ok
  have ky1 := zy1.ok
  have zc1 : Sz c 1900 := zc.mono (by decide)
  have zd1 : Sz d 1900 := zd.mono (by decide)
  have za1 : Sz a 910 := za.mono (by decide)
  have zb1 : Sz b 910 := zb.mono (by decide)
  obtain ⟨x, HX⟩ : ∃ v, Hid (aN a b (-c) d = v) := ⟨_, rfl⟩
  obtain ⟨y, HY⟩ : ∃ v, Hid (aD a b (-c) d = v) := ⟨_, rfl⟩
  have HE : Hid (aN a b x1 y1 = x ∧ aD a b x1 y1 = y) := by unfold Hid; rw [← HX.out, ← HY.out, ← HX1.out, ← HY1.out]; exact add_r a b (-c) d
  rw [HX.out, HY.out]
  go_enter Try.func64, Try.ntmps64
  go_upto_region 1 with fail
  have Kd := HH.out.drew
  clear HH
  obtain ⟨_, ⟨p4, p5, p6, p7⟩, ⟨p0, p1, p2, p3⟩, _⟩ := Kd.facts
  obtain ⟨y1', y2'⟩ := Kd.ne 0 1 rfl rfl (by decide)
  obtain ⟨y3', y4'⟩ := Kd.ne 0 2 rfl rfl (by decide)
  have i3 := Kd.ints.2.1.i
  have i4 := Kd.ints.1.i
  go_region_held3 (fun w' => w'.cell? ⟨w.heap.size, 0, none⟩ = some (.bool s1) ∧ w'.cell? ⟨w.heap.size, 1, none⟩ = some (.slice A1 n1 c1) ∧ w'.cell? ⟨w.heap.size, 2, none⟩ = some (.bool s2) ∧ w'.cell? ⟨w.heap.size, 3, none⟩ = some (.slice A2 n2 c2) ∧ w'.cell? ⟨w.heap.size + 1, 0, none⟩ = some (.bool s3) ∧ w'.cell? ⟨w.heap.size + 1, 1, none⟩ = some (.slice A3 n3 c3) ∧ w'.cell? ⟨w.heap.size + 1, 2, none⟩ = some (.bool s4) ∧ w'.cell? ⟨w.heap.size + 1, 3, none⟩ = some (.slice A4 n4 c4))
    (go_keep)
    (first
      | (go_at_call 31; (with_reducible refine (rnegF_at i3 i4 zc1 zd1).mono ?_); rw [HX1.out, HY1.out]; rintro e wa ⟨B1, m1, k1, B2, m2, k2, rfl, d1, d2, ga⟩; have Ka := ((Kd.call ga).add d2).add d1; clear p0 p1 p2 p3 p4 p5 p6 p7; obtain ⟨_, ⟨p4, p5, p6, p7⟩, ⟨p0, p1, p2, p3⟩, _⟩ := Ka.facts; have i1 := Ka.ints.2.2.2.2.2.1.i; have i2 := Ka.ints.2.2.2.2.1.i; have i5 := Ka.ints.1.ci kx1; have i6 := Ka.ints.2.1.ci ky1)
      | (go_at_call 62; (with_reducible refine (raddF_at i1 i2 i5 i6 za1 zb1 zx1 zy1).mono ?_); rw [HE.out.1, HE.out.2]; rintro e wg ⟨B5, m5, k5, B6, m6, k6, rfl, d5, d6, g5⟩; have Ki := ((Ka.call g5).add d6).add d5; clear p0 p1 p2 p3 p4 p5 p6 p7; obtain ⟨⟨q0, q1, q2, q3⟩, ⟨p4, p5, p6, p7⟩, ⟨p0, p1, p2, p3⟩, _⟩ := Ki.facts; obtain ⟨f0, f1, f2, f3⟩ := Ki.free (i := 0) rfl)
      | fail)
  have K4 := Ki.put4 0 rfl (decide (x < 0)) B5 m5 k5 (decide (y < 0)) B6 m6 k6
  simp only [List.set] at K4
  obtain ⟨⟨r0, r1, r2, r3⟩, _⟩ := K4.facts
  go_wp2_with fail
  exact bodyPost_ret (v := .agg #[.bool (decide (x < 0)), .slice B5 m5 k5, .bool (decide (y < 0)), .slice B6 m6 k6]) (by simp [results, Try.results64, go_sem, r0, r1, r2, r3]) rfl (RetFr.of_st K4)

theorem IntAt.len_ {w : World} {s : Bool} {A : Option Addr} {n c : Nat} {x : Int} (h : IntAt w s A n c x) : n ≤ 1000000 := h.lim
set_option maxHeartbeats 8000000 in
set_option maxRecDepth 100000 in
theorem rdivF_at {w : World} {s1 s2 s3 s4 : Bool} {A1 A2 A3 A4 : Option Addr} {n1 c1 n2 c2 n3 c3 n4 c4 : Nat} {a b c d : Int} (h1 : IntAt w s1 A1 n1 c1 a) (h2 : IntAt w s2 A2 n2 c2 b) (h3 : IntAt w s3 A3 n3 c3 c) (h4 : IntAt w s4 A4 n4 c4 d) (za : Sz a 900) (zb : Sz b 900) (zc : Sz c 900) (zd : Sz d 900) :
    Calls Try.prog 63 #[.agg #[.bool s1, .slice A1 n1 c1, .bool s2, .slice A2 n2 c2], .agg #[.bool s3, .slice A3 n3 c3, .bool s4, .slice A4 n4 c4]] w (RetFE w (dvN a b c d) (dvD a b c d) (dvE c d)) := by
  have H0 := (((((((St.start w).addI h1).addI h2).addI h3).addI h4).new 26 (Plains.four s1 A1 n1 c1 s2 A2 n2 c2)).new 26 (Plains.four s3 A3 n3 c3 s4 A4 n4 c4)).new 26 (Plains.four false none 0 0 false none 0 0)
  (try simp only [World.size_alloc] at H0)
  have HH := Lib.hid H0
  clear H0 h1 h2 h3 h4
  obtain ⟨x1, HX1⟩ : ∃ v, Hid (rn a b = v) := ⟨_, rfl⟩
  obtain ⟨y1, HY1⟩ : ∃ v, Hid (rd a b = v) := ⟨_, rfl⟩
  obtain ⟨x2, HX2⟩ : ∃ v, Hid (rn c d = v) := ⟨_, rfl⟩
  obtain ⟨y2, HY2⟩ : ∃ v, Hid (rd c d = v) := ⟨_, rfl⟩
  have za1 : Sz a 1900 := za.mono (by decide)
  have zb1 : Sz b 1900 := zb.mono (by decide)
  have zc1 : Sz c 1900 := zc.mono (by decide)
  have zd1 : Sz d 1900 := zd.mono (by decide)
  have zx1 : Sz x1 900 := by rw [← HX1.out]; exact sz_rn za
  have zx2 : Sz x2 900 := by rw [← HX2.out]; exact sz_rn zc
  have zy1 : Sz y1 901 := by rw [← HY1.out]; exact sz_rd zb (by decide)
  have zy2 : Sz y2 901 := by rw [← HY2.out]; exact sz_rd zd (by decide)
  have kx1 := zx1.ok
  have kx2 := zx2.ok
  have ky1 := zy1.ok
  have ky2 := zy2.ok
  obtain ⟨sg, HS⟩ : ∃ v, Hid (sgn x2 = v) := ⟨_, rfl⟩
  by_cases hd : c = 0 ∨ d = 0
  · have HU : Hid (dvN a b c d = 0 ∧ dvD a b c d = 0 ∧ dvE c d = 11) := by unfold Hid dvN dvD dvE; simp [hd]
    rw [HU.out.1, HU.out.2.1, HU.out.2.2]
    have hsg : Hid (sg = 0) := by unfold Hid; rw [← HS.out, ← HX2.out]; exact sgn_eq_zero.2 ((rn_zero_iff c d).2 hd)
    clear hd
    go_enter Try.func63, Try.ntmps63
    go_upto_region 2 with (first
      | (go_at_call 27; have K := HH.out; clear HH; have i3 := K.ints.2.1.i; have i4 := K.ints.1.i; (with_reducible refine (reduce_at i3 i4 zc1 zd1).mono ?_); rw [HX2.out, HY2.out]; rintro e wa ⟨A7, n7, c7, A8, n8, c8, rfl, d7, d8, g7⟩; have Ka := ((K.call g7).add d8).add d7; obtain ⟨_, ⟨p4, p5, p6, p7⟩, ⟨p0, p1, p2, p3⟩, _⟩ := Ka.facts; obtain ⟨f0, f1, f2, f3⟩ := Ka.free (i := 1) rfl)
      | fail)
    have Kp := Ka.put4 1 rfl (decide (x2 < 0)) A7 n7 c7 (decide (y2 < 0)) A8 n8 c8
    simp only [List.set] at Kp
    clear K Ka i3 i4 p0 p1 p2 p3 p4 p5 p6 p7 f0 f1 f2 f3 d7 d8 g7
    generalize ((((wa.setCell ⟨w.heap.size + 1, 0, none⟩ (.bool (decide (x2 < 0)))).setCell ⟨w.heap.size + 1, 1, none⟩ (.slice A7 n7 c7)).setCell ⟨w.heap.size + 1, 2, none⟩ (.bool (decide (y2 < 0)))).setCell ⟨w.heap.size + 1, 3, none⟩ (.slice A8 n8 c8)) = W4 at Kp ⊢
    obtain ⟨_, ⟨p4, p5, p6, p7⟩, ⟨p0, p1, p2, p3⟩, _⟩ := Kp.facts
    have ix2 := Kp.ints.1.ci kx2
    go_upto_region 3 with (first
      | (go_at_call 58; (with_reducible refine (rsign_at ix2).mono ?_); rw [HS.out, hsg.out]; rintro e w1 ⟨rfl, g1⟩; have K1 := ((Kp.call g1).add (CanAt.zero_ _)).add (CanAt.zero_ _); obtain ⟨⟨q0, q1, q2, q3⟩, _⟩ := K1.facts; obtain ⟨f0, f1, f2, f3⟩ := K1.free (i := 0) rfl)
      | fail)
    have K4 := K1.put4 0 rfl false none 0 0 false none 0 0
    simp only [List.set] at K4
    obtain ⟨⟨r0, r1, r2, r3⟩, _⟩ := K4.facts
    go_wp2_with fail
    exact bodyPost_ret (v := .tuple #[.agg #[.bool (decide ((0 : Int) < 0)), .slice none 0 0, .bool (decide ((0 : Int) < 0)), .slice none 0 0], .int .i64 11]) (by simp [results, Try.results63, go_sem, r0, r1, r2, r3]) rfl (RetFE.of_st (x := 0) (y := 0) K4)
  · obtain ⟨x, HX⟩ : ∃ v, Hid (rn (a * d) (b * c) = v) := ⟨_, rfl⟩
    obtain ⟨y, HY⟩ : ∃ v, Hid (rd (a * d) (b * c) = v) := ⟨_, rfl⟩
    have HU : Hid (dvN a b c d = x ∧ dvD a b c d = y ∧ dvE c d = 0) := by unfold Hid dvN dvD dvE; rw [if_neg hd, if_neg hd, if_neg hd]; exact ⟨HX.out, HY.out, rfl⟩
    rw [HU.out.1, HU.out.2.1, HU.out.2.2]
    have hsg : ((sg : Int) == 0) = false := by
      rw [← HS.out, ← HX2.out]
      have : sgn (rn c d) ≠ 0 := fun h => hd ((rn_zero_iff c d).1 (sgn_eq_zero.1 h))
      simpa using this
    obtain ⟨p, HP⟩ : ∃ v, Hid (x1 * y2 = v) := ⟨_, rfl⟩
    obtain ⟨q, HQ⟩ : ∃ v, Hid (y1 * x2 = v) := ⟨_, rfl⟩
    have zp : Sz p 1900 := by rw [← HP.out]; exact (zx1.mul zy2).mono (by decide)
    have zq : Sz q 1900 := by rw [← HQ.out]; exact (zy1.mul zx2).mono (by decide)
    have kp := zp.ok
    have kq := zq.ok
    have HE : Hid (rn p q = x ∧ rd p q = y) := by
      unfold Hid
      rw [← HX.out, ← HY.out, ← HP.out, ← HQ.out, ← HX1.out, ← HX2.out, ← HY1.out, ← HY2.out]
      exact div_same (fun h => hd (Or.inl h)) (fun h => hd (Or.inr h))
    clear hd
    go_enter Try.func63, Try.ntmps63
    go_upto_region 2 with (first
      | (go_at_call 27; have K := HH.out; clear HH; have i3 := K.ints.2.1.i; have i4 := K.ints.1.i; (with_reducible refine (reduce_at i3 i4 zc1 zd1).mono ?_); rw [HX2.out, HY2.out]; rintro e wa ⟨A7, n7, c7, A8, n8, c8, rfl, d7, d8, g7⟩; have Ka := ((K.call g7).add d8).add d7; obtain ⟨_, ⟨p4, p5, p6, p7⟩, ⟨p0, p1, p2, p3⟩, _⟩ := Ka.facts; obtain ⟨f0, f1, f2, f3⟩ := Ka.free (i := 1) rfl)
      | fail)
    have Kp := Ka.put4 1 rfl (decide (x2 < 0)) A7 n7 c7 (decide (y2 < 0)) A8 n8 c8
    simp only [List.set] at Kp
    clear K Ka i3 i4 p0 p1 p2 p3 p4 p5 p6 p7 f0 f1 f2 f3 d7 d8 g7
    generalize ((((wa.setCell ⟨w.heap.size + 1, 0, none⟩ (.bool (decide (x2 < 0)))).setCell ⟨w.heap.size + 1, 1, none⟩ (.slice A7 n7 c7)).setCell ⟨w.heap.size + 1, 2, none⟩ (.bool (decide (y2 < 0)))).setCell ⟨w.heap.size + 1, 3, none⟩ (.slice A8 n8 c8)) = W4 at Kp ⊢
    obtain ⟨_, ⟨p4, p5, p6, p7⟩, ⟨p0, p1, p2, p3⟩, _⟩ := Kp.facts
    have ix2 := Kp.ints.1.ci kx2
    go_upto_region 4 with (first
      | (go_at_call 58; (with_reducible refine (rsign_at ix2).mono ?_); rw [HS.out]; rintro e w1 ⟨rfl, g1⟩; have K1 := Kp.call g1)
      | fail)
    have Kd := K1.drew
    clear K1 Kp ix2 p0 p1 p2 p3 p4 p5 p6 p7
    obtain ⟨_, ⟨p4, p5, p6, p7⟩, ⟨p0, p1, p2, p3⟩, _⟩ := Kd.facts
    obtain ⟨z1, z2⟩ := Kd.ne 0 1 rfl rfl (by decide)
    obtain ⟨z3, z4⟩ := Kd.ne 0 2 rfl rfl (by decide)
    have i1 := Kd.ints.2.2.2.2.2.1.i
    have i2 := Kd.ints.2.2.2.2.1.i
    have l7 : n7 ≤ 100000 := by rw [← Kd.ints.1.c.2.1.len]; exact zx2.len2
    have l8 : n8 ≤ 100000 := by rw [← Kd.ints.2.1.c.2.1.len]; exact zy2.len2
    have KL := Kd
    clear Kd
    go_region_held3 (fun w' => w'.cell? ⟨w.heap.size, 0, none⟩ = some (.bool s1) ∧ w'.cell? ⟨w.heap.size, 1, none⟩ = some (.slice A1 n1 c1) ∧ w'.cell? ⟨w.heap.size, 2, none⟩ = some (.bool s2) ∧ w'.cell? ⟨w.heap.size, 3, none⟩ = some (.slice A2 n2 c2) ∧ w'.cell? ⟨w.heap.size + 1, 0, none⟩ = some (.bool (decide (x2 < 0))) ∧ w'.cell? ⟨w.heap.size + 1, 1, none⟩ = some (.slice A7 n7 c7) ∧ w'.cell? ⟨w.heap.size + 1, 2, none⟩ = some (.bool (decide (y2 < 0))) ∧ w'.cell? ⟨w.heap.size + 1, 3, none⟩ = some (.slice A8 n8 c8))
      (go_keep)
      (first
        | (go_at_call_of 57 (Value.agg #[Value.bool (decide (x1 < 0)), Value.slice C1 m1 k1]); (with_reducible refine (rmul_at j1 j2 l5 l8).mono ?_); rw [HP.out]; rintro e wb ⟨C3, m3, k3, rfl, d3, u3, v3, g3⟩; have KM := (KL.call g3).add (CanAt.mk_ d3 u3 v3); clear KL; have KL := KM; clear KM; clear p0 p1 p2 p3 p4 p5 p6 p7; obtain ⟨_, ⟨p4, p5, p6, p7⟩, ⟨p0, p1, p2, p3⟩, _⟩ := KL.facts; have i1 := KL.ints.2.2.2.2.2.2.2.2.1.i; have i2 := KL.ints.2.2.2.2.2.2.2.1.i)
        | (go_at_call_of 57 (Value.agg #[Value.bool (decide (y1 < 0)), Value.slice D2 o2 r2]); (with_reducible refine (rmul_at j3 j4 l6 l7).mono ?_); rw [HQ.out]; rintro e wd ⟨C4, m4, k4, rfl, d4, u4, v4, g4⟩; have KM := (KL.call g4).add (CanAt.mk_ d4 u4 v4); clear KL; have KL := KM; clear KM; clear p0 p1 p2 p3 p4 p5 p6 p7; obtain ⟨_, ⟨p4, p5, p6, p7⟩, ⟨p0, p1, p2, p3⟩, _⟩ := KL.facts; have jp := KL.ints.2.2.2.1.ci kp; have jq := KL.ints.1.ci kq)
        | (go_at_call_of 27 (Value.agg #[Value.bool s1, Value.slice A1 n1 c1, Value.bool s2, Value.slice A2 n2 c2]); have hl5 := l5; (with_reducible refine (reduce_at i1 i2 za1 zb1).mono ?_); rw [HX1.out, HY1.out]; rintro e we ⟨D1, o1, r1, D2, o2, r2, rfl, d1, d2, g1⟩; have KM := ((KL.call g1).add d2).add d1; clear KL; have KL := KM; clear KM; clear p0 p1 p2 p3 p4 p5 p6 p7; obtain ⟨_, ⟨p4, p5, p6, p7⟩, ⟨p0, p1, p2, p3⟩, _⟩ := KL.facts; have j3 := KL.ints.2.1.ci ky1; have j4 := KL.ints.2.2.2.2.2.1.ci kx2; have l6 : o2 ≤ 100000 := (by rw [← d2.2.1.len]; exact zy1.len2); have hfd2 := field_den (decide (x1 < 0)) (decide (y1 < 0)) D1 D2 o1 r1 o2 r2)
        | (go_at_call_of 27 (Value.agg #[Value.bool s1, Value.slice A1 n1 c1, Value.bool s2, Value.slice A2 n2 c2]); (with_reducible refine (reduce_at i1 i2 za1 zb1).mono ?_); rw [HX1.out, HY1.out]; rintro e wc ⟨C1, m1, k1, C2, m2, k2, rfl, d1, d2, g1⟩; have KM := ((KL.call g1).add d2).add d1; clear KL; have KL := KM; clear KM; clear p0 p1 p2 p3 p4 p5 p6 p7; obtain ⟨_, ⟨p4, p5, p6, p7⟩, ⟨p0, p1, p2, p3⟩, _⟩ := KL.facts; have j1 := KL.ints.1.ci kx1; have j2 := KL.ints.2.2.2.1.ci ky2; have l5 : m1 ≤ 100000 := (by rw [← d1.2.1.len]; exact zx1.len2); have hfd := field_num (decide (x1 < 0)) (decide (y1 < 0)) C1 C2 m1 k1 m2 k2)
        | (go_at_call 27; (with_reducible refine (reduce_at jp jq zp zq).mono ?_); rw [HE.out.1, HE.out.2]; rintro e wf ⟨B5, m5, k5, B6, m6, k6, rfl, d5, d6, gc⟩; have KM := ((KL.call gc).add d6).add d5; clear KL; have KL := KM; clear KM; clear p0 p1 p2 p3 p4 p5 p6 p7; obtain ⟨⟨q4, q5, q6, q7⟩, ⟨p4, p5, p6, p7⟩, ⟨p0, p1, p2, p3⟩, _⟩ := KL.facts; obtain ⟨f0, f1, f2, f3⟩ := KL.free (i := 0) rfl)
        | fail)
    have K4 := KL.put4 0 rfl (decide (x < 0)) B5 m5 k5 (decide (y < 0)) B6 m6 k6
    simp only [List.set] at K4
    obtain ⟨⟨r0, r1, r2, r3⟩, _⟩ := K4.facts
    go_wp2_with fail
    exact bodyPost_ret (v := .tuple #[.agg #[.bool (decide (x < 0)), .slice B5 m5 k5, .bool (decide (y < 0)), .slice B6 m6 k6], .int .i64 0]) (by simp [results, Try.results63, go_sem, r0, r1, r2, r3]) rfl (RetFE.of_st K4)

theorem same2_at {w : World} {s1 s2 s3 s4 : Bool} {A1 A2 A3 A4 : Option Addr} {n1 c1 n2 c2 n3 c3 n4 c4 : Nat} {x y : Int} (h1 : CanAt w s1 A1 n1 c1 x) (h2 : CanAt w s2 A2 n2 c2 y) (h3 : CanAt w s3 A3 n3 c3 x) (h4 : CanAt w s4 A4 n4 c4 y) :
    Calls Try.prog 9 #[.agg #[.bool s1, .slice A1 n1 c1, .bool s2, .slice A2 n2 c2], .agg #[.bool s3, .slice A3 n3 c3, .bool s4, .slice A4 n4 c4]] w (RetT1 w) := by
  have H0 := ((((((St.start w).add h4).add h3).add h2).add h1).new 26 (Plains.four s1 A1 n1 c1 s2 A2 n2 c2)).new 26 (Plains.four s3 A3 n3 c3 s4 A4 n4 c4)
  simp only [World.size_alloc] at H0
  have HH := Lib.hid H0
  clear H0 h1 h2 h3 h4
  go_enter Try.func9, Try.ntmps9
  go_wp2_with (first
    | (go_at_call 33; have K := HH.out; clear HH; have i1 := K.ints.1.c; have i2 := K.ints.2.1.c; have i3 := K.ints.2.2.1.c; have i4 := K.ints.2.2.2.1.c; (with_reducible refine (sameFrac_at i1 i2 i3 i4).mono ?_); rintro e w1 ⟨rfl, g1⟩; have K1 := K.call g1)
    | fail)
  go_ret
  exact ⟨rfl, K1.below⟩
end Go.Proofs.Ytgjkgmlcfieodaa

