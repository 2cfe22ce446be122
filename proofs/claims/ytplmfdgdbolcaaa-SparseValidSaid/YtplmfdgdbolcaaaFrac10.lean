/-
  Differences, comparisons and quotients of fractions, by the program.
-/
import Derived.Test.YtplmfdgdbolcaaaFrac8
import Derived.Test.YtplmfdgdbolcaaaFrAdd2
set_option linter.unusedVariables false
set_option linter.unusedSimpArgs false
namespace Go.Proofs.Ytplmfdgdbolcaaa
open Go.RowKit

theorem IntAt.flip {w : World} {s : Bool} {A : Option Addr} {n c : Nat} {x : Int} (h : IntAt w s A n c x) : IntAt w (!s) A n c (-x) := by
  obtain ⟨ds, h1, h2, h3, rfl, h5⟩ := h
  exact ⟨ds, h1, h2, h3, zOf_not s _, h5⟩

set_option maxHeartbeats 8000000 in
set_option maxRecDepth 100000 in
theorem fsub_at {w : World} {s1 s2 s3 s4 : Bool} {A1 A2 A3 A4 : Option Addr} {n1 c1 n2 c2 n3 c3 n4 c4 : Nat} {a b c d : Int} (h1 : IntAt w s1 A1 n1 c1 a) (h2 : IntAt w s2 A2 n2 c2 b) (h3 : IntAt w s3 A3 n3 c3 c) (h4 : IntAt w s4 A4 n4 c4 d) (za : Sz a 900) (zb : Sz b 900) (zc : Sz c 900) (zd : Sz d 900) :
    Calls Try.prog 46 #[.agg #[.bool s1, .slice A1 n1 c1, .bool s2, .slice A2 n2 c2], .agg #[.bool s3, .slice A3 n3 c3, .bool s4, .slice A4 n4 c4]] w (RetFr w (aN a b (-c) d) (aD a b (-c) d)) := by
  have h3 := h3.flip
  have zc := zc.neg
  have H0 := (((((((St.start w).addI h1).addI h2).addI h3).addI h4).new 42 (Plains.four s1 A1 n1 c1 s2 A2 n2 c2)).new 42 (Plains.four s3 A3 n3 c3 s4 A4 n4 c4)).new 42 (Plains.four false none 0 0 false none 0 0)
  (try simp only [World.size_alloc] at H0)
  have HH := Lib.hid H0
  clear H0 h1 h2 h3 h4
  obtain ⟨c', HC⟩ : ∃ v, Hid (-c = v) := ⟨_, rfl⟩
  rw [HC.out] at HH zc
  rw [HC.out]
  obtain ⟨x, HX⟩ : ∃ v, Hid (aN a b c' d = v) := ⟨_, rfl⟩
  obtain ⟨y, HY⟩ : ∃ v, Hid (aD a b c' d = v) := ⟨_, rfl⟩
  rw [HX.out, HY.out]
  go_enter Try.func46, Try.ntmps46
  go_upto_region 1 with fail
  have K := HH.out
  clear HH
  generalize ((w.alloc (.cells #[.bool s1, .slice A1 n1 c1, .bool s2, .slice A2 n2 c2] 42)).alloc (.cells #[.bool s3, .slice A3 n3 c3, .bool s4, .slice A4 n4 c4] 42)).alloc (.cells #[.bool false, .slice none 0 0, .bool false, .slice none 0 0] 42) = W0 at K ⊢
  obtain ⟨_, ⟨p4, p5, p6, p7⟩, ⟨p0, p1, p2, p3⟩, _⟩ := K.facts
  obtain ⟨f0, _⟩ := K.free (i := 1) rfl
  go_upto_region 2 with fail
  have K2 := K.set (i := 1) rfl 0 (Plain.bool (!s3))
  simp only [List.set] at K2
  clear K p0 p1 p2 p3 p4 p5 p6 p7 f0
  generalize W0.setCell ⟨w.heap.size + 1, 0, none⟩ (.bool (!s3)) = W1 at K2 ⊢
  obtain ⟨_, ⟨p4, p5, p6, p7⟩, ⟨p0, p1, p2, p3⟩, _⟩ := K2.facts
  have i1 := K2.ints.2.2.2.1.i
  have i2 := K2.ints.2.2.1.i
  have i3 := K2.ints.2.1.i
  have i4 := K2.ints.1.i
  go_wp2_with (first
    | (go_at_call 44; (with_reducible refine (fadd_at i1 i2 i3 i4 za zb zc zd).mono ?_); rw [HX.out, HY.out]; rintro e wa ⟨B1, m1, k1, B2, m2, k2, rfl, d1, d2, ga⟩; have Ka := ((K2.call ga).add d2).add d1; obtain ⟨⟨q0, q1, q2, q3⟩, _⟩ := Ka.facts; obtain ⟨f0, f1, f2, f3⟩ := Ka.free (i := 0) rfl)
    | fail)
  have K4 := Ka.put4 0 rfl (decide (x < 0)) B1 m1 k1 (decide (y < 0)) B2 m2 k2
  simp only [List.set] at K4
  obtain ⟨⟨r0, r1, r2, r3⟩, _⟩ := K4.facts
  exact bodyPost_ret (v := .agg #[.bool (decide (x < 0)), .slice B1 m1 k1, .bool (decide (y < 0)), .slice B2 m2 k2]) (by simp [results, Try.results46, go_sem, r0, r1, r2, r3]) rfl (RetFr.of_st K4)

set_option maxHeartbeats 8000000 in
set_option maxRecDepth 100000 in
theorem fcompare_at {w : World} {s1 s2 s3 s4 : Bool} {A1 A2 A3 A4 : Option Addr} {n1 c1 n2 c2 n3 c3 n4 c4 : Nat} {a b c d : Int} (h1 : IntAt w s1 A1 n1 c1 a) (h2 : IntAt w s2 A2 n2 c2 b) (h3 : IntAt w s3 A3 n3 c3 c) (h4 : IntAt w s4 A4 n4 c4 d) (za : Sz a 2000) (zb : Sz b 2000) (zc : Sz c 2000) (zd : Sz d 2000) :
    Calls Try.prog 35 #[.agg #[.bool s1, .slice A1 n1 c1, .bool s2, .slice A2 n2 c2], .agg #[.bool s3, .slice A3 n3 c3, .bool s4, .slice A4 n4 c4]] w (RetN w (cmpI (un a b * ud c d) (un c d * ud a b))) := by
  have H0 := (((((((St.start w).addI h1).addI h2).addI h3).addI h4).new 42 (Plains.four s1 A1 n1 c1 s2 A2 n2 c2)).new 42 (Plains.four s3 A3 n3 c3 s4 A4 n4 c4))
  (try simp only [World.size_alloc] at H0)
  have HH := Lib.hid H0
  clear H0 h1 h2 h3 h4
  obtain ⟨x1, HX1⟩ : ∃ v, Hid (un a b = v) := ⟨_, rfl⟩
  obtain ⟨y1, HY1⟩ : ∃ v, Hid (ud a b = v) := ⟨_, rfl⟩
  obtain ⟨x2, HX2⟩ : ∃ v, Hid (un c d = v) := ⟨_, rfl⟩
  obtain ⟨y2, HY2⟩ : ∃ v, Hid (ud c d = v) := ⟨_, rfl⟩
  have ka := za.ok
  have kb := zb.ok
  have kc := zc.ok
  have kd := zd.ok
  have zx1 : Sz x1 2000 := by rw [← HX1.out]; exact sz_un za
  have zx2 : Sz x2 2000 := by rw [← HX2.out]; exact sz_un zc
  have zy1 : Sz y1 2001 := by rw [← HY1.out]; exact sz_ud zb (by decide)
  have zy2 : Sz y2 2001 := by rw [← HY2.out]; exact sz_ud zd (by decide)
  obtain ⟨p, HP⟩ : ∃ v, Hid (x1 * y2 = v) := ⟨_, rfl⟩
  obtain ⟨q, HQ⟩ : ∃ v, Hid (x2 * y1 = v) := ⟨_, rfl⟩
  obtain ⟨v, HV⟩ : ∃ v, Hid (cmpI p q = v) := ⟨_, rfl⟩
  have kp : (digs p.natAbs).length ≤ 1000000 := by rw [← HP.out]; exact (zx1.mul zy2).ok
  have kq : (digs q.natAbs).length ≤ 1000000 := by rw [← HQ.out]; exact (zx2.mul zy1).ok
  rw [HX1.out, HX2.out, HY1.out, HY2.out, HP.out, HQ.out, HV.out]
  go_enter Try.func35, Try.ntmps35
  go_upto_region 1 with fail
  have KC := HH.out
  clear HH
  go_cut [] (fun wx => ∃ (s5 : Bool) (A5 : Option Addr) (n5 c5 : Nat) (s6 : Bool) (A6 : Option Addr) (n6 c6 : Nat) (s7 : Bool) (A7 : Option Addr) (n7 c7 : Nat) (s8 : Bool) (A8 : Option Addr) (n8 c8 : Nat), St w wx [vf (w.heap.size + 1) s7 A7 n7 c7 s8 A8 n8 c8, vf w.heap.size s5 A5 n5 c5 s6 A6 n6 c6] [(s7, A7, n7, c7, x2, false), (s8, A8, n8, c8, y2, false), (s5, A5, n5, c5, x1, false), (s6, A6, n6, c6, y1, false)])
  case first =>
    have Kd := KC.drew
    clear KC
    obtain ⟨⟨p4, p5, p6, p7⟩, ⟨p0, p1, p2, p3⟩, _⟩ := Kd.facts
    obtain ⟨z1, z2⟩ := Kd.ne 0 1 rfl rfl (by decide)
    have i1 := Kd.ints.2.2.2.1.i
    have i2 := Kd.ints.2.2.1.i
    skip
    refine wp_region_held_drew (S := fun w' => True) (by kernel_rfl) ?_ (fun hHeld0 => ?_)
    · (first | trivial | ((try dsimp only); go_keep))
    refine wpAnyH_ready (rs := [0, 2]) (by kernel_rfl) (by simp) ?_
    refine AllReadyH.cons (o := ⟨some 5, _, _, _, _, _⟩) rfl (fun K hK => ?_) ?_
    · skip
      go_simp
      refine hK.out _ _ ?_ (fun hHeld1 => ?_)
      · (first | trivial | ((try dsimp only); go_keep))
      clear hK K hHeld0
      (try simp only [Act.put, List.setIfInBounds_toArray, List.set_cons_zero, List.set_cons_succ])
      refine wpAnyH_ready (rs := [1, 2]) (by kernel_rfl) (by simp) ?_
      refine AllReadyH.cons (o := ⟨some 6, _, _, _, _, _⟩) rfl (fun K hK => ?_) ?_
      · skip
        go_simp
        (first | (go_at_call_of 119 (Value.agg #[Value.bool s1, Value.slice A1 n1 c1, Value.bool s2, Value.slice A2 n2 c2]); (with_reducible refine (upright_at i1 i2 ka kb).mono ?_); rw [HX1.out, HY1.out]; rintro e wa ⟨s5, A5, n5, c5, s6, A6, n6, c6, rfl, d5, d6, g5⟩; have Ka := ((Kd.call g5).addI d6).addI d5; clear p0 p1 p2 p3 p4 p5 p6 p7; obtain ⟨⟨p4, p5, p6, p7⟩, ⟨p0, p1, p2, p3⟩, _⟩ := Ka.facts; have i3 := Ka.ints.2.2.2.1.i; have i4 := Ka.ints.2.2.1.i) | (go_at_call_of 119 (Value.agg #[Value.bool s3, Value.slice A3 n3 c3, Value.bool s4, Value.slice A4 n4 c4]); (with_reducible refine (upright_at i3 i4 kc kd).mono ?_); rw [HX2.out, HY2.out]; rintro e wb ⟨s7, A7, n7, c7, s8, A8, n8, c8, rfl, d7, d8, g7⟩; have Kb := ((Ka.call g7).addI d8).addI d7; clear p0 p1 p2 p3 p4 p5 p6 p7; obtain ⟨⟨p4, p5, p6, p7⟩, ⟨p0, p1, p2, p3⟩, _⟩ := Kb.facts; obtain ⟨f0, f1, f2, f3⟩ := Kb.free (i := 0) rfl; obtain ⟨f4, f5, f6, f7⟩ := Kb.free (i := 1) rfl) | fail)
        (try go_wp2_with fail)
        refine hK.out _ _ ?_ (fun hHeld2 => ?_)
        · (first | trivial | ((try dsimp only); go_keep))
        clear hK K hHeld1
        (try simp only [Act.put, List.setIfInBounds_toArray, List.set_cons_zero, List.set_cons_succ])
        refine wpAnyH_ready (rs := [2]) (by kernel_rfl) (by simp) ?_
        refine AllReadyH.cons (o := ⟨some 7, _, _, _, _, _⟩) rfl (fun K hK => ?_) AllReadyH.nil
        go_simp
        refine hK.out _ _ ?_ (fun hHeld3 => ?_)
        · (first | trivial | ((try dsimp only); go_keep))
        clear hK K hHeld2
        (try simp only [Act.put, List.setIfInBounds_toArray, List.set_cons_zero, List.set_cons_succ])
        refine wpAnyH_ready (rs := [3]) (by kernel_rfl) (by simp) ?_
        refine AllReadyH.cons (o := ⟨some 8, _, _, _, _, _⟩) rfl (fun K hK => ?_) AllReadyH.nil
        go_simp
        (first | (go_at_call_of 119 (Value.agg #[Value.bool s1, Value.slice A1 n1 c1, Value.bool s2, Value.slice A2 n2 c2]); (with_reducible refine (upright_at i1 i2 ka kb).mono ?_); rw [HX1.out, HY1.out]; rintro e wa ⟨s5, A5, n5, c5, s6, A6, n6, c6, rfl, d5, d6, g5⟩; have Ka := ((Kd.call g5).addI d6).addI d5; clear p0 p1 p2 p3 p4 p5 p6 p7; obtain ⟨⟨p4, p5, p6, p7⟩, ⟨p0, p1, p2, p3⟩, _⟩ := Ka.facts; have i3 := Ka.ints.2.2.2.1.i; have i4 := Ka.ints.2.2.1.i) | (go_at_call_of 119 (Value.agg #[Value.bool s3, Value.slice A3 n3 c3, Value.bool s4, Value.slice A4 n4 c4]); (with_reducible refine (upright_at i3 i4 kc kd).mono ?_); rw [HX2.out, HY2.out]; rintro e wb ⟨s7, A7, n7, c7, s8, A8, n8, c8, rfl, d7, d8, g7⟩; have Kb := ((Ka.call g7).addI d8).addI d7; clear p0 p1 p2 p3 p4 p5 p6 p7; obtain ⟨⟨p4, p5, p6, p7⟩, ⟨p0, p1, p2, p3⟩, _⟩ := Kb.facts; obtain ⟨f0, f1, f2, f3⟩ := Kb.free (i := 0) rfl; obtain ⟨f4, f5, f6, f7⟩ := Kb.free (i := 1) rfl) | fail)
        (try go_wp2_with fail)
        refine hK.out _ _ ?_ (fun hHeld4 => ?_)
        · (first | trivial | ((try dsimp only); go_keep))
        clear hK K hHeld3
        (try simp only [Act.put, List.setIfInBounds_toArray, List.set_cons_zero, List.set_cons_succ])
        refine wpAnyH_ready (rs := [4]) (by kernel_rfl) (by simp) ?_
        refine AllReadyH.cons (o := ⟨none, _, _, _, _, _⟩) rfl (fun K hK => ?_) AllReadyH.nil
        go_simp
        refine hK.out _ _ ?_ (fun hHeld5 => ?_)
        · (first | trivial | ((try dsimp only); go_keep))
        clear hK K hHeld4
        (try simp only [Act.put, List.setIfInBounds_toArray, List.set_cons_zero, List.set_cons_succ])
        refine wpAnyH_ready (rs := [5]) (by kernel_rfl) (by simp) ?_
        refine AllReadyH.cons (o := ⟨none, _, _, _, _, _⟩) rfl (fun K hK => ?_) AllReadyH.nil
        go_simp
        refine hK.out _ _ ?_ (fun hHeld6 => ?_)
        · (first | trivial | ((try dsimp only); go_keep))
        clear hK K hHeld5
        (try simp only [Act.put, List.setIfInBounds_toArray, List.set_cons_zero, List.set_cons_succ])
        refine wpAnyH_done (by kernel_rfl) ?_ _
        go_wp2_with fail
        go_meet
        have KF := (Kb.put4 1 rfl s5 A5 n5 c5 s6 A6 n6 c6).put4 0 rfl s7 A7 n7 c7 s8 A8 n8 c8
        simp only [List.set] at KF
        exact ⟨s5, A5, n5, c5, s6, A6, n6, c6, s7, A7, n7, c7, s8, A8, n8, c8, KF.ints_ ⟨KF.ints.1, KF.ints.2.1, KF.ints.2.2.1, KF.ints.2.2.2.1, trivial⟩⟩
      refine AllReadyH.cons (o := ⟨some 7, _, _, _, _, _⟩) rfl (fun K hK => ?_) AllReadyH.nil
      go_simp
      refine hK.out _ _ ?_ (fun hHeld2 => ?_)
      · (first | trivial | ((try dsimp only); go_keep))
      clear hK K hHeld1
      (try simp only [Act.put, List.setIfInBounds_toArray, List.set_cons_zero, List.set_cons_succ])
      refine wpAnyH_ready (rs := [1]) (by kernel_rfl) (by simp) ?_
      refine AllReadyH.cons (o := ⟨some 6, _, _, _, _, _⟩) rfl (fun K hK => ?_) AllReadyH.nil
      go_simp
      (first | (go_at_call_of 119 (Value.agg #[Value.bool s1, Value.slice A1 n1 c1, Value.bool s2, Value.slice A2 n2 c2]); (with_reducible refine (upright_at i1 i2 ka kb).mono ?_); rw [HX1.out, HY1.out]; rintro e wa ⟨s5, A5, n5, c5, s6, A6, n6, c6, rfl, d5, d6, g5⟩; have Ka := ((Kd.call g5).addI d6).addI d5; clear p0 p1 p2 p3 p4 p5 p6 p7; obtain ⟨⟨p4, p5, p6, p7⟩, ⟨p0, p1, p2, p3⟩, _⟩ := Ka.facts; have i3 := Ka.ints.2.2.2.1.i; have i4 := Ka.ints.2.2.1.i) | (go_at_call_of 119 (Value.agg #[Value.bool s3, Value.slice A3 n3 c3, Value.bool s4, Value.slice A4 n4 c4]); (with_reducible refine (upright_at i3 i4 kc kd).mono ?_); rw [HX2.out, HY2.out]; rintro e wb ⟨s7, A7, n7, c7, s8, A8, n8, c8, rfl, d7, d8, g7⟩; have Kb := ((Ka.call g7).addI d8).addI d7; clear p0 p1 p2 p3 p4 p5 p6 p7; obtain ⟨⟨p4, p5, p6, p7⟩, ⟨p0, p1, p2, p3⟩, _⟩ := Kb.facts; obtain ⟨f0, f1, f2, f3⟩ := Kb.free (i := 0) rfl; obtain ⟨f4, f5, f6, f7⟩ := Kb.free (i := 1) rfl) | fail)
      (try go_wp2_with fail)
      refine hK.out _ _ ?_ (fun hHeld3 => ?_)
      · (first | trivial | ((try dsimp only); go_keep))
      clear hK K hHeld2
      (try simp only [Act.put, List.setIfInBounds_toArray, List.set_cons_zero, List.set_cons_succ])
      refine wpAnyH_ready (rs := [3]) (by kernel_rfl) (by simp) ?_
      refine AllReadyH.cons (o := ⟨some 8, _, _, _, _, _⟩) rfl (fun K hK => ?_) AllReadyH.nil
      go_simp
      (first | (go_at_call_of 119 (Value.agg #[Value.bool s1, Value.slice A1 n1 c1, Value.bool s2, Value.slice A2 n2 c2]); (with_reducible refine (upright_at i1 i2 ka kb).mono ?_); rw [HX1.out, HY1.out]; rintro e wa ⟨s5, A5, n5, c5, s6, A6, n6, c6, rfl, d5, d6, g5⟩; have Ka := ((Kd.call g5).addI d6).addI d5; clear p0 p1 p2 p3 p4 p5 p6 p7; obtain ⟨⟨p4, p5, p6, p7⟩, ⟨p0, p1, p2, p3⟩, _⟩ := Ka.facts; have i3 := Ka.ints.2.2.2.1.i; have i4 := Ka.ints.2.2.1.i) | (go_at_call_of 119 (Value.agg #[Value.bool s3, Value.slice A3 n3 c3, Value.bool s4, Value.slice A4 n4 c4]); (with_reducible refine (upright_at i3 i4 kc kd).mono ?_); rw [HX2.out, HY2.out]; rintro e wb ⟨s7, A7, n7, c7, s8, A8, n8, c8, rfl, d7, d8, g7⟩; have Kb := ((Ka.call g7).addI d8).addI d7; clear p0 p1 p2 p3 p4 p5 p6 p7; obtain ⟨⟨p4, p5, p6, p7⟩, ⟨p0, p1, p2, p3⟩, _⟩ := Kb.facts; obtain ⟨f0, f1, f2, f3⟩ := Kb.free (i := 0) rfl; obtain ⟨f4, f5, f6, f7⟩ := Kb.free (i := 1) rfl) | fail)
      (try go_wp2_with fail)
      refine hK.out _ _ ?_ (fun hHeld4 => ?_)
      · (first | trivial | ((try dsimp only); go_keep))
      clear hK K hHeld3
      (try simp only [Act.put, List.setIfInBounds_toArray, List.set_cons_zero, List.set_cons_succ])
      refine wpAnyH_ready (rs := [4]) (by kernel_rfl) (by simp) ?_
      refine AllReadyH.cons (o := ⟨none, _, _, _, _, _⟩) rfl (fun K hK => ?_) AllReadyH.nil
      go_simp
      refine hK.out _ _ ?_ (fun hHeld5 => ?_)
      · (first | trivial | ((try dsimp only); go_keep))
      clear hK K hHeld4
      (try simp only [Act.put, List.setIfInBounds_toArray, List.set_cons_zero, List.set_cons_succ])
      refine wpAnyH_ready (rs := [5]) (by kernel_rfl) (by simp) ?_
      refine AllReadyH.cons (o := ⟨none, _, _, _, _, _⟩) rfl (fun K hK => ?_) AllReadyH.nil
      go_simp
      refine hK.out _ _ ?_ (fun hHeld6 => ?_)
      · (first | trivial | ((try dsimp only); go_keep))
      clear hK K hHeld5
      (try simp only [Act.put, List.setIfInBounds_toArray, List.set_cons_zero, List.set_cons_succ])
      refine wpAnyH_done (by kernel_rfl) ?_ _
      go_wp2_with fail
      go_meet
      have KF := (Kb.put4 1 rfl s5 A5 n5 c5 s6 A6 n6 c6).put4 0 rfl s7 A7 n7 c7 s8 A8 n8 c8
      simp only [List.set] at KF
      exact ⟨s5, A5, n5, c5, s6, A6, n6, c6, s7, A7, n7, c7, s8, A8, n8, c8, KF.ints_ ⟨KF.ints.1, KF.ints.2.1, KF.ints.2.2.1, KF.ints.2.2.2.1, trivial⟩⟩
    refine AllReadyH.cons (o := ⟨some 7, _, _, _, _, _⟩) rfl (fun K hK => ?_) AllReadyH.nil
    go_simp
    refine hK.out _ _ ?_ (fun hHeld1 => ?_)
    · (first | trivial | ((try dsimp only); go_keep))
    clear hK K hHeld0
    (try simp only [Act.put, List.setIfInBounds_toArray, List.set_cons_zero, List.set_cons_succ])
    refine wpAnyH_ready (rs := [0]) (by kernel_rfl) (by simp) ?_
    refine AllReadyH.cons (o := ⟨some 5, _, _, _, _, _⟩) rfl (fun K hK => ?_) AllReadyH.nil
    go_simp
    refine hK.out _ _ ?_ (fun hHeld2 => ?_)
    · (first | trivial | ((try dsimp only); go_keep))
    clear hK K hHeld1
    (try simp only [Act.put, List.setIfInBounds_toArray, List.set_cons_zero, List.set_cons_succ])
    refine wpAnyH_ready (rs := [1]) (by kernel_rfl) (by simp) ?_
    refine AllReadyH.cons (o := ⟨some 6, _, _, _, _, _⟩) rfl (fun K hK => ?_) AllReadyH.nil
    go_simp
    (first | (go_at_call_of 119 (Value.agg #[Value.bool s1, Value.slice A1 n1 c1, Value.bool s2, Value.slice A2 n2 c2]); (with_reducible refine (upright_at i1 i2 ka kb).mono ?_); rw [HX1.out, HY1.out]; rintro e wa ⟨s5, A5, n5, c5, s6, A6, n6, c6, rfl, d5, d6, g5⟩; have Ka := ((Kd.call g5).addI d6).addI d5; clear p0 p1 p2 p3 p4 p5 p6 p7; obtain ⟨⟨p4, p5, p6, p7⟩, ⟨p0, p1, p2, p3⟩, _⟩ := Ka.facts; have i3 := Ka.ints.2.2.2.1.i; have i4 := Ka.ints.2.2.1.i) | (go_at_call_of 119 (Value.agg #[Value.bool s3, Value.slice A3 n3 c3, Value.bool s4, Value.slice A4 n4 c4]); (with_reducible refine (upright_at i3 i4 kc kd).mono ?_); rw [HX2.out, HY2.out]; rintro e wb ⟨s7, A7, n7, c7, s8, A8, n8, c8, rfl, d7, d8, g7⟩; have Kb := ((Ka.call g7).addI d8).addI d7; clear p0 p1 p2 p3 p4 p5 p6 p7; obtain ⟨⟨p4, p5, p6, p7⟩, ⟨p0, p1, p2, p3⟩, _⟩ := Kb.facts; obtain ⟨f0, f1, f2, f3⟩ := Kb.free (i := 0) rfl; obtain ⟨f4, f5, f6, f7⟩ := Kb.free (i := 1) rfl) | fail)
    (try go_wp2_with fail)
    refine hK.out _ _ ?_ (fun hHeld3 => ?_)
    · (first | trivial | ((try dsimp only); go_keep))
    clear hK K hHeld2
    (try simp only [Act.put, List.setIfInBounds_toArray, List.set_cons_zero, List.set_cons_succ])
    refine wpAnyH_ready (rs := [3]) (by kernel_rfl) (by simp) ?_
    refine AllReadyH.cons (o := ⟨some 8, _, _, _, _, _⟩) rfl (fun K hK => ?_) AllReadyH.nil
    go_simp
    (first | (go_at_call_of 119 (Value.agg #[Value.bool s1, Value.slice A1 n1 c1, Value.bool s2, Value.slice A2 n2 c2]); (with_reducible refine (upright_at i1 i2 ka kb).mono ?_); rw [HX1.out, HY1.out]; rintro e wa ⟨s5, A5, n5, c5, s6, A6, n6, c6, rfl, d5, d6, g5⟩; have Ka := ((Kd.call g5).addI d6).addI d5; clear p0 p1 p2 p3 p4 p5 p6 p7; obtain ⟨⟨p4, p5, p6, p7⟩, ⟨p0, p1, p2, p3⟩, _⟩ := Ka.facts; have i3 := Ka.ints.2.2.2.1.i; have i4 := Ka.ints.2.2.1.i) | (go_at_call_of 119 (Value.agg #[Value.bool s3, Value.slice A3 n3 c3, Value.bool s4, Value.slice A4 n4 c4]); (with_reducible refine (upright_at i3 i4 kc kd).mono ?_); rw [HX2.out, HY2.out]; rintro e wb ⟨s7, A7, n7, c7, s8, A8, n8, c8, rfl, d7, d8, g7⟩; have Kb := ((Ka.call g7).addI d8).addI d7; clear p0 p1 p2 p3 p4 p5 p6 p7; obtain ⟨⟨p4, p5, p6, p7⟩, ⟨p0, p1, p2, p3⟩, _⟩ := Kb.facts; obtain ⟨f0, f1, f2, f3⟩ := Kb.free (i := 0) rfl; obtain ⟨f4, f5, f6, f7⟩ := Kb.free (i := 1) rfl) | fail)
    (try go_wp2_with fail)
    refine hK.out _ _ ?_ (fun hHeld4 => ?_)
    · (first | trivial | ((try dsimp only); go_keep))
    clear hK K hHeld3
    (try simp only [Act.put, List.setIfInBounds_toArray, List.set_cons_zero, List.set_cons_succ])
    refine wpAnyH_ready (rs := [4]) (by kernel_rfl) (by simp) ?_
    refine AllReadyH.cons (o := ⟨none, _, _, _, _, _⟩) rfl (fun K hK => ?_) AllReadyH.nil
    go_simp
    refine hK.out _ _ ?_ (fun hHeld5 => ?_)
    · (first | trivial | ((try dsimp only); go_keep))
    clear hK K hHeld4
    (try simp only [Act.put, List.setIfInBounds_toArray, List.set_cons_zero, List.set_cons_succ])
    refine wpAnyH_ready (rs := [5]) (by kernel_rfl) (by simp) ?_
    refine AllReadyH.cons (o := ⟨none, _, _, _, _, _⟩) rfl (fun K hK => ?_) AllReadyH.nil
    go_simp
    refine hK.out _ _ ?_ (fun hHeld6 => ?_)
    · (first | trivial | ((try dsimp only); go_keep))
    clear hK K hHeld5
    (try simp only [Act.put, List.setIfInBounds_toArray, List.set_cons_zero, List.set_cons_succ])
    refine wpAnyH_done (by kernel_rfl) ?_ _
    go_wp2_with fail
    go_meet
    have KF := (Kb.put4 1 rfl s5 A5 n5 c5 s6 A6 n6 c6).put4 0 rfl s7 A7 n7 c7 s8 A8 n8 c8
    simp only [List.set] at KF
    exact ⟨s5, A5, n5, c5, s6, A6, n6, c6, s7, A7, n7, c7, s8, A8, n8, c8, KF.ints_ ⟨KF.ints.1, KF.ints.2.1, KF.ints.2.2.1, KF.ints.2.2.2.1, trivial⟩⟩
  case rest =>
    clear KC
    obtain ⟨s5, A5, n5, c5, s6, A6, n6, c6, s7, A7, n7, c7, s8, A8, n8, c8, KC⟩ := hcut
    have Kd := KC.drew
    clear KC
    obtain ⟨⟨p4, p5, p6, p7⟩, ⟨p0, p1, p2, p3⟩, _⟩ := Kd.facts
    have j1 := Kd.ints.2.2.1.i
    have j4 := Kd.ints.2.1.i
    go_upto_region 2 with fail
    go_region_held3 (fun w' => w'.cell? ⟨w.heap.size, 0, none⟩ = some (.bool s5) ∧ w'.cell? ⟨w.heap.size, 1, none⟩ = some (.slice A5 n5 c5) ∧ w'.cell? ⟨w.heap.size, 2, none⟩ = some (.bool s6) ∧ w'.cell? ⟨w.heap.size, 3, none⟩ = some (.slice A6 n6 c6) ∧ w'.cell? ⟨w.heap.size + 1, 0, none⟩ = some (.bool s7) ∧ w'.cell? ⟨w.heap.size + 1, 1, none⟩ = some (.slice A7 n7 c7) ∧ w'.cell? ⟨w.heap.size + 1, 2, none⟩ = some (.bool s8) ∧ w'.cell? ⟨w.heap.size + 1, 3, none⟩ = some (.slice A8 n8 c8))
      (go_keep)
      (first
        | (go_at_call_of 88 (Value.agg #[Value.bool s5, Value.slice A5 n5 c5]); (with_reducible refine (mul_at j1 j4).mono ?_); rw [HP.out]; rintro e wc ⟨C1, m1, k1, rfl, d1, u1, v1, g1⟩; have Ke := (Kd.call g1).add (CanAt.mk_ d1 u1 v1); clear p0 p1 p2 p3 p4 p5 p6 p7; obtain ⟨⟨p4, p5, p6, p7⟩, ⟨p0, p1, p2, p3⟩, _⟩ := Ke.facts; have j3 := Ke.ints.2.1.i; have j2 := Ke.ints.2.2.2.2.1.i)
        | (go_at_call_of 88 (Value.agg #[Value.bool s7, Value.slice A7 n7 c7]); (with_reducible refine (mul_at j3 j2).mono ?_); rw [HQ.out]; rintro e wd ⟨C2, m2, k2, rfl, d2, u2, v2, g2⟩; have Kf := (Ke.call g2).add (CanAt.mk_ d2 u2 v2); clear p0 p1 p2 p3 p4 p5 p6 p7; obtain ⟨⟨p4, p5, p6, p7⟩, ⟨p0, p1, p2, p3⟩, _⟩ := Kf.facts; have jp := Kf.ints.2.1.ci kp; have jq := Kf.ints.1.ci kq)
        | (go_at_call 120; (with_reducible refine (compare_at jp jq).mono ?_); rw [HV.out]; rintro e we ⟨rfl, g3⟩; have Kg := Kf.call g3; clear p0 p1 p2 p3 p4 p5 p6 p7; obtain ⟨⟨p4, p5, p6, p7⟩, ⟨p0, p1, p2, p3⟩, _⟩ := Kg.facts)
        | fail)
    go_wp2_with fail
    go_ret
    exact ⟨rfl, Kg.below⟩

/-- What Div returns: the zero value with the error 11 if the divisor is 0. -/
def dvN (a b c d : Int) : Int := if c = 0 ∨ d = 0 then 0 else rn (a * d) (b * c)
def dvD (a b c d : Int) : Int := if c = 0 ∨ d = 0 then 0 else rd (a * d) (b * c)
def dvE (c d : Int) : Int := if c = 0 ∨ d = 0 then 11 else 0
theorem sgn_eq_zero {x : Int} : sgn x = 0 ↔ x = 0 := by
  constructor
  · intro h; unfold sgn cmpI at h; split at h <;> (try split at h) <;> omega
  · rintro rfl; rfl
set_option maxHeartbeats 8000000 in
set_option maxRecDepth 100000 in
theorem fdiv_at {w : World} {s1 s2 s3 s4 : Bool} {A1 A2 A3 A4 : Option Addr} {n1 c1 n2 c2 n3 c3 n4 c4 : Nat} {a b c d : Int} (h1 : IntAt w s1 A1 n1 c1 a) (h2 : IntAt w s2 A2 n2 c2 b) (h3 : IntAt w s3 A3 n3 c3 c) (h4 : IntAt w s4 A4 n4 c4 d) (za : Sz a 900) (zb : Sz b 900) (zc : Sz c 900) (zd : Sz d 900) :
    Calls Try.prog 33 #[.agg #[.bool s1, .slice A1 n1 c1, .bool s2, .slice A2 n2 c2], .agg #[.bool s3, .slice A3 n3 c3, .bool s4, .slice A4 n4 c4]] w (RetFE w (dvN a b c d) (dvD a b c d) (dvE c d)) := by
  have H0 := (((((((St.start w).addI h1).addI h2).addI h3).addI h4).new 42 (Plains.four s1 A1 n1 c1 s2 A2 n2 c2)).new 42 (Plains.four s3 A3 n3 c3 s4 A4 n4 c4)).new 42 (Plains.four false none 0 0 false none 0 0)
  (try simp only [World.size_alloc] at H0)
  have HH := Lib.hid H0
  clear H0 h1 h2 h3 h4
  obtain ⟨sg, HS⟩ : ∃ v, Hid (sgn c * sgn d = v) := ⟨_, rfl⟩
  by_cases hd : c = 0 ∨ d = 0
  · have HU : Hid (dvN a b c d = 0 ∧ dvD a b c d = 0 ∧ dvE c d = 11) := by unfold Hid dvN dvD dvE; simp [hd]
    rw [HU.out.1, HU.out.2.1, HU.out.2.2]
    have hsg : Hid (sg = 0) := by unfold Hid; rw [← HS.out]; rcases hd with h | h <;> rw [sgn_eq_zero.2 h] <;> simp
    clear hd
    go_enter Try.func33, Try.ntmps33
    go_upto_region 2 with (first
      | (go_at_call 37; have K := HH.out; clear HH; have ic := K.ints.2.1.i; have id := K.ints.1.i; (with_reducible refine (fsign_at ic id).mono ?_); rw [HS.out, hsg.out]; rintro e w1 ⟨rfl, g1⟩; have K1 := ((K.call g1).add (CanAt.zero_ _)).add (CanAt.zero_ _); clear ic id K; obtain ⟨⟨q0, q1, q2, q3⟩, _⟩ := K1.facts; obtain ⟨f0, f1, f2, f3⟩ := K1.free (i := 0) rfl)
      | fail)
    have K4 := K1.put4 0 rfl false none 0 0 false none 0 0
    simp only [List.set] at K4
    obtain ⟨⟨r0, r1, r2, r3⟩, _⟩ := K4.facts
    go_wp2_with fail
    exact bodyPost_ret (v := .tuple #[.agg #[.bool (decide ((0 : Int) < 0)), .slice none 0 0, .bool (decide ((0 : Int) < 0)), .slice none 0 0], .int .i64 11]) (by simp [results, Try.results33, go_sem, r0, r1, r2, r3]) rfl (RetFE.of_st (x := 0) (y := 0) K4)
  · obtain ⟨x, HX⟩ : ∃ v, Hid (rn (a * d) (b * c) = v) := ⟨_, rfl⟩
    obtain ⟨y, HY⟩ : ∃ v, Hid (rd (a * d) (b * c) = v) := ⟨_, rfl⟩
    have HU : Hid (dvN a b c d = x ∧ dvD a b c d = y ∧ dvE c d = 0) := by unfold Hid dvN dvD dvE; rw [if_neg hd, if_neg hd, if_neg hd]; exact ⟨HX.out, HY.out, rfl⟩
    rw [HU.out.1, HU.out.2.1, HU.out.2.2]
    have hsg : ((sg : Int) == 0) = false := by
      rw [← HS.out]
      have : sgn c * sgn d ≠ 0 := mul_ne (fun h => hd (Or.inl (sgn_eq_zero.1 h))) (fun h => hd (Or.inr (sgn_eq_zero.1 h)))
      simpa using this
    clear hd
    go_enter Try.func33, Try.ntmps33
    go_upto_region 3 with (first
      | (go_at_call 37; have K := HH.out; clear HH; have ic := K.ints.2.1.i; have id := K.ints.1.i; (with_reducible refine (fsign_at ic id).mono ?_); rw [HS.out]; rintro e w1 ⟨rfl, g1⟩; have K1 := K.call g1; clear ic id K; obtain ⟨_, ⟨p4, p5, p6, p7⟩, ⟨p0, p1, p2, p3⟩, _⟩ := K1.facts; have i1 := K1.ints.2.2.2.1.i; have i2 := K1.ints.2.2.1.i; have i3 := K1.ints.2.1.i; have i4 := K1.ints.1.i)
      | fail)
    go_wp2_with (first
      | (go_at_call 48; (with_reducible refine (fmul_at i1 i2 i4 i3 za zb zd zc).mono ?_); rw [HX.out, HY.out]; rintro e w2 ⟨B2, m2, k2, B3, m3, k3, rfl, d2, d3, g2⟩; have K2 := ((K1.call g2).add d3).add d2; obtain ⟨⟨q0, q1, q2, q3⟩, _⟩ := K2.facts; obtain ⟨f0, f1, f2, f3⟩ := K2.free (i := 0) rfl)
      | fail)
    have K4 := K2.put4 0 rfl (decide (x < 0)) B2 m2 k2 (decide (y < 0)) B3 m3 k3
    simp only [List.set] at K4
    obtain ⟨⟨r0, r1, r2, r3⟩, _⟩ := K4.facts
    exact bodyPost_ret (v := .tuple #[.agg #[.bool (decide (x < 0)), .slice B2 m2 k2, .bool (decide (y < 0)), .slice B3 m3 k3], .int .i64 0]) (by simp [results, Try.results33, go_sem, r0, r1, r2, r3]) rfl (RetFE.of_st K4)

end Go.Proofs.Ytplmfdgdbolcaaa
