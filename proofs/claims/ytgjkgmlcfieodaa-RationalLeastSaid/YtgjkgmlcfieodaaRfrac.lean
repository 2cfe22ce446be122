/-
  The reference: Reduce, New, FromInts, FromInt, SameInt, SameFrac.
-/
import Derived.Test.YtgjkgmlcfieodaaFrcA
set_option linter.unusedVariables false
set_option linter.unusedSimpArgs false
namespace Go.Proofs.Ytgjkgmlcfieodaa
section
open Go.RowKit

set_option maxRecDepth 100000 in
theorem rone_any (w : World) : Calls Try.prog 52 #[] w (RetZ w 1) := by
  have H0 := (St.start w).new 24 (Plains.two false none 0 0)
  have HH := Lib.hid H0
  clear H0
  go_enter Try.func52, Try.ntmps52
  go_wp2_with (first
    | (go_at_call 60; have K := HH.out; clear HH; (with_reducible refine (rfromInt64_any 1 (by decide) (by decide) _).mono ?_); rintro e w3 ⟨A3, n3, c3, rfl, d3, u3, v3, g3⟩; have K3 := (K.call g3).add (show CanAt w3 false A3 n3 c3 1 from CanAt.mk_ d3 u3 v3); obtain ⟨⟨q0, q1⟩, _⟩ := K3.facts; obtain ⟨f0, f1⟩ := K3.free (i := 0) rfl)
    | fail)
  have K4 := K3.put 0 rfl false A3 n3 c3
  simp only [List.set] at K4
  obtain ⟨⟨r0, r1⟩, _⟩ := K4.facts
  exact bodyPost_ret (v := .agg #[.bool false, .slice A3 n3 c3]) (by simp [results, Try.results52, go_sem, r0, r1]) rfl (RetZ.of_st (z := 1) K4)
theorem r_den0 {z d : Int} (h : d = 0) : rn z d = 0 ∧ rd z d = 1 := by subst h; exact r_zero z
theorem r_num0 {z d : Int} (h : z = 0) : rn z d = 0 ∧ rd z d = 1 := by
  by_cases hd : d = 0
  · subst hd; exact r_zero z
  · subst h
    have hu : un 0 d = 0 := by unfold un; split <;> (try split) <;> rfl
    have h1 := ud_pos 0 d
    have h2 := rn_mul 0 d
    have h3 := rd_mul 0 d
    rw [hu, Int.gcd_zero_left] at h2 h3
    have h4 : ((ud 0 d).natAbs : Int) = ud 0 d := by omega
    rw [h4] at h2 h3
    refine ⟨(Int.mul_eq_zero.1 h2).resolve_right (by omega), ?_⟩
    exact Int.eq_of_mul_eq_mul_right (a := ud 0 d) (by omega) (by rw [h3, Int.one_mul])

set_option maxHeartbeats 16000000 in
set_option maxRecDepth 100000 in
theorem reduce_at {w : World} {s s' : Bool} {A A' : Option Addr} {n c n' c' : Nat} {z d : Int} (h : IntAt w s A n c z) (h' : IntAt w s' A' n' c' d) (zz : Sz z 1900) (zd : Sz d 1900) :
    Calls Try.prog 27 #[.agg #[.bool s, .slice A n c, .bool s', .slice A' n' c']] w (RetFr w (rn z d) (rd z d)) := by
  have H0 := ((((St.start w).addI h).addI h').new 26 (Plains.four s A n c s' A' n' c')).new 26 (Plains.four false none 0 0 false none 0 0)
  simp only [World.size_alloc] at H0
  have HH := Lib.hid H0
  clear H0 h h'
  have zz2 : Sz z 2000 := zz.mono (by decide)
  have zd2 : Sz d 2000 := zd.mono (by decide)
  have kz := zz2.ok
  have kd := zd2.ok
  obtain ⟨x, HX⟩ : ∃ v, Hid (rn z d = v) := ⟨_, rfl⟩
  obtain ⟨y, HY⟩ : ∃ v, Hid (rd z d = v) := ⟨_, rfl⟩
  rw [HX.out, HY.out]
  go_enter Try.func27, Try.ntmps27
  go_upto_region 1 with fail
  have KZ := HH.out
  clear HH
  generalize (w.alloc (.cells #[.bool s, .slice A n c, .bool s', .slice A' n' c'] 26)).alloc (.cells #[.bool false, .slice none 0 0, .bool false, .slice none 0 0] 26) = W0 at KZ ⊢
  go_cut [3, 4] (fun v3 v4 wx => ∃ (h3 h4 : Nat) (A1 : Option Addr) (n1 c1 : Nat) (A2 : Option Addr) (n2 c2 : Nat), v3 = .pointer (some ⟨h3, 0, none⟩) ∧ v4 = .pointer (some ⟨h4, 0, none⟩) ∧
    St w wx [vi h4 (decide (d < 0)) A2 n2 c2, vi h3 (decide (z < 0)) A1 n1 c1, vf (w.heap.size + 1) false none 0 0 false none 0 0, vf w.heap.size s A n c s' A' n' c'] [(decide (z < 0), A1, n1, c1, z, true), (decide (d < 0), A2, n2, c2, d, true)])
  case first =>
    obtain ⟨_, ⟨p0, p1, p2, p3⟩, _⟩ := KZ.facts
    skip
    refine wp_region_held_drew (S := fun w' => w'.cell? ⟨w.heap.size, 0, none⟩ = some (.bool s) ∧ w'.cell? ⟨w.heap.size, 1, none⟩ = some (.slice A n c) ∧ w'.cell? ⟨w.heap.size, 2, none⟩ = some (.bool s') ∧ w'.cell? ⟨w.heap.size, 3, none⟩ = some (.slice A' n' c')) (by kernel_rfl) ?_ (fun hHeld0 => ?_)
    · ((try dsimp only); go_keep)
    refine wpAnyH_take (i := 0) (oi := ⟨some 6, _, _, _, _, _⟩) (v := ?_) rfl (by kernel_rfl) (by kernel_rfl) (by kernel_rfl) (fun _ _ _ h => h) (Or.inl ⟨by rfl, ?_⟩) (by assumption) ?_
    rotate_left
    · (intro w' hSw; (try dsimp only at hSw); go_simp; (try with_reducible rfl))
    (try simp only [Act.put, List.setIfInBounds_toArray, List.set_cons_zero, List.set_cons_succ])
    refine wpAnyH_take (i := 1) (oi := ⟨some 7, _, _, _, _, _⟩) (v := ?_) rfl (by kernel_rfl) (by kernel_rfl) (by kernel_rfl) (fun _ _ _ h => h) (Or.inl ⟨by rfl, ?_⟩) (by assumption) ?_
    rotate_left
    · (intro w' hSw; (try dsimp only at hSw); go_simp; (try with_reducible rfl))
    (try simp only [Act.put, List.setIfInBounds_toArray, List.set_cons_zero, List.set_cons_succ])
    refine wpAnyH_take (i := 3) (oi := ⟨some 9, _, _, _, _, _⟩) (v := ?_) rfl (by kernel_rfl) (by kernel_rfl) (by kernel_rfl) (fun _ _ _ h => h) (Or.inl ⟨by rfl, ?_⟩) (by assumption) ?_
    rotate_left
    · (intro w' hSw; (try dsimp only at hSw); go_simp; (try with_reducible rfl))
    (try simp only [Act.put, List.setIfInBounds_toArray, List.set_cons_zero, List.set_cons_succ])
    refine wpAnyH_take (i := 4) (oi := ⟨some 10, _, _, _, _, _⟩) (v := ?_) rfl (by kernel_rfl) (by kernel_rfl) (by kernel_rfl) (fun _ _ _ h => h) (Or.inl ⟨by rfl, ?_⟩) (by assumption) ?_
    rotate_left
    · (intro w' hSw; (try dsimp only at hSw); go_simp; (try with_reducible rfl))
    (try simp only [Act.put, List.setIfInBounds_toArray, List.set_cons_zero, List.set_cons_succ])
    refine wpAnyH_ready (rs := [2, 6, 7]) (by kernel_rfl) (by simp) ?_
    refine AllReadyH.cons (o := ⟨some 8, _, _, _, _, _⟩) rfl (fun K hK => ?_) ?_
    · skip
      go_simp
      have i2 := KZ.drew.ints.2.1.i
      (go_at_call_of 51 (Value.agg #[Value.bool s, Value.slice A n c]); (with_reducible refine (canon_at i2).mono ?_); rintro e w1 ⟨A1, n1, c1, rfl, d1, u1, v1, g1⟩)
      (try go_wp2_with fail)
      have K2 := (KZ.drew.call g1).add (CanAt.mk_ d1 u1 v1)
      clear p0 p1 p2 p3
      obtain ⟨_, ⟨p1c0n1, p1c1n1, p1c2n1, p1c3n1⟩, _⟩ := K2.facts
      refine hK.out _ _ ?_ (fun hHeld1 => ?_)
      · ((try dsimp only); first | go_keep | (trace_state; fail))
      clear hK K hHeld0
      (try simp only [Act.put, List.setIfInBounds_toArray, List.set_cons_zero, List.set_cons_succ])
      refine wpAnyH_ready (rs := [5, 6, 7]) (by kernel_rfl) (by simp) ?_
      refine AllReadyH.cons (o := ⟨some 11, _, _, _, _, _⟩) rfl (fun K hK => ?_) ?_
      · skip
        go_simp
        have i5 := K2.ints.2.1.i
        (go_at_call_of 51 (Value.agg #[Value.bool s', Value.slice A' n' c']); (with_reducible refine (canon_at i5).mono ?_); rintro e w2 ⟨A2, n2, c2, rfl, d2, u2, v2, g2⟩)
        (try go_wp2_with fail)
        have K5 := (K2.call g2).add (CanAt.mk_ d2 u2 v2)
        clear p1c0n1 p1c1n1 p1c2n1 p1c3n1
        obtain ⟨_, ⟨p1c0n2, p1c1n2, p1c2n2, p1c3n2⟩, _⟩ := K5.facts
        refine hK.out _ _ ?_ (fun hHeld2 => ?_)
        · ((try dsimp only); first | go_keep | (trace_state; fail))
        clear hK K hHeld1
        (try simp only [Act.put, List.setIfInBounds_toArray, List.set_cons_zero, List.set_cons_succ])
        refine wpAnyH_ready (rs := [6, 7]) (by kernel_rfl) (by simp) ?_
        refine AllReadyH.cons (o := ⟨some 3, _, _, _, _, _⟩) rfl (fun K hK => ?_) ?_
        · skip
          go_simp
          have KA6 := K5.new 24 (Plains.two false none 0 0)
          (try simp only [World.size_alloc] at KA6)
          obtain ⟨⟨b6x3, b6y3⟩, _, ⟨p1c0n3, p1c1n3, p1c2n3, p1c3n3⟩, _⟩ := KA6.facts
          obtain ⟨f6x3, f6y3⟩ := KA6.free (i := 0) rfl
          obtain ⟨e6m1x3, e6m1y3⟩ := KA6.ne 0 2 rfl rfl (by decide)
          refine hK.out _ _ ?_ (fun hHeld3 => ?_)
          · ((try dsimp only); first | go_keep | (trace_state; fail))
          clear hK K hHeld2
          (try simp only [Act.put, List.setIfInBounds_toArray, List.set_cons_zero, List.set_cons_succ])
          refine wpAnyH_ready (rs := [7]) (by kernel_rfl) (by simp) ?_
          refine AllReadyH.cons (o := ⟨some 4, _, _, _, _, _⟩) rfl (fun K hK => ?_) AllReadyH.nil
          go_simp
          have KA7 := KA6.new 24 (Plains.two false none 0 0)
          (try simp only [World.size_alloc] at KA7)
          obtain ⟨⟨b7x4, b7y4⟩, ⟨b6x4, b6y4⟩, _, ⟨p1c0n4, p1c1n4, p1c2n4, p1c3n4⟩, _⟩ := KA7.facts
          obtain ⟨f7x4, f7y4⟩ := KA7.free (i := 0) rfl
          obtain ⟨e7m1x4, e7m1y4⟩ := KA7.ne 0 3 rfl rfl (by decide)
          obtain ⟨f6x4, f6y4⟩ := KA7.free (i := 1) rfl
          obtain ⟨e6m1x4, e6m1y4⟩ := KA7.ne 1 3 rfl rfl (by decide)
          obtain ⟨eex4, eey4⟩ := KA7.ne 0 1 rfl rfl (by decide)
          refine hK.out _ _ ?_ (fun hHeld4 => ?_)
          · ((try dsimp only); first | go_keep | (trace_state; fail))
          clear hK K hHeld3
          (try simp only [Act.put, List.setIfInBounds_toArray, List.set_cons_zero, List.set_cons_succ])
          refine wpAnyH_ready (rs := [8]) (by kernel_rfl) (by simp) ?_
          refine AllReadyH.cons (o := ⟨none, _, _, _, _, _⟩) rfl (fun K hK => ?_) AllReadyH.nil
          go_simp
          refine hK.out _ _ ?_ (fun hHeld5 => ?_)
          · ((try dsimp only); first | go_keep | (trace_state; fail))
          clear hK K hHeld4
          (try simp only [Act.put, List.setIfInBounds_toArray, List.set_cons_zero, List.set_cons_succ])
          refine wpAnyH_ready (rs := [9]) (by kernel_rfl) (by simp) ?_
          refine AllReadyH.cons (o := ⟨none, _, _, _, _, _⟩) rfl (fun K hK => ?_) AllReadyH.nil
          go_simp
          refine hK.out _ _ ?_ (fun hHeld6 => ?_)
          · ((try dsimp only); first | go_keep | (trace_state; fail))
          clear hK K hHeld5
          (try simp only [Act.put, List.setIfInBounds_toArray, List.set_cons_zero, List.set_cons_succ])
          refine wpAnyH_done (by kernel_rfl) ?_ _
          go_wp2_with fail
          go_meet
          first | (have KF := ((K5.new 24 (Plains.two (decide (z < 0)) A1 n1 c1)).new 24 (Plains.two (decide (d < 0)) A2 n2 c2)); (try simp only [List.set, World.size_alloc, World.size_setCell] at KF); have KG := KF; exact ⟨_, _, A1, n1, c1, A2, n2, c2, rfl, rfl, KG.ints_ ⟨KG.ints.2.1, KG.ints.1, trivial⟩⟩) | (have KF := ((K5.new 24 (Plains.two (decide (z < 0)) A1 n1 c1)).new 24 (Plains.two (decide (d < 0)) A2 n2 c2)); (try simp only [List.set, World.size_alloc, World.size_setCell] at KF); have KG := KF; exact ⟨_, _, A1, n1, c1, A2, n2, c2, rfl, rfl, KG.ints_ ⟨KG.ints.2.1, KG.ints.1, trivial⟩⟩) | (have KF := ((((K5.new 24 (Plains.two false none 0 0)).new 24 (Plains.two false none 0 0)).put 1 rfl (decide (z < 0)) A1 n1 c1).put 0 rfl (decide (d < 0)) A2 n2 c2); (try simp only [List.set, World.size_alloc, World.size_setCell] at KF); have KG := KF; exact ⟨_, _, A1, n1, c1, A2, n2, c2, rfl, rfl, KG.ints_ ⟨KG.ints.2.1, KG.ints.1, trivial⟩⟩) | (trace_state; fail)
        refine AllReadyH.cons (o := ⟨some 4, _, _, _, _, _⟩) rfl (fun K hK => ?_) AllReadyH.nil
        go_simp
        have KA7 := K5.new 24 (Plains.two false none 0 0)
        (try simp only [World.size_alloc] at KA7)
        obtain ⟨⟨b7x3, b7y3⟩, _, ⟨p1c0n3, p1c1n3, p1c2n3, p1c3n3⟩, _⟩ := KA7.facts
        obtain ⟨f7x3, f7y3⟩ := KA7.free (i := 0) rfl
        obtain ⟨e7m1x3, e7m1y3⟩ := KA7.ne 0 2 rfl rfl (by decide)
        refine hK.out _ _ ?_ (fun hHeld3 => ?_)
        · ((try dsimp only); first | go_keep | (trace_state; fail))
        clear hK K hHeld2
        (try simp only [Act.put, List.setIfInBounds_toArray, List.set_cons_zero, List.set_cons_succ])
        refine wpAnyH_ready (rs := [6]) (by kernel_rfl) (by simp) ?_
        refine AllReadyH.cons (o := ⟨some 3, _, _, _, _, _⟩) rfl (fun K hK => ?_) AllReadyH.nil
        go_simp
        have KA6 := KA7.new 24 (Plains.two false none 0 0)
        (try simp only [World.size_alloc] at KA6)
        obtain ⟨⟨b6x4, b6y4⟩, ⟨b7x4, b7y4⟩, _, ⟨p1c0n4, p1c1n4, p1c2n4, p1c3n4⟩, _⟩ := KA6.facts
        obtain ⟨f6x4, f6y4⟩ := KA6.free (i := 0) rfl
        obtain ⟨e6m1x4, e6m1y4⟩ := KA6.ne 0 3 rfl rfl (by decide)
        obtain ⟨f7x4, f7y4⟩ := KA6.free (i := 1) rfl
        obtain ⟨e7m1x4, e7m1y4⟩ := KA6.ne 1 3 rfl rfl (by decide)
        obtain ⟨eex4, eey4⟩ := KA6.ne 0 1 rfl rfl (by decide)
        refine hK.out _ _ ?_ (fun hHeld4 => ?_)
        · ((try dsimp only); first | go_keep | (trace_state; fail))
        clear hK K hHeld3
        (try simp only [Act.put, List.setIfInBounds_toArray, List.set_cons_zero, List.set_cons_succ])
        refine wpAnyH_ready (rs := [8]) (by kernel_rfl) (by simp) ?_
        refine AllReadyH.cons (o := ⟨none, _, _, _, _, _⟩) rfl (fun K hK => ?_) AllReadyH.nil
        go_simp
        refine hK.out _ _ ?_ (fun hHeld5 => ?_)
        · ((try dsimp only); first | go_keep | (trace_state; fail))
        clear hK K hHeld4
        (try simp only [Act.put, List.setIfInBounds_toArray, List.set_cons_zero, List.set_cons_succ])
        refine wpAnyH_ready (rs := [9]) (by kernel_rfl) (by simp) ?_
        refine AllReadyH.cons (o := ⟨none, _, _, _, _, _⟩) rfl (fun K hK => ?_) AllReadyH.nil
        go_simp
        refine hK.out _ _ ?_ (fun hHeld6 => ?_)
        · ((try dsimp only); first | go_keep | (trace_state; fail))
        clear hK K hHeld5
        (try simp only [Act.put, List.setIfInBounds_toArray, List.set_cons_zero, List.set_cons_succ])
        refine wpAnyH_done (by kernel_rfl) ?_ _
        go_wp2_with fail
        go_meet
        first | (have KF := ((K5.new 24 (Plains.two (decide (d < 0)) A2 n2 c2)).new 24 (Plains.two (decide (z < 0)) A1 n1 c1)); (try simp only [List.set, World.size_alloc, World.size_setCell] at KF); have KF := KF.swap; have KG := KF; exact ⟨_, _, A1, n1, c1, A2, n2, c2, rfl, rfl, KG.ints_ ⟨KG.ints.2.1, KG.ints.1, trivial⟩⟩) | (have KF := ((K5.new 24 (Plains.two (decide (d < 0)) A2 n2 c2)).new 24 (Plains.two (decide (z < 0)) A1 n1 c1)); (try simp only [List.set, World.size_alloc, World.size_setCell] at KF); have KF := KF.swap; have KG := KF; exact ⟨_, _, A1, n1, c1, A2, n2, c2, rfl, rfl, KG.ints_ ⟨KG.ints.2.1, KG.ints.1, trivial⟩⟩) | (have KF := ((((K5.new 24 (Plains.two false none 0 0)).new 24 (Plains.two false none 0 0)).put 0 rfl (decide (z < 0)) A1 n1 c1).put 1 rfl (decide (d < 0)) A2 n2 c2); (try simp only [List.set, World.size_alloc, World.size_setCell] at KF); have KF := KF.swap; have KG := KF; exact ⟨_, _, A1, n1, c1, A2, n2, c2, rfl, rfl, KG.ints_ ⟨KG.ints.2.1, KG.ints.1, trivial⟩⟩) | (trace_state; fail)
      refine AllReadyH.cons (o := ⟨some 3, _, _, _, _, _⟩) rfl (fun K hK => ?_) ?_
      · skip
        go_simp
        have KA6 := K2.new 24 (Plains.two false none 0 0)
        (try simp only [World.size_alloc] at KA6)
        obtain ⟨⟨b6x2, b6y2⟩, _, ⟨p1c0n2, p1c1n2, p1c2n2, p1c3n2⟩, _⟩ := KA6.facts
        obtain ⟨f6x2, f6y2⟩ := KA6.free (i := 0) rfl
        obtain ⟨e6m1x2, e6m1y2⟩ := KA6.ne 0 2 rfl rfl (by decide)
        refine hK.out _ _ ?_ (fun hHeld2 => ?_)
        · ((try dsimp only); first | go_keep | (trace_state; fail))
        clear hK K hHeld1
        (try simp only [Act.put, List.setIfInBounds_toArray, List.set_cons_zero, List.set_cons_succ])
        refine wpAnyH_ready (rs := [5, 7]) (by kernel_rfl) (by simp) ?_
        refine AllReadyH.cons (o := ⟨some 11, _, _, _, _, _⟩) rfl (fun K hK => ?_) ?_
        · skip
          go_simp
          have i5 := KA6.ints.2.1.i
          (go_at_call_of 51 (Value.agg #[Value.bool s', Value.slice A' n' c']); (with_reducible refine (canon_at i5).mono ?_); rintro e w2 ⟨A2, n2, c2, rfl, d2, u2, v2, g2⟩)
          (try go_wp2_with fail)
          have K5 := (KA6.call g2).add (CanAt.mk_ d2 u2 v2)
          clear p1c0n1 p1c1n1 p1c2n1 p1c3n1 b6x2 b6y2 p1c0n2 p1c1n2 p1c2n2 p1c3n2 f6x2 f6y2 e6m1x2 e6m1y2
          obtain ⟨⟨b6x3, b6y3⟩, _, ⟨p1c0n3, p1c1n3, p1c2n3, p1c3n3⟩, _⟩ := K5.facts
          obtain ⟨f6x3, f6y3⟩ := K5.free (i := 0) rfl
          obtain ⟨e6m1x3, e6m1y3⟩ := K5.ne 0 2 rfl rfl (by decide)
          refine hK.out _ _ ?_ (fun hHeld3 => ?_)
          · ((try dsimp only); first | go_keep | (trace_state; fail))
          clear hK K hHeld2
          (try simp only [Act.put, List.setIfInBounds_toArray, List.set_cons_zero, List.set_cons_succ])
          refine wpAnyH_ready (rs := [7]) (by kernel_rfl) (by simp) ?_
          refine AllReadyH.cons (o := ⟨some 4, _, _, _, _, _⟩) rfl (fun K hK => ?_) AllReadyH.nil
          go_simp
          have KA7 := K5.new 24 (Plains.two false none 0 0)
          (try simp only [World.size_alloc] at KA7)
          obtain ⟨⟨b7x4, b7y4⟩, ⟨b6x4, b6y4⟩, _, ⟨p1c0n4, p1c1n4, p1c2n4, p1c3n4⟩, _⟩ := KA7.facts
          obtain ⟨f7x4, f7y4⟩ := KA7.free (i := 0) rfl
          obtain ⟨e7m1x4, e7m1y4⟩ := KA7.ne 0 3 rfl rfl (by decide)
          obtain ⟨f6x4, f6y4⟩ := KA7.free (i := 1) rfl
          obtain ⟨e6m1x4, e6m1y4⟩ := KA7.ne 1 3 rfl rfl (by decide)
          obtain ⟨eex4, eey4⟩ := KA7.ne 0 1 rfl rfl (by decide)
          refine hK.out _ _ ?_ (fun hHeld4 => ?_)
          · ((try dsimp only); first | go_keep | (trace_state; fail))
          clear hK K hHeld3
          (try simp only [Act.put, List.setIfInBounds_toArray, List.set_cons_zero, List.set_cons_succ])
          refine wpAnyH_ready (rs := [8]) (by kernel_rfl) (by simp) ?_
          refine AllReadyH.cons (o := ⟨none, _, _, _, _, _⟩) rfl (fun K hK => ?_) AllReadyH.nil
          go_simp
          refine hK.out _ _ ?_ (fun hHeld5 => ?_)
          · ((try dsimp only); first | go_keep | (trace_state; fail))
          clear hK K hHeld4
          (try simp only [Act.put, List.setIfInBounds_toArray, List.set_cons_zero, List.set_cons_succ])
          refine wpAnyH_ready (rs := [9]) (by kernel_rfl) (by simp) ?_
          refine AllReadyH.cons (o := ⟨none, _, _, _, _, _⟩) rfl (fun K hK => ?_) AllReadyH.nil
          go_simp
          have KS9 := K5.new 24 (Plains.two (decide (d < 0)) A2 n2 c2)
          (try simp only [World.size_alloc] at KS9)
          obtain ⟨⟨b7x5, b7y5⟩, ⟨b6x5, b6y5⟩, _, ⟨p1c0n5, p1c1n5, p1c2n5, p1c3n5⟩, _⟩ := KS9.facts
          obtain ⟨f7x5, f7y5⟩ := KS9.free (i := 0) rfl
          obtain ⟨e7m1x5, e7m1y5⟩ := KS9.ne 0 3 rfl rfl (by decide)
          obtain ⟨f6x5, f6y5⟩ := KS9.free (i := 1) rfl
          obtain ⟨e6m1x5, e6m1y5⟩ := KS9.ne 1 3 rfl rfl (by decide)
          obtain ⟨eex5, eey5⟩ := KS9.ne 0 1 rfl rfl (by decide)
          refine hK.out _ _ ?_ (fun hHeld6 => ?_)
          · ((try dsimp only); first | go_keep | (trace_state; fail))
          clear hK K hHeld5
          (try simp only [Act.put, List.setIfInBounds_toArray, List.set_cons_zero, List.set_cons_succ])
          refine wpAnyH_done (by kernel_rfl) ?_ _
          go_wp2_with fail
          go_meet
          first | (have KF := ((K5.new 24 (Plains.two (decide (d < 0)) A2 n2 c2)).put 1 rfl (decide (z < 0)) A1 n1 c1); (try simp only [List.set, World.size_alloc, World.size_setCell] at KF); have KG := KF; exact ⟨_, _, A1, n1, c1, A2, n2, c2, rfl, rfl, KG.ints_ ⟨KG.ints.2.1, KG.ints.1, trivial⟩⟩) | (have KF := ((K5.put 0 rfl (decide (z < 0)) A1 n1 c1).new 24 (Plains.two (decide (d < 0)) A2 n2 c2)); (try simp only [List.set, World.size_alloc, World.size_setCell] at KF); have KG := KF; exact ⟨_, _, A1, n1, c1, A2, n2, c2, rfl, rfl, KG.ints_ ⟨KG.ints.2.1, KG.ints.1, trivial⟩⟩) | (have KF := (((K5.new 24 (Plains.two false none 0 0)).put 1 rfl (decide (z < 0)) A1 n1 c1).put 0 rfl (decide (d < 0)) A2 n2 c2); (try simp only [List.set, World.size_alloc, World.size_setCell] at KF); have KG := KF; exact ⟨_, _, A1, n1, c1, A2, n2, c2, rfl, rfl, KG.ints_ ⟨KG.ints.2.1, KG.ints.1, trivial⟩⟩) | (trace_state; fail)
        refine AllReadyH.cons (o := ⟨some 4, _, _, _, _, _⟩) rfl (fun K hK => ?_) AllReadyH.nil
        go_simp
        have KA7 := KA6.new 24 (Plains.two false none 0 0)
        (try simp only [World.size_alloc] at KA7)
        obtain ⟨⟨b7x3, b7y3⟩, ⟨b6x3, b6y3⟩, _, ⟨p1c0n3, p1c1n3, p1c2n3, p1c3n3⟩, _⟩ := KA7.facts
        obtain ⟨f7x3, f7y3⟩ := KA7.free (i := 0) rfl
        obtain ⟨e7m1x3, e7m1y3⟩ := KA7.ne 0 3 rfl rfl (by decide)
        obtain ⟨f6x3, f6y3⟩ := KA7.free (i := 1) rfl
        obtain ⟨e6m1x3, e6m1y3⟩ := KA7.ne 1 3 rfl rfl (by decide)
        obtain ⟨eex3, eey3⟩ := KA7.ne 0 1 rfl rfl (by decide)
        refine hK.out _ _ ?_ (fun hHeld3 => ?_)
        · ((try dsimp only); first | go_keep | (trace_state; fail))
        clear hK K hHeld2
        (try simp only [Act.put, List.setIfInBounds_toArray, List.set_cons_zero, List.set_cons_succ])
        refine wpAnyH_ready (rs := [5]) (by kernel_rfl) (by simp) ?_
        refine AllReadyH.cons (o := ⟨some 11, _, _, _, _, _⟩) rfl (fun K hK => ?_) AllReadyH.nil
        go_simp
        have i5 := KA7.ints.2.1.i
        (go_at_call_of 51 (Value.agg #[Value.bool s', Value.slice A' n' c']); (with_reducible refine (canon_at i5).mono ?_); rintro e w2 ⟨A2, n2, c2, rfl, d2, u2, v2, g2⟩)
        (try go_wp2_with fail)
        have K5 := (KA7.call g2).add (CanAt.mk_ d2 u2 v2)
        clear p1c0n1 p1c1n1 p1c2n1 p1c3n1 b6x2 b6y2 p1c0n2 p1c1n2 p1c2n2 p1c3n2 f6x2 f6y2 e6m1x2 e6m1y2 b7x3 b7y3 b6x3 b6y3 p1c0n3 p1c1n3 p1c2n3 p1c3n3 f7x3 f7y3 e7m1x3 e7m1y3 f6x3 f6y3 e6m1x3 e6m1y3 eex3 eey3
        obtain ⟨⟨b7x4, b7y4⟩, ⟨b6x4, b6y4⟩, _, ⟨p1c0n4, p1c1n4, p1c2n4, p1c3n4⟩, _⟩ := K5.facts
        obtain ⟨f7x4, f7y4⟩ := K5.free (i := 0) rfl
        obtain ⟨e7m1x4, e7m1y4⟩ := K5.ne 0 3 rfl rfl (by decide)
        obtain ⟨f6x4, f6y4⟩ := K5.free (i := 1) rfl
        obtain ⟨e6m1x4, e6m1y4⟩ := K5.ne 1 3 rfl rfl (by decide)
        obtain ⟨eex4, eey4⟩ := K5.ne 0 1 rfl rfl (by decide)
        refine hK.out _ _ ?_ (fun hHeld4 => ?_)
        · ((try dsimp only); first | go_keep | (trace_state; fail))
        clear hK K hHeld3
        (try simp only [Act.put, List.setIfInBounds_toArray, List.set_cons_zero, List.set_cons_succ])
        refine wpAnyH_ready (rs := [8]) (by kernel_rfl) (by simp) ?_
        refine AllReadyH.cons (o := ⟨none, _, _, _, _, _⟩) rfl (fun K hK => ?_) AllReadyH.nil
        go_simp
        refine hK.out _ _ ?_ (fun hHeld5 => ?_)
        · ((try dsimp only); first | go_keep | (trace_state; fail))
        clear hK K hHeld4
        (try simp only [Act.put, List.setIfInBounds_toArray, List.set_cons_zero, List.set_cons_succ])
        refine wpAnyH_ready (rs := [9]) (by kernel_rfl) (by simp) ?_
        refine AllReadyH.cons (o := ⟨none, _, _, _, _, _⟩) rfl (fun K hK => ?_) AllReadyH.nil
        go_simp
        refine hK.out _ _ ?_ (fun hHeld6 => ?_)
        · ((try dsimp only); first | go_keep | (trace_state; fail))
        clear hK K hHeld5
        (try simp only [Act.put, List.setIfInBounds_toArray, List.set_cons_zero, List.set_cons_succ])
        refine wpAnyH_done (by kernel_rfl) ?_ _
        go_wp2_with fail
        go_meet
        first | (have KF := ((K5.put 1 rfl (decide (z < 0)) A1 n1 c1).put 0 rfl (decide (d < 0)) A2 n2 c2); (try simp only [List.set, World.size_alloc, World.size_setCell] at KF); have KG := KF; exact ⟨_, _, A1, n1, c1, A2, n2, c2, rfl, rfl, KG.ints_ ⟨KG.ints.2.1, KG.ints.1, trivial⟩⟩) | (have KF := ((K5.put 1 rfl (decide (z < 0)) A1 n1 c1).put 0 rfl (decide (d < 0)) A2 n2 c2); (try simp only [List.set, World.size_alloc, World.size_setCell] at KF); have KG := KF; exact ⟨_, _, A1, n1, c1, A2, n2, c2, rfl, rfl, KG.ints_ ⟨KG.ints.2.1, KG.ints.1, trivial⟩⟩) | (have KF := ((K5.put 1 rfl (decide (z < 0)) A1 n1 c1).put 0 rfl (decide (d < 0)) A2 n2 c2); (try simp only [List.set, World.size_alloc, World.size_setCell] at KF); have KG := KF; exact ⟨_, _, A1, n1, c1, A2, n2, c2, rfl, rfl, KG.ints_ ⟨KG.ints.2.1, KG.ints.1, trivial⟩⟩) | (trace_state; fail)
      refine AllReadyH.cons (o := ⟨some 4, _, _, _, _, _⟩) rfl (fun K hK => ?_) AllReadyH.nil
      go_simp
      have KA7 := K2.new 24 (Plains.two false none 0 0)
      (try simp only [World.size_alloc] at KA7)
      obtain ⟨⟨b7x2, b7y2⟩, _, ⟨p1c0n2, p1c1n2, p1c2n2, p1c3n2⟩, _⟩ := KA7.facts
      obtain ⟨f7x2, f7y2⟩ := KA7.free (i := 0) rfl
      obtain ⟨e7m1x2, e7m1y2⟩ := KA7.ne 0 2 rfl rfl (by decide)
      refine hK.out _ _ ?_ (fun hHeld2 => ?_)
      · ((try dsimp only); first | go_keep | (trace_state; fail))
      clear hK K hHeld1
      (try simp only [Act.put, List.setIfInBounds_toArray, List.set_cons_zero, List.set_cons_succ])
      refine wpAnyH_ready (rs := [5, 6]) (by kernel_rfl) (by simp) ?_
      refine AllReadyH.cons (o := ⟨some 11, _, _, _, _, _⟩) rfl (fun K hK => ?_) ?_
      · skip
        go_simp
        have i5 := KA7.ints.2.1.i
        (go_at_call_of 51 (Value.agg #[Value.bool s', Value.slice A' n' c']); (with_reducible refine (canon_at i5).mono ?_); rintro e w2 ⟨A2, n2, c2, rfl, d2, u2, v2, g2⟩)
        (try go_wp2_with fail)
        have K5 := (KA7.call g2).add (CanAt.mk_ d2 u2 v2)
        clear p1c0n1 p1c1n1 p1c2n1 p1c3n1 b7x2 b7y2 p1c0n2 p1c1n2 p1c2n2 p1c3n2 f7x2 f7y2 e7m1x2 e7m1y2
        obtain ⟨⟨b7x3, b7y3⟩, _, ⟨p1c0n3, p1c1n3, p1c2n3, p1c3n3⟩, _⟩ := K5.facts
        obtain ⟨f7x3, f7y3⟩ := K5.free (i := 0) rfl
        obtain ⟨e7m1x3, e7m1y3⟩ := K5.ne 0 2 rfl rfl (by decide)
        refine hK.out _ _ ?_ (fun hHeld3 => ?_)
        · ((try dsimp only); first | go_keep | (trace_state; fail))
        clear hK K hHeld2
        (try simp only [Act.put, List.setIfInBounds_toArray, List.set_cons_zero, List.set_cons_succ])
        refine wpAnyH_ready (rs := [6]) (by kernel_rfl) (by simp) ?_
        refine AllReadyH.cons (o := ⟨some 3, _, _, _, _, _⟩) rfl (fun K hK => ?_) AllReadyH.nil
        go_simp
        have KA6 := K5.new 24 (Plains.two false none 0 0)
        (try simp only [World.size_alloc] at KA6)
        obtain ⟨⟨b6x4, b6y4⟩, ⟨b7x4, b7y4⟩, _, ⟨p1c0n4, p1c1n4, p1c2n4, p1c3n4⟩, _⟩ := KA6.facts
        obtain ⟨f6x4, f6y4⟩ := KA6.free (i := 0) rfl
        obtain ⟨e6m1x4, e6m1y4⟩ := KA6.ne 0 3 rfl rfl (by decide)
        obtain ⟨f7x4, f7y4⟩ := KA6.free (i := 1) rfl
        obtain ⟨e7m1x4, e7m1y4⟩ := KA6.ne 1 3 rfl rfl (by decide)
        obtain ⟨eex4, eey4⟩ := KA6.ne 0 1 rfl rfl (by decide)
        refine hK.out _ _ ?_ (fun hHeld4 => ?_)
        · ((try dsimp only); first | go_keep | (trace_state; fail))
        clear hK K hHeld3
        (try simp only [Act.put, List.setIfInBounds_toArray, List.set_cons_zero, List.set_cons_succ])
        refine wpAnyH_ready (rs := [8]) (by kernel_rfl) (by simp) ?_
        refine AllReadyH.cons (o := ⟨none, _, _, _, _, _⟩) rfl (fun K hK => ?_) AllReadyH.nil
        go_simp
        have KS8 := K5.new 24 (Plains.two (decide (z < 0)) A1 n1 c1)
        (try simp only [World.size_alloc] at KS8)
        obtain ⟨⟨b6x5, b6y5⟩, ⟨b7x5, b7y5⟩, _, ⟨p1c0n5, p1c1n5, p1c2n5, p1c3n5⟩, _⟩ := KS8.facts
        obtain ⟨f6x5, f6y5⟩ := KS8.free (i := 0) rfl
        obtain ⟨e6m1x5, e6m1y5⟩ := KS8.ne 0 3 rfl rfl (by decide)
        obtain ⟨f7x5, f7y5⟩ := KS8.free (i := 1) rfl
        obtain ⟨e7m1x5, e7m1y5⟩ := KS8.ne 1 3 rfl rfl (by decide)
        obtain ⟨eex5, eey5⟩ := KS8.ne 0 1 rfl rfl (by decide)
        refine hK.out _ _ ?_ (fun hHeld5 => ?_)
        · ((try dsimp only); first | go_keep | (trace_state; fail))
        clear hK K hHeld4
        (try simp only [Act.put, List.setIfInBounds_toArray, List.set_cons_zero, List.set_cons_succ])
        refine wpAnyH_ready (rs := [9]) (by kernel_rfl) (by simp) ?_
        refine AllReadyH.cons (o := ⟨none, _, _, _, _, _⟩) rfl (fun K hK => ?_) AllReadyH.nil
        go_simp
        refine hK.out _ _ ?_ (fun hHeld6 => ?_)
        · ((try dsimp only); first | go_keep | (trace_state; fail))
        clear hK K hHeld5
        (try simp only [Act.put, List.setIfInBounds_toArray, List.set_cons_zero, List.set_cons_succ])
        refine wpAnyH_done (by kernel_rfl) ?_ _
        go_wp2_with fail
        go_meet
        first | (have KF := ((K5.new 24 (Plains.two (decide (z < 0)) A1 n1 c1)).put 1 rfl (decide (d < 0)) A2 n2 c2); (try simp only [List.set, World.size_alloc, World.size_setCell] at KF); have KF := KF.swap; have KG := KF; exact ⟨_, _, A1, n1, c1, A2, n2, c2, rfl, rfl, KG.ints_ ⟨KG.ints.2.1, KG.ints.1, trivial⟩⟩) | (have KF := ((K5.put 0 rfl (decide (d < 0)) A2 n2 c2).new 24 (Plains.two (decide (z < 0)) A1 n1 c1)); (try simp only [List.set, World.size_alloc, World.size_setCell] at KF); have KF := KF.swap; have KG := KF; exact ⟨_, _, A1, n1, c1, A2, n2, c2, rfl, rfl, KG.ints_ ⟨KG.ints.2.1, KG.ints.1, trivial⟩⟩) | (have KF := (((K5.new 24 (Plains.two false none 0 0)).put 0 rfl (decide (z < 0)) A1 n1 c1).put 1 rfl (decide (d < 0)) A2 n2 c2); (try simp only [List.set, World.size_alloc, World.size_setCell] at KF); have KF := KF.swap; have KG := KF; exact ⟨_, _, A1, n1, c1, A2, n2, c2, rfl, rfl, KG.ints_ ⟨KG.ints.2.1, KG.ints.1, trivial⟩⟩) | (trace_state; fail)
      refine AllReadyH.cons (o := ⟨some 3, _, _, _, _, _⟩) rfl (fun K hK => ?_) AllReadyH.nil
      go_simp
      have KA6 := KA7.new 24 (Plains.two false none 0 0)
      (try simp only [World.size_alloc] at KA6)
      obtain ⟨⟨b6x3, b6y3⟩, ⟨b7x3, b7y3⟩, _, ⟨p1c0n3, p1c1n3, p1c2n3, p1c3n3⟩, _⟩ := KA6.facts
      obtain ⟨f6x3, f6y3⟩ := KA6.free (i := 0) rfl
      obtain ⟨e6m1x3, e6m1y3⟩ := KA6.ne 0 3 rfl rfl (by decide)
      obtain ⟨f7x3, f7y3⟩ := KA6.free (i := 1) rfl
      obtain ⟨e7m1x3, e7m1y3⟩ := KA6.ne 1 3 rfl rfl (by decide)
      obtain ⟨eex3, eey3⟩ := KA6.ne 0 1 rfl rfl (by decide)
      refine hK.out _ _ ?_ (fun hHeld3 => ?_)
      · ((try dsimp only); first | go_keep | (trace_state; fail))
      clear hK K hHeld2
      (try simp only [Act.put, List.setIfInBounds_toArray, List.set_cons_zero, List.set_cons_succ])
      refine wpAnyH_ready (rs := [5]) (by kernel_rfl) (by simp) ?_
      refine AllReadyH.cons (o := ⟨some 11, _, _, _, _, _⟩) rfl (fun K hK => ?_) AllReadyH.nil
      go_simp
      have i5 := KA6.ints.2.1.i
      (go_at_call_of 51 (Value.agg #[Value.bool s', Value.slice A' n' c']); (with_reducible refine (canon_at i5).mono ?_); rintro e w2 ⟨A2, n2, c2, rfl, d2, u2, v2, g2⟩)
      (try go_wp2_with fail)
      have K5 := (KA6.call g2).add (CanAt.mk_ d2 u2 v2)
      clear p1c0n1 p1c1n1 p1c2n1 p1c3n1 b7x2 b7y2 p1c0n2 p1c1n2 p1c2n2 p1c3n2 f7x2 f7y2 e7m1x2 e7m1y2 b6x3 b6y3 b7x3 b7y3 p1c0n3 p1c1n3 p1c2n3 p1c3n3 f6x3 f6y3 e6m1x3 e6m1y3 f7x3 f7y3 e7m1x3 e7m1y3 eex3 eey3
      obtain ⟨⟨b6x4, b6y4⟩, ⟨b7x4, b7y4⟩, _, ⟨p1c0n4, p1c1n4, p1c2n4, p1c3n4⟩, _⟩ := K5.facts
      obtain ⟨f6x4, f6y4⟩ := K5.free (i := 0) rfl
      obtain ⟨e6m1x4, e6m1y4⟩ := K5.ne 0 3 rfl rfl (by decide)
      obtain ⟨f7x4, f7y4⟩ := K5.free (i := 1) rfl
      obtain ⟨e7m1x4, e7m1y4⟩ := K5.ne 1 3 rfl rfl (by decide)
      obtain ⟨eex4, eey4⟩ := K5.ne 0 1 rfl rfl (by decide)
      refine hK.out _ _ ?_ (fun hHeld4 => ?_)
      · ((try dsimp only); first | go_keep | (trace_state; fail))
      clear hK K hHeld3
      (try simp only [Act.put, List.setIfInBounds_toArray, List.set_cons_zero, List.set_cons_succ])
      refine wpAnyH_ready (rs := [8]) (by kernel_rfl) (by simp) ?_
      refine AllReadyH.cons (o := ⟨none, _, _, _, _, _⟩) rfl (fun K hK => ?_) AllReadyH.nil
      go_simp
      refine hK.out _ _ ?_ (fun hHeld5 => ?_)
      · ((try dsimp only); first | go_keep | (trace_state; fail))
      clear hK K hHeld4
      (try simp only [Act.put, List.setIfInBounds_toArray, List.set_cons_zero, List.set_cons_succ])
      refine wpAnyH_ready (rs := [9]) (by kernel_rfl) (by simp) ?_
      refine AllReadyH.cons (o := ⟨none, _, _, _, _, _⟩) rfl (fun K hK => ?_) AllReadyH.nil
      go_simp
      refine hK.out _ _ ?_ (fun hHeld6 => ?_)
      · ((try dsimp only); first | go_keep | (trace_state; fail))
      clear hK K hHeld5
      (try simp only [Act.put, List.setIfInBounds_toArray, List.set_cons_zero, List.set_cons_succ])
      refine wpAnyH_done (by kernel_rfl) ?_ _
      go_wp2_with fail
      go_meet
      first | (have KF := ((K5.put 0 rfl (decide (z < 0)) A1 n1 c1).put 1 rfl (decide (d < 0)) A2 n2 c2); (try simp only [List.set, World.size_alloc, World.size_setCell] at KF); have KF := KF.swap; have KG := KF; exact ⟨_, _, A1, n1, c1, A2, n2, c2, rfl, rfl, KG.ints_ ⟨KG.ints.2.1, KG.ints.1, trivial⟩⟩) | (have KF := ((K5.put 0 rfl (decide (z < 0)) A1 n1 c1).put 1 rfl (decide (d < 0)) A2 n2 c2); (try simp only [List.set, World.size_alloc, World.size_setCell] at KF); have KF := KF.swap; have KG := KF; exact ⟨_, _, A1, n1, c1, A2, n2, c2, rfl, rfl, KG.ints_ ⟨KG.ints.2.1, KG.ints.1, trivial⟩⟩) | (have KF := ((K5.put 0 rfl (decide (z < 0)) A1 n1 c1).put 1 rfl (decide (d < 0)) A2 n2 c2); (try simp only [List.set, World.size_alloc, World.size_setCell] at KF); have KF := KF.swap; have KG := KF; exact ⟨_, _, A1, n1, c1, A2, n2, c2, rfl, rfl, KG.ints_ ⟨KG.ints.2.1, KG.ints.1, trivial⟩⟩) | (trace_state; fail)
    refine AllReadyH.cons (o := ⟨some 3, _, _, _, _, _⟩) rfl (fun K hK => ?_) ?_
    · skip
      go_simp
      have KA6 := KZ.new 24 (Plains.two false none 0 0)
      (try simp only [World.size_alloc] at KA6)
      obtain ⟨⟨b6x1, b6y1⟩, _, ⟨p1c0n1, p1c1n1, p1c2n1, p1c3n1⟩, _⟩ := KA6.facts
      obtain ⟨f6x1, f6y1⟩ := KA6.free (i := 0) rfl
      obtain ⟨e6m1x1, e6m1y1⟩ := KA6.ne 0 2 rfl rfl (by decide)
      refine hK.out _ _ ?_ (fun hHeld1 => ?_)
      · ((try dsimp only); first | go_keep | (trace_state; fail))
      clear hK K hHeld0
      (try simp only [Act.put, List.setIfInBounds_toArray, List.set_cons_zero, List.set_cons_succ])
      refine wpAnyH_ready (rs := [2, 7]) (by kernel_rfl) (by simp) ?_
      refine AllReadyH.cons (o := ⟨some 8, _, _, _, _, _⟩) rfl (fun K hK => ?_) ?_
      · skip
        go_simp
        have i2 := KA6.drew.ints.2.1.i
        (go_at_call_of 51 (Value.agg #[Value.bool s, Value.slice A n c]); (with_reducible refine (canon_at i2).mono ?_); rintro e w1 ⟨A1, n1, c1, rfl, d1, u1, v1, g1⟩)
        (try go_wp2_with fail)
        have K2 := (KA6.drew.call g1).add (CanAt.mk_ d1 u1 v1)
        clear p0 p1 p2 p3 b6x1 b6y1 p1c0n1 p1c1n1 p1c2n1 p1c3n1 f6x1 f6y1 e6m1x1 e6m1y1
        obtain ⟨⟨b6x2, b6y2⟩, _, ⟨p1c0n2, p1c1n2, p1c2n2, p1c3n2⟩, _⟩ := K2.facts
        obtain ⟨f6x2, f6y2⟩ := K2.free (i := 0) rfl
        obtain ⟨e6m1x2, e6m1y2⟩ := K2.ne 0 2 rfl rfl (by decide)
        refine hK.out _ _ ?_ (fun hHeld2 => ?_)
        · ((try dsimp only); first | go_keep | (trace_state; fail))
        clear hK K hHeld1
        (try simp only [Act.put, List.setIfInBounds_toArray, List.set_cons_zero, List.set_cons_succ])
        refine wpAnyH_ready (rs := [5, 7]) (by kernel_rfl) (by simp) ?_
        refine AllReadyH.cons (o := ⟨some 11, _, _, _, _, _⟩) rfl (fun K hK => ?_) ?_
        · skip
          go_simp
          have i5 := K2.ints.2.1.i
          (go_at_call_of 51 (Value.agg #[Value.bool s', Value.slice A' n' c']); (with_reducible refine (canon_at i5).mono ?_); rintro e w2 ⟨A2, n2, c2, rfl, d2, u2, v2, g2⟩)
          (try go_wp2_with fail)
          have K5 := (K2.call g2).add (CanAt.mk_ d2 u2 v2)
          clear b6x2 b6y2 p1c0n2 p1c1n2 p1c2n2 p1c3n2 f6x2 f6y2 e6m1x2 e6m1y2
          obtain ⟨⟨b6x3, b6y3⟩, _, ⟨p1c0n3, p1c1n3, p1c2n3, p1c3n3⟩, _⟩ := K5.facts
          obtain ⟨f6x3, f6y3⟩ := K5.free (i := 0) rfl
          obtain ⟨e6m1x3, e6m1y3⟩ := K5.ne 0 2 rfl rfl (by decide)
          refine hK.out _ _ ?_ (fun hHeld3 => ?_)
          · ((try dsimp only); first | go_keep | (trace_state; fail))
          clear hK K hHeld2
          (try simp only [Act.put, List.setIfInBounds_toArray, List.set_cons_zero, List.set_cons_succ])
          refine wpAnyH_ready (rs := [7]) (by kernel_rfl) (by simp) ?_
          refine AllReadyH.cons (o := ⟨some 4, _, _, _, _, _⟩) rfl (fun K hK => ?_) AllReadyH.nil
          go_simp
          have KA7 := K5.new 24 (Plains.two false none 0 0)
          (try simp only [World.size_alloc] at KA7)
          obtain ⟨⟨b7x4, b7y4⟩, ⟨b6x4, b6y4⟩, _, ⟨p1c0n4, p1c1n4, p1c2n4, p1c3n4⟩, _⟩ := KA7.facts
          obtain ⟨f7x4, f7y4⟩ := KA7.free (i := 0) rfl
          obtain ⟨e7m1x4, e7m1y4⟩ := KA7.ne 0 3 rfl rfl (by decide)
          obtain ⟨f6x4, f6y4⟩ := KA7.free (i := 1) rfl
          obtain ⟨e6m1x4, e6m1y4⟩ := KA7.ne 1 3 rfl rfl (by decide)
          obtain ⟨eex4, eey4⟩ := KA7.ne 0 1 rfl rfl (by decide)
          refine hK.out _ _ ?_ (fun hHeld4 => ?_)
          · ((try dsimp only); first | go_keep | (trace_state; fail))
          clear hK K hHeld3
          (try simp only [Act.put, List.setIfInBounds_toArray, List.set_cons_zero, List.set_cons_succ])
          refine wpAnyH_ready (rs := [8]) (by kernel_rfl) (by simp) ?_
          refine AllReadyH.cons (o := ⟨none, _, _, _, _, _⟩) rfl (fun K hK => ?_) AllReadyH.nil
          go_simp
          refine hK.out _ _ ?_ (fun hHeld5 => ?_)
          · ((try dsimp only); first | go_keep | (trace_state; fail))
          clear hK K hHeld4
          (try simp only [Act.put, List.setIfInBounds_toArray, List.set_cons_zero, List.set_cons_succ])
          refine wpAnyH_ready (rs := [9]) (by kernel_rfl) (by simp) ?_
          refine AllReadyH.cons (o := ⟨none, _, _, _, _, _⟩) rfl (fun K hK => ?_) AllReadyH.nil
          go_simp
          have KS9 := K5.new 24 (Plains.two (decide (d < 0)) A2 n2 c2)
          (try simp only [World.size_alloc] at KS9)
          obtain ⟨⟨b7x5, b7y5⟩, ⟨b6x5, b6y5⟩, _, ⟨p1c0n5, p1c1n5, p1c2n5, p1c3n5⟩, _⟩ := KS9.facts
          obtain ⟨f7x5, f7y5⟩ := KS9.free (i := 0) rfl
          obtain ⟨e7m1x5, e7m1y5⟩ := KS9.ne 0 3 rfl rfl (by decide)
          obtain ⟨f6x5, f6y5⟩ := KS9.free (i := 1) rfl
          obtain ⟨e6m1x5, e6m1y5⟩ := KS9.ne 1 3 rfl rfl (by decide)
          obtain ⟨eex5, eey5⟩ := KS9.ne 0 1 rfl rfl (by decide)
          refine hK.out _ _ ?_ (fun hHeld6 => ?_)
          · ((try dsimp only); first | go_keep | (trace_state; fail))
          clear hK K hHeld5
          (try simp only [Act.put, List.setIfInBounds_toArray, List.set_cons_zero, List.set_cons_succ])
          refine wpAnyH_done (by kernel_rfl) ?_ _
          go_wp2_with fail
          go_meet
          first | (have KF := ((K5.new 24 (Plains.two (decide (d < 0)) A2 n2 c2)).put 1 rfl (decide (z < 0)) A1 n1 c1); (try simp only [List.set, World.size_alloc, World.size_setCell] at KF); have KG := KF; exact ⟨_, _, A1, n1, c1, A2, n2, c2, rfl, rfl, KG.ints_ ⟨KG.ints.2.1, KG.ints.1, trivial⟩⟩) | (have KF := ((K5.put 0 rfl (decide (z < 0)) A1 n1 c1).new 24 (Plains.two (decide (d < 0)) A2 n2 c2)); (try simp only [List.set, World.size_alloc, World.size_setCell] at KF); have KG := KF; exact ⟨_, _, A1, n1, c1, A2, n2, c2, rfl, rfl, KG.ints_ ⟨KG.ints.2.1, KG.ints.1, trivial⟩⟩) | (have KF := (((K5.new 24 (Plains.two false none 0 0)).put 1 rfl (decide (z < 0)) A1 n1 c1).put 0 rfl (decide (d < 0)) A2 n2 c2); (try simp only [List.set, World.size_alloc, World.size_setCell] at KF); have KG := KF; exact ⟨_, _, A1, n1, c1, A2, n2, c2, rfl, rfl, KG.ints_ ⟨KG.ints.2.1, KG.ints.1, trivial⟩⟩) | (trace_state; fail)
        refine AllReadyH.cons (o := ⟨some 4, _, _, _, _, _⟩) rfl (fun K hK => ?_) AllReadyH.nil
        go_simp
        have KA7 := K2.new 24 (Plains.two false none 0 0)
        (try simp only [World.size_alloc] at KA7)
        obtain ⟨⟨b7x3, b7y3⟩, ⟨b6x3, b6y3⟩, _, ⟨p1c0n3, p1c1n3, p1c2n3, p1c3n3⟩, _⟩ := KA7.facts
        obtain ⟨f7x3, f7y3⟩ := KA7.free (i := 0) rfl
        obtain ⟨e7m1x3, e7m1y3⟩ := KA7.ne 0 3 rfl rfl (by decide)
        obtain ⟨f6x3, f6y3⟩ := KA7.free (i := 1) rfl
        obtain ⟨e6m1x3, e6m1y3⟩ := KA7.ne 1 3 rfl rfl (by decide)
        obtain ⟨eex3, eey3⟩ := KA7.ne 0 1 rfl rfl (by decide)
        refine hK.out _ _ ?_ (fun hHeld3 => ?_)
        · ((try dsimp only); first | go_keep | (trace_state; fail))
        clear hK K hHeld2
        (try simp only [Act.put, List.setIfInBounds_toArray, List.set_cons_zero, List.set_cons_succ])
        refine wpAnyH_ready (rs := [5]) (by kernel_rfl) (by simp) ?_
        refine AllReadyH.cons (o := ⟨some 11, _, _, _, _, _⟩) rfl (fun K hK => ?_) AllReadyH.nil
        go_simp
        have i5 := KA7.ints.2.1.i
        (go_at_call_of 51 (Value.agg #[Value.bool s', Value.slice A' n' c']); (with_reducible refine (canon_at i5).mono ?_); rintro e w2 ⟨A2, n2, c2, rfl, d2, u2, v2, g2⟩)
        (try go_wp2_with fail)
        have K5 := (KA7.call g2).add (CanAt.mk_ d2 u2 v2)
        clear b6x2 b6y2 p1c0n2 p1c1n2 p1c2n2 p1c3n2 f6x2 f6y2 e6m1x2 e6m1y2 b7x3 b7y3 b6x3 b6y3 p1c0n3 p1c1n3 p1c2n3 p1c3n3 f7x3 f7y3 e7m1x3 e7m1y3 f6x3 f6y3 e6m1x3 e6m1y3 eex3 eey3
        obtain ⟨⟨b7x4, b7y4⟩, ⟨b6x4, b6y4⟩, _, ⟨p1c0n4, p1c1n4, p1c2n4, p1c3n4⟩, _⟩ := K5.facts
        obtain ⟨f7x4, f7y4⟩ := K5.free (i := 0) rfl
        obtain ⟨e7m1x4, e7m1y4⟩ := K5.ne 0 3 rfl rfl (by decide)
        obtain ⟨f6x4, f6y4⟩ := K5.free (i := 1) rfl
        obtain ⟨e6m1x4, e6m1y4⟩ := K5.ne 1 3 rfl rfl (by decide)
        obtain ⟨eex4, eey4⟩ := K5.ne 0 1 rfl rfl (by decide)
        refine hK.out _ _ ?_ (fun hHeld4 => ?_)
        · ((try dsimp only); first | go_keep | (trace_state; fail))
        clear hK K hHeld3
        (try simp only [Act.put, List.setIfInBounds_toArray, List.set_cons_zero, List.set_cons_succ])
        refine wpAnyH_ready (rs := [8]) (by kernel_rfl) (by simp) ?_
        refine AllReadyH.cons (o := ⟨none, _, _, _, _, _⟩) rfl (fun K hK => ?_) AllReadyH.nil
        go_simp
        refine hK.out _ _ ?_ (fun hHeld5 => ?_)
        · ((try dsimp only); first | go_keep | (trace_state; fail))
        clear hK K hHeld4
        (try simp only [Act.put, List.setIfInBounds_toArray, List.set_cons_zero, List.set_cons_succ])
        refine wpAnyH_ready (rs := [9]) (by kernel_rfl) (by simp) ?_
        refine AllReadyH.cons (o := ⟨none, _, _, _, _, _⟩) rfl (fun K hK => ?_) AllReadyH.nil
        go_simp
        refine hK.out _ _ ?_ (fun hHeld6 => ?_)
        · ((try dsimp only); first | go_keep | (trace_state; fail))
        clear hK K hHeld5
        (try simp only [Act.put, List.setIfInBounds_toArray, List.set_cons_zero, List.set_cons_succ])
        refine wpAnyH_done (by kernel_rfl) ?_ _
        go_wp2_with fail
        go_meet
        first | (have KF := ((K5.put 1 rfl (decide (z < 0)) A1 n1 c1).put 0 rfl (decide (d < 0)) A2 n2 c2); (try simp only [List.set, World.size_alloc, World.size_setCell] at KF); have KG := KF; exact ⟨_, _, A1, n1, c1, A2, n2, c2, rfl, rfl, KG.ints_ ⟨KG.ints.2.1, KG.ints.1, trivial⟩⟩) | (have KF := ((K5.put 1 rfl (decide (z < 0)) A1 n1 c1).put 0 rfl (decide (d < 0)) A2 n2 c2); (try simp only [List.set, World.size_alloc, World.size_setCell] at KF); have KG := KF; exact ⟨_, _, A1, n1, c1, A2, n2, c2, rfl, rfl, KG.ints_ ⟨KG.ints.2.1, KG.ints.1, trivial⟩⟩) | (have KF := ((K5.put 1 rfl (decide (z < 0)) A1 n1 c1).put 0 rfl (decide (d < 0)) A2 n2 c2); (try simp only [List.set, World.size_alloc, World.size_setCell] at KF); have KG := KF; exact ⟨_, _, A1, n1, c1, A2, n2, c2, rfl, rfl, KG.ints_ ⟨KG.ints.2.1, KG.ints.1, trivial⟩⟩) | (trace_state; fail)
      refine AllReadyH.cons (o := ⟨some 4, _, _, _, _, _⟩) rfl (fun K hK => ?_) AllReadyH.nil
      go_simp
      have KA7 := KA6.new 24 (Plains.two false none 0 0)
      (try simp only [World.size_alloc] at KA7)
      obtain ⟨⟨b7x2, b7y2⟩, ⟨b6x2, b6y2⟩, _, ⟨p1c0n2, p1c1n2, p1c2n2, p1c3n2⟩, _⟩ := KA7.facts
      obtain ⟨f7x2, f7y2⟩ := KA7.free (i := 0) rfl
      obtain ⟨e7m1x2, e7m1y2⟩ := KA7.ne 0 3 rfl rfl (by decide)
      obtain ⟨f6x2, f6y2⟩ := KA7.free (i := 1) rfl
      obtain ⟨e6m1x2, e6m1y2⟩ := KA7.ne 1 3 rfl rfl (by decide)
      obtain ⟨eex2, eey2⟩ := KA7.ne 0 1 rfl rfl (by decide)
      refine hK.out _ _ ?_ (fun hHeld2 => ?_)
      · ((try dsimp only); first | go_keep | (trace_state; fail))
      clear hK K hHeld1
      (try simp only [Act.put, List.setIfInBounds_toArray, List.set_cons_zero, List.set_cons_succ])
      refine wpAnyH_ready (rs := [2]) (by kernel_rfl) (by simp) ?_
      refine AllReadyH.cons (o := ⟨some 8, _, _, _, _, _⟩) rfl (fun K hK => ?_) AllReadyH.nil
      go_simp
      have i2 := KA7.drew.ints.2.1.i
      (go_at_call_of 51 (Value.agg #[Value.bool s, Value.slice A n c]); (with_reducible refine (canon_at i2).mono ?_); rintro e w1 ⟨A1, n1, c1, rfl, d1, u1, v1, g1⟩)
      (try go_wp2_with fail)
      have K2 := (KA7.drew.call g1).add (CanAt.mk_ d1 u1 v1)
      clear p0 p1 p2 p3 b6x1 b6y1 p1c0n1 p1c1n1 p1c2n1 p1c3n1 f6x1 f6y1 e6m1x1 e6m1y1 b7x2 b7y2 b6x2 b6y2 p1c0n2 p1c1n2 p1c2n2 p1c3n2 f7x2 f7y2 e7m1x2 e7m1y2 f6x2 f6y2 e6m1x2 e6m1y2 eex2 eey2
      obtain ⟨⟨b7x3, b7y3⟩, ⟨b6x3, b6y3⟩, _, ⟨p1c0n3, p1c1n3, p1c2n3, p1c3n3⟩, _⟩ := K2.facts
      obtain ⟨f7x3, f7y3⟩ := K2.free (i := 0) rfl
      obtain ⟨e7m1x3, e7m1y3⟩ := K2.ne 0 3 rfl rfl (by decide)
      obtain ⟨f6x3, f6y3⟩ := K2.free (i := 1) rfl
      obtain ⟨e6m1x3, e6m1y3⟩ := K2.ne 1 3 rfl rfl (by decide)
      obtain ⟨eex3, eey3⟩ := K2.ne 0 1 rfl rfl (by decide)
      refine hK.out _ _ ?_ (fun hHeld3 => ?_)
      · ((try dsimp only); first | go_keep | (trace_state; fail))
      clear hK K hHeld2
      (try simp only [Act.put, List.setIfInBounds_toArray, List.set_cons_zero, List.set_cons_succ])
      refine wpAnyH_ready (rs := [5]) (by kernel_rfl) (by simp) ?_
      refine AllReadyH.cons (o := ⟨some 11, _, _, _, _, _⟩) rfl (fun K hK => ?_) AllReadyH.nil
      go_simp
      have i5 := K2.ints.2.1.i
      (go_at_call_of 51 (Value.agg #[Value.bool s', Value.slice A' n' c']); (with_reducible refine (canon_at i5).mono ?_); rintro e w2 ⟨A2, n2, c2, rfl, d2, u2, v2, g2⟩)
      (try go_wp2_with fail)
      have K5 := (K2.call g2).add (CanAt.mk_ d2 u2 v2)
      clear b7x3 b7y3 b6x3 b6y3 p1c0n3 p1c1n3 p1c2n3 p1c3n3 f7x3 f7y3 e7m1x3 e7m1y3 f6x3 f6y3 e6m1x3 e6m1y3 eex3 eey3
      obtain ⟨⟨b7x4, b7y4⟩, ⟨b6x4, b6y4⟩, _, ⟨p1c0n4, p1c1n4, p1c2n4, p1c3n4⟩, _⟩ := K5.facts
      obtain ⟨f7x4, f7y4⟩ := K5.free (i := 0) rfl
      obtain ⟨e7m1x4, e7m1y4⟩ := K5.ne 0 3 rfl rfl (by decide)
      obtain ⟨f6x4, f6y4⟩ := K5.free (i := 1) rfl
      obtain ⟨e6m1x4, e6m1y4⟩ := K5.ne 1 3 rfl rfl (by decide)
      obtain ⟨eex4, eey4⟩ := K5.ne 0 1 rfl rfl (by decide)
      refine hK.out _ _ ?_ (fun hHeld4 => ?_)
      · ((try dsimp only); first | go_keep | (trace_state; fail))
      clear hK K hHeld3
      (try simp only [Act.put, List.setIfInBounds_toArray, List.set_cons_zero, List.set_cons_succ])
      refine wpAnyH_ready (rs := [8]) (by kernel_rfl) (by simp) ?_
      refine AllReadyH.cons (o := ⟨none, _, _, _, _, _⟩) rfl (fun K hK => ?_) AllReadyH.nil
      go_simp
      refine hK.out _ _ ?_ (fun hHeld5 => ?_)
      · ((try dsimp only); first | go_keep | (trace_state; fail))
      clear hK K hHeld4
      (try simp only [Act.put, List.setIfInBounds_toArray, List.set_cons_zero, List.set_cons_succ])
      refine wpAnyH_ready (rs := [9]) (by kernel_rfl) (by simp) ?_
      refine AllReadyH.cons (o := ⟨none, _, _, _, _, _⟩) rfl (fun K hK => ?_) AllReadyH.nil
      go_simp
      refine hK.out _ _ ?_ (fun hHeld6 => ?_)
      · ((try dsimp only); first | go_keep | (trace_state; fail))
      clear hK K hHeld5
      (try simp only [Act.put, List.setIfInBounds_toArray, List.set_cons_zero, List.set_cons_succ])
      refine wpAnyH_done (by kernel_rfl) ?_ _
      go_wp2_with fail
      go_meet
      first | (have KF := ((K5.put 1 rfl (decide (z < 0)) A1 n1 c1).put 0 rfl (decide (d < 0)) A2 n2 c2); (try simp only [List.set, World.size_alloc, World.size_setCell] at KF); have KG := KF; exact ⟨_, _, A1, n1, c1, A2, n2, c2, rfl, rfl, KG.ints_ ⟨KG.ints.2.1, KG.ints.1, trivial⟩⟩) | (have KF := ((K5.put 1 rfl (decide (z < 0)) A1 n1 c1).put 0 rfl (decide (d < 0)) A2 n2 c2); (try simp only [List.set, World.size_alloc, World.size_setCell] at KF); have KG := KF; exact ⟨_, _, A1, n1, c1, A2, n2, c2, rfl, rfl, KG.ints_ ⟨KG.ints.2.1, KG.ints.1, trivial⟩⟩) | (have KF := ((K5.put 1 rfl (decide (z < 0)) A1 n1 c1).put 0 rfl (decide (d < 0)) A2 n2 c2); (try simp only [List.set, World.size_alloc, World.size_setCell] at KF); have KG := KF; exact ⟨_, _, A1, n1, c1, A2, n2, c2, rfl, rfl, KG.ints_ ⟨KG.ints.2.1, KG.ints.1, trivial⟩⟩) | (trace_state; fail)
    refine AllReadyH.cons (o := ⟨some 4, _, _, _, _, _⟩) rfl (fun K hK => ?_) AllReadyH.nil
    go_simp
    have KA7 := KZ.new 24 (Plains.two false none 0 0)
    (try simp only [World.size_alloc] at KA7)
    obtain ⟨⟨b7x1, b7y1⟩, _, ⟨p1c0n1, p1c1n1, p1c2n1, p1c3n1⟩, _⟩ := KA7.facts
    obtain ⟨f7x1, f7y1⟩ := KA7.free (i := 0) rfl
    obtain ⟨e7m1x1, e7m1y1⟩ := KA7.ne 0 2 rfl rfl (by decide)
    refine hK.out _ _ ?_ (fun hHeld1 => ?_)
    · ((try dsimp only); first | go_keep | (trace_state; fail))
    clear hK K hHeld0
    (try simp only [Act.put, List.setIfInBounds_toArray, List.set_cons_zero, List.set_cons_succ])
    refine wpAnyH_ready (rs := [2, 6]) (by kernel_rfl) (by simp) ?_
    refine AllReadyH.cons (o := ⟨some 8, _, _, _, _, _⟩) rfl (fun K hK => ?_) ?_
    · skip
      go_simp
      have i2 := KA7.drew.ints.2.1.i
      (go_at_call_of 51 (Value.agg #[Value.bool s, Value.slice A n c]); (with_reducible refine (canon_at i2).mono ?_); rintro e w1 ⟨A1, n1, c1, rfl, d1, u1, v1, g1⟩)
      (try go_wp2_with fail)
      have K2 := (KA7.drew.call g1).add (CanAt.mk_ d1 u1 v1)
      clear p0 p1 p2 p3 b7x1 b7y1 p1c0n1 p1c1n1 p1c2n1 p1c3n1 f7x1 f7y1 e7m1x1 e7m1y1
      obtain ⟨⟨b7x2, b7y2⟩, _, ⟨p1c0n2, p1c1n2, p1c2n2, p1c3n2⟩, _⟩ := K2.facts
      obtain ⟨f7x2, f7y2⟩ := K2.free (i := 0) rfl
      obtain ⟨e7m1x2, e7m1y2⟩ := K2.ne 0 2 rfl rfl (by decide)
      refine hK.out _ _ ?_ (fun hHeld2 => ?_)
      · ((try dsimp only); first | go_keep | (trace_state; fail))
      clear hK K hHeld1
      (try simp only [Act.put, List.setIfInBounds_toArray, List.set_cons_zero, List.set_cons_succ])
      refine wpAnyH_ready (rs := [5, 6]) (by kernel_rfl) (by simp) ?_
      refine AllReadyH.cons (o := ⟨some 11, _, _, _, _, _⟩) rfl (fun K hK => ?_) ?_
      · skip
        go_simp
        have i5 := K2.ints.2.1.i
        (go_at_call_of 51 (Value.agg #[Value.bool s', Value.slice A' n' c']); (with_reducible refine (canon_at i5).mono ?_); rintro e w2 ⟨A2, n2, c2, rfl, d2, u2, v2, g2⟩)
        (try go_wp2_with fail)
        have K5 := (K2.call g2).add (CanAt.mk_ d2 u2 v2)
        clear b7x2 b7y2 p1c0n2 p1c1n2 p1c2n2 p1c3n2 f7x2 f7y2 e7m1x2 e7m1y2
        obtain ⟨⟨b7x3, b7y3⟩, _, ⟨p1c0n3, p1c1n3, p1c2n3, p1c3n3⟩, _⟩ := K5.facts
        obtain ⟨f7x3, f7y3⟩ := K5.free (i := 0) rfl
        obtain ⟨e7m1x3, e7m1y3⟩ := K5.ne 0 2 rfl rfl (by decide)
        refine hK.out _ _ ?_ (fun hHeld3 => ?_)
        · ((try dsimp only); first | go_keep | (trace_state; fail))
        clear hK K hHeld2
        (try simp only [Act.put, List.setIfInBounds_toArray, List.set_cons_zero, List.set_cons_succ])
        refine wpAnyH_ready (rs := [6]) (by kernel_rfl) (by simp) ?_
        refine AllReadyH.cons (o := ⟨some 3, _, _, _, _, _⟩) rfl (fun K hK => ?_) AllReadyH.nil
        go_simp
        have KA6 := K5.new 24 (Plains.two false none 0 0)
        (try simp only [World.size_alloc] at KA6)
        obtain ⟨⟨b6x4, b6y4⟩, ⟨b7x4, b7y4⟩, _, ⟨p1c0n4, p1c1n4, p1c2n4, p1c3n4⟩, _⟩ := KA6.facts
        obtain ⟨f6x4, f6y4⟩ := KA6.free (i := 0) rfl
        obtain ⟨e6m1x4, e6m1y4⟩ := KA6.ne 0 3 rfl rfl (by decide)
        obtain ⟨f7x4, f7y4⟩ := KA6.free (i := 1) rfl
        obtain ⟨e7m1x4, e7m1y4⟩ := KA6.ne 1 3 rfl rfl (by decide)
        obtain ⟨eex4, eey4⟩ := KA6.ne 0 1 rfl rfl (by decide)
        refine hK.out _ _ ?_ (fun hHeld4 => ?_)
        · ((try dsimp only); first | go_keep | (trace_state; fail))
        clear hK K hHeld3
        (try simp only [Act.put, List.setIfInBounds_toArray, List.set_cons_zero, List.set_cons_succ])
        refine wpAnyH_ready (rs := [8]) (by kernel_rfl) (by simp) ?_
        refine AllReadyH.cons (o := ⟨none, _, _, _, _, _⟩) rfl (fun K hK => ?_) AllReadyH.nil
        go_simp
        have KS8 := K5.new 24 (Plains.two (decide (z < 0)) A1 n1 c1)
        (try simp only [World.size_alloc] at KS8)
        obtain ⟨⟨b6x5, b6y5⟩, ⟨b7x5, b7y5⟩, _, ⟨p1c0n5, p1c1n5, p1c2n5, p1c3n5⟩, _⟩ := KS8.facts
        obtain ⟨f6x5, f6y5⟩ := KS8.free (i := 0) rfl
        obtain ⟨e6m1x5, e6m1y5⟩ := KS8.ne 0 3 rfl rfl (by decide)
        obtain ⟨f7x5, f7y5⟩ := KS8.free (i := 1) rfl
        obtain ⟨e7m1x5, e7m1y5⟩ := KS8.ne 1 3 rfl rfl (by decide)
        obtain ⟨eex5, eey5⟩ := KS8.ne 0 1 rfl rfl (by decide)
        refine hK.out _ _ ?_ (fun hHeld5 => ?_)
        · ((try dsimp only); first | go_keep | (trace_state; fail))
        clear hK K hHeld4
        (try simp only [Act.put, List.setIfInBounds_toArray, List.set_cons_zero, List.set_cons_succ])
        refine wpAnyH_ready (rs := [9]) (by kernel_rfl) (by simp) ?_
        refine AllReadyH.cons (o := ⟨none, _, _, _, _, _⟩) rfl (fun K hK => ?_) AllReadyH.nil
        go_simp
        refine hK.out _ _ ?_ (fun hHeld6 => ?_)
        · ((try dsimp only); first | go_keep | (trace_state; fail))
        clear hK K hHeld5
        (try simp only [Act.put, List.setIfInBounds_toArray, List.set_cons_zero, List.set_cons_succ])
        refine wpAnyH_done (by kernel_rfl) ?_ _
        go_wp2_with fail
        go_meet
        first | (have KF := ((K5.new 24 (Plains.two (decide (z < 0)) A1 n1 c1)).put 1 rfl (decide (d < 0)) A2 n2 c2); (try simp only [List.set, World.size_alloc, World.size_setCell] at KF); have KF := KF.swap; have KG := KF; exact ⟨_, _, A1, n1, c1, A2, n2, c2, rfl, rfl, KG.ints_ ⟨KG.ints.2.1, KG.ints.1, trivial⟩⟩) | (have KF := ((K5.put 0 rfl (decide (d < 0)) A2 n2 c2).new 24 (Plains.two (decide (z < 0)) A1 n1 c1)); (try simp only [List.set, World.size_alloc, World.size_setCell] at KF); have KF := KF.swap; have KG := KF; exact ⟨_, _, A1, n1, c1, A2, n2, c2, rfl, rfl, KG.ints_ ⟨KG.ints.2.1, KG.ints.1, trivial⟩⟩) | (have KF := (((K5.new 24 (Plains.two false none 0 0)).put 0 rfl (decide (z < 0)) A1 n1 c1).put 1 rfl (decide (d < 0)) A2 n2 c2); (try simp only [List.set, World.size_alloc, World.size_setCell] at KF); have KF := KF.swap; have KG := KF; exact ⟨_, _, A1, n1, c1, A2, n2, c2, rfl, rfl, KG.ints_ ⟨KG.ints.2.1, KG.ints.1, trivial⟩⟩) | (trace_state; fail)
      refine AllReadyH.cons (o := ⟨some 3, _, _, _, _, _⟩) rfl (fun K hK => ?_) AllReadyH.nil
      go_simp
      have KA6 := K2.new 24 (Plains.two false none 0 0)
      (try simp only [World.size_alloc] at KA6)
      obtain ⟨⟨b6x3, b6y3⟩, ⟨b7x3, b7y3⟩, _, ⟨p1c0n3, p1c1n3, p1c2n3, p1c3n3⟩, _⟩ := KA6.facts
      obtain ⟨f6x3, f6y3⟩ := KA6.free (i := 0) rfl
      obtain ⟨e6m1x3, e6m1y3⟩ := KA6.ne 0 3 rfl rfl (by decide)
      obtain ⟨f7x3, f7y3⟩ := KA6.free (i := 1) rfl
      obtain ⟨e7m1x3, e7m1y3⟩ := KA6.ne 1 3 rfl rfl (by decide)
      obtain ⟨eex3, eey3⟩ := KA6.ne 0 1 rfl rfl (by decide)
      refine hK.out _ _ ?_ (fun hHeld3 => ?_)
      · ((try dsimp only); first | go_keep | (trace_state; fail))
      clear hK K hHeld2
      (try simp only [Act.put, List.setIfInBounds_toArray, List.set_cons_zero, List.set_cons_succ])
      refine wpAnyH_ready (rs := [5]) (by kernel_rfl) (by simp) ?_
      refine AllReadyH.cons (o := ⟨some 11, _, _, _, _, _⟩) rfl (fun K hK => ?_) AllReadyH.nil
      go_simp
      have i5 := KA6.ints.2.1.i
      (go_at_call_of 51 (Value.agg #[Value.bool s', Value.slice A' n' c']); (with_reducible refine (canon_at i5).mono ?_); rintro e w2 ⟨A2, n2, c2, rfl, d2, u2, v2, g2⟩)
      (try go_wp2_with fail)
      have K5 := (KA6.call g2).add (CanAt.mk_ d2 u2 v2)
      clear b7x2 b7y2 p1c0n2 p1c1n2 p1c2n2 p1c3n2 f7x2 f7y2 e7m1x2 e7m1y2 b6x3 b6y3 b7x3 b7y3 p1c0n3 p1c1n3 p1c2n3 p1c3n3 f6x3 f6y3 e6m1x3 e6m1y3 f7x3 f7y3 e7m1x3 e7m1y3 eex3 eey3
      obtain ⟨⟨b6x4, b6y4⟩, ⟨b7x4, b7y4⟩, _, ⟨p1c0n4, p1c1n4, p1c2n4, p1c3n4⟩, _⟩ := K5.facts
      obtain ⟨f6x4, f6y4⟩ := K5.free (i := 0) rfl
      obtain ⟨e6m1x4, e6m1y4⟩ := K5.ne 0 3 rfl rfl (by decide)
      obtain ⟨f7x4, f7y4⟩ := K5.free (i := 1) rfl
      obtain ⟨e7m1x4, e7m1y4⟩ := K5.ne 1 3 rfl rfl (by decide)
      obtain ⟨eex4, eey4⟩ := K5.ne 0 1 rfl rfl (by decide)
      refine hK.out _ _ ?_ (fun hHeld4 => ?_)
      · ((try dsimp only); first | go_keep | (trace_state; fail))
      clear hK K hHeld3
      (try simp only [Act.put, List.setIfInBounds_toArray, List.set_cons_zero, List.set_cons_succ])
      refine wpAnyH_ready (rs := [8]) (by kernel_rfl) (by simp) ?_
      refine AllReadyH.cons (o := ⟨none, _, _, _, _, _⟩) rfl (fun K hK => ?_) AllReadyH.nil
      go_simp
      refine hK.out _ _ ?_ (fun hHeld5 => ?_)
      · ((try dsimp only); first | go_keep | (trace_state; fail))
      clear hK K hHeld4
      (try simp only [Act.put, List.setIfInBounds_toArray, List.set_cons_zero, List.set_cons_succ])
      refine wpAnyH_ready (rs := [9]) (by kernel_rfl) (by simp) ?_
      refine AllReadyH.cons (o := ⟨none, _, _, _, _, _⟩) rfl (fun K hK => ?_) AllReadyH.nil
      go_simp
      refine hK.out _ _ ?_ (fun hHeld6 => ?_)
      · ((try dsimp only); first | go_keep | (trace_state; fail))
      clear hK K hHeld5
      (try simp only [Act.put, List.setIfInBounds_toArray, List.set_cons_zero, List.set_cons_succ])
      refine wpAnyH_done (by kernel_rfl) ?_ _
      go_wp2_with fail
      go_meet
      first | (have KF := ((K5.put 0 rfl (decide (z < 0)) A1 n1 c1).put 1 rfl (decide (d < 0)) A2 n2 c2); (try simp only [List.set, World.size_alloc, World.size_setCell] at KF); have KF := KF.swap; have KG := KF; exact ⟨_, _, A1, n1, c1, A2, n2, c2, rfl, rfl, KG.ints_ ⟨KG.ints.2.1, KG.ints.1, trivial⟩⟩) | (have KF := ((K5.put 0 rfl (decide (z < 0)) A1 n1 c1).put 1 rfl (decide (d < 0)) A2 n2 c2); (try simp only [List.set, World.size_alloc, World.size_setCell] at KF); have KF := KF.swap; have KG := KF; exact ⟨_, _, A1, n1, c1, A2, n2, c2, rfl, rfl, KG.ints_ ⟨KG.ints.2.1, KG.ints.1, trivial⟩⟩) | (have KF := ((K5.put 0 rfl (decide (z < 0)) A1 n1 c1).put 1 rfl (decide (d < 0)) A2 n2 c2); (try simp only [List.set, World.size_alloc, World.size_setCell] at KF); have KF := KF.swap; have KG := KF; exact ⟨_, _, A1, n1, c1, A2, n2, c2, rfl, rfl, KG.ints_ ⟨KG.ints.2.1, KG.ints.1, trivial⟩⟩) | (trace_state; fail)
    refine AllReadyH.cons (o := ⟨some 3, _, _, _, _, _⟩) rfl (fun K hK => ?_) AllReadyH.nil
    go_simp
    have KA6 := KA7.new 24 (Plains.two false none 0 0)
    (try simp only [World.size_alloc] at KA6)
    obtain ⟨⟨b6x2, b6y2⟩, ⟨b7x2, b7y2⟩, _, ⟨p1c0n2, p1c1n2, p1c2n2, p1c3n2⟩, _⟩ := KA6.facts
    obtain ⟨f6x2, f6y2⟩ := KA6.free (i := 0) rfl
    obtain ⟨e6m1x2, e6m1y2⟩ := KA6.ne 0 3 rfl rfl (by decide)
    obtain ⟨f7x2, f7y2⟩ := KA6.free (i := 1) rfl
    obtain ⟨e7m1x2, e7m1y2⟩ := KA6.ne 1 3 rfl rfl (by decide)
    obtain ⟨eex2, eey2⟩ := KA6.ne 0 1 rfl rfl (by decide)
    refine hK.out _ _ ?_ (fun hHeld2 => ?_)
    · ((try dsimp only); first | go_keep | (trace_state; fail))
    clear hK K hHeld1
    (try simp only [Act.put, List.setIfInBounds_toArray, List.set_cons_zero, List.set_cons_succ])
    refine wpAnyH_ready (rs := [2]) (by kernel_rfl) (by simp) ?_
    refine AllReadyH.cons (o := ⟨some 8, _, _, _, _, _⟩) rfl (fun K hK => ?_) AllReadyH.nil
    go_simp
    have i2 := KA6.drew.ints.2.1.i
    (go_at_call_of 51 (Value.agg #[Value.bool s, Value.slice A n c]); (with_reducible refine (canon_at i2).mono ?_); rintro e w1 ⟨A1, n1, c1, rfl, d1, u1, v1, g1⟩)
    (try go_wp2_with fail)
    have K2 := (KA6.drew.call g1).add (CanAt.mk_ d1 u1 v1)
    clear p0 p1 p2 p3 b7x1 b7y1 p1c0n1 p1c1n1 p1c2n1 p1c3n1 f7x1 f7y1 e7m1x1 e7m1y1 b6x2 b6y2 b7x2 b7y2 p1c0n2 p1c1n2 p1c2n2 p1c3n2 f6x2 f6y2 e6m1x2 e6m1y2 f7x2 f7y2 e7m1x2 e7m1y2 eex2 eey2
    obtain ⟨⟨b6x3, b6y3⟩, ⟨b7x3, b7y3⟩, _, ⟨p1c0n3, p1c1n3, p1c2n3, p1c3n3⟩, _⟩ := K2.facts
    obtain ⟨f6x3, f6y3⟩ := K2.free (i := 0) rfl
    obtain ⟨e6m1x3, e6m1y3⟩ := K2.ne 0 3 rfl rfl (by decide)
    obtain ⟨f7x3, f7y3⟩ := K2.free (i := 1) rfl
    obtain ⟨e7m1x3, e7m1y3⟩ := K2.ne 1 3 rfl rfl (by decide)
    obtain ⟨eex3, eey3⟩ := K2.ne 0 1 rfl rfl (by decide)
    refine hK.out _ _ ?_ (fun hHeld3 => ?_)
    · ((try dsimp only); first | go_keep | (trace_state; fail))
    clear hK K hHeld2
    (try simp only [Act.put, List.setIfInBounds_toArray, List.set_cons_zero, List.set_cons_succ])
    refine wpAnyH_ready (rs := [5]) (by kernel_rfl) (by simp) ?_
    refine AllReadyH.cons (o := ⟨some 11, _, _, _, _, _⟩) rfl (fun K hK => ?_) AllReadyH.nil
    go_simp
    have i5 := K2.ints.2.1.i
    (go_at_call_of 51 (Value.agg #[Value.bool s', Value.slice A' n' c']); (with_reducible refine (canon_at i5).mono ?_); rintro e w2 ⟨A2, n2, c2, rfl, d2, u2, v2, g2⟩)
    (try go_wp2_with fail)
    have K5 := (K2.call g2).add (CanAt.mk_ d2 u2 v2)
    clear b6x3 b6y3 b7x3 b7y3 p1c0n3 p1c1n3 p1c2n3 p1c3n3 f6x3 f6y3 e6m1x3 e6m1y3 f7x3 f7y3 e7m1x3 e7m1y3 eex3 eey3
    obtain ⟨⟨b6x4, b6y4⟩, ⟨b7x4, b7y4⟩, _, ⟨p1c0n4, p1c1n4, p1c2n4, p1c3n4⟩, _⟩ := K5.facts
    obtain ⟨f6x4, f6y4⟩ := K5.free (i := 0) rfl
    obtain ⟨e6m1x4, e6m1y4⟩ := K5.ne 0 3 rfl rfl (by decide)
    obtain ⟨f7x4, f7y4⟩ := K5.free (i := 1) rfl
    obtain ⟨e7m1x4, e7m1y4⟩ := K5.ne 1 3 rfl rfl (by decide)
    obtain ⟨eex4, eey4⟩ := K5.ne 0 1 rfl rfl (by decide)
    refine hK.out _ _ ?_ (fun hHeld4 => ?_)
    · ((try dsimp only); first | go_keep | (trace_state; fail))
    clear hK K hHeld3
    (try simp only [Act.put, List.setIfInBounds_toArray, List.set_cons_zero, List.set_cons_succ])
    refine wpAnyH_ready (rs := [8]) (by kernel_rfl) (by simp) ?_
    refine AllReadyH.cons (o := ⟨none, _, _, _, _, _⟩) rfl (fun K hK => ?_) AllReadyH.nil
    go_simp
    refine hK.out _ _ ?_ (fun hHeld5 => ?_)
    · ((try dsimp only); first | go_keep | (trace_state; fail))
    clear hK K hHeld4
    (try simp only [Act.put, List.setIfInBounds_toArray, List.set_cons_zero, List.set_cons_succ])
    refine wpAnyH_ready (rs := [9]) (by kernel_rfl) (by simp) ?_
    refine AllReadyH.cons (o := ⟨none, _, _, _, _, _⟩) rfl (fun K hK => ?_) AllReadyH.nil
    go_simp
    refine hK.out _ _ ?_ (fun hHeld6 => ?_)
    · ((try dsimp only); first | go_keep | (trace_state; fail))
    clear hK K hHeld5
    (try simp only [Act.put, List.setIfInBounds_toArray, List.set_cons_zero, List.set_cons_succ])
    refine wpAnyH_done (by kernel_rfl) ?_ _
    go_wp2_with fail
    go_meet
    first | (have KF := ((K5.put 0 rfl (decide (z < 0)) A1 n1 c1).put 1 rfl (decide (d < 0)) A2 n2 c2); (try simp only [List.set, World.size_alloc, World.size_setCell] at KF); have KF := KF.swap; have KG := KF; exact ⟨_, _, A1, n1, c1, A2, n2, c2, rfl, rfl, KG.ints_ ⟨KG.ints.2.1, KG.ints.1, trivial⟩⟩) | (have KF := ((K5.put 0 rfl (decide (z < 0)) A1 n1 c1).put 1 rfl (decide (d < 0)) A2 n2 c2); (try simp only [List.set, World.size_alloc, World.size_setCell] at KF); have KF := KF.swap; have KG := KF; exact ⟨_, _, A1, n1, c1, A2, n2, c2, rfl, rfl, KG.ints_ ⟨KG.ints.2.1, KG.ints.1, trivial⟩⟩) | (have KF := ((K5.put 0 rfl (decide (z < 0)) A1 n1 c1).put 1 rfl (decide (d < 0)) A2 n2 c2); (try simp only [List.set, World.size_alloc, World.size_setCell] at KF); have KF := KF.swap; have KG := KF; exact ⟨_, _, A1, n1, c1, A2, n2, c2, rfl, rfl, KG.ints_ ⟨KG.ints.2.1, KG.ints.1, trivial⟩⟩) | (trace_state; fail)
  case rest =>
    clear KZ W0
    obtain ⟨h3, h4, A1, n1, c1, A2, n2, c2, rfl, rfl, K⟩ := hcut
    obtain ⟨⟨p2, p3⟩, ⟨p0, p1⟩, _⟩ := K.facts
    obtain ⟨z1, z2⟩ := K.ne 0 1 rfl rfl (by decide)
    obtain ⟨y5, y6⟩ := K.ne 0 2 rfl rfl (by decide)
    obtain ⟨y7, y8⟩ := K.ne 1 2 rfl rfl (by decide)
    by_cases hz : z = 0
    · have HR := r_num0 (d := d) hz
      rw [HX.out, HY.out] at HR
      obtain ⟨rfl, rfl⟩ := HR
      obtain rfl := digs_len0 K.ints.1.c hz
      clear hz
      go_upto_region 3 with fail
      go_wp2_with (first
        | (go_at_call 52; (with_reducible refine (rone_any _).mono ?_); rintro e w3 ⟨A3, n3, c3, rfl, d3, u3, v3, g3⟩; have K3 := (K.call g3).add (show CanAt w3 false A3 n3 c3 1 from CanAt.mk_ d3 u3 v3); obtain ⟨_, _, ⟨q0, q1, q2, q3⟩, _⟩ := K3.facts; obtain ⟨f0, f1, f2, f3⟩ := K3.free (i := 2) rfl)
        | fail)
      have K4 := K3.put4 2 rfl false none 0 0 false A3 n3 c3
      simp only [List.set] at K4
      obtain ⟨_, _, ⟨r0, r1, r2, r3⟩, _⟩ := K4.facts
      refine bodyPost_ret (v := .agg #[.bool false, .slice none 0 0, .bool false, .slice A3 n3 c3]) (by simp [results, Try.results27, go_sem, r0, r1, r2, r3]) rfl ?_
      exact ⟨none, 0, 0, A3, n3, c3, rfl, CanAt.zero_ _, K4.ints.1.c, K4.below⟩
    · have hn1 := digs_lenp K.ints.1.c hz
      have hn1z : ((n1 : Int) == 0) = false := by simp; omega
      by_cases hd : d = 0
      · have HR := r_den0 (z := z) hd
        rw [HX.out, HY.out] at HR
        obtain ⟨rfl, rfl⟩ := HR
        obtain rfl := digs_len0 K.ints.2.1.c hd
        clear hz hd
        go_upto_region 3 with fail
        go_wp2_with (first
          | (go_at_call 52; (with_reducible refine (rone_any _).mono ?_); rintro e w3 ⟨A3, n3, c3, rfl, d3, u3, v3, g3⟩; have K3 := (K.call g3).add (show CanAt w3 false A3 n3 c3 1 from CanAt.mk_ d3 u3 v3); obtain ⟨_, _, ⟨q0, q1, q2, q3⟩, _⟩ := K3.facts; obtain ⟨f0, f1, f2, f3⟩ := K3.free (i := 2) rfl)
          | fail)
        have K4 := K3.put4 2 rfl false none 0 0 false A3 n3 c3
        simp only [List.set] at K4
        obtain ⟨_, _, ⟨r0, r1, r2, r3⟩, _⟩ := K4.facts
        refine bodyPost_ret (v := .agg #[.bool false, .slice none 0 0, .bool false, .slice A3 n3 c3]) (by simp [results, Try.results27, go_sem, r0, r1, r2, r3]) rfl ?_
        exact ⟨none, 0, 0, A3, n3, c3, rfl, CanAt.zero_ _, K4.ints.1.c, K4.below⟩
      · have hn2 := digs_lenp K.ints.2.1.c hd
        have hn2z : ((n2 : Int) == 0) = false := by simp; omega
        obtain ⟨u, HU⟩ : ∃ v, Hid (un z d = v) := ⟨_, rfl⟩
        obtain ⟨t, HT⟩ : ∃ v, Hid (ud z d = v) := ⟨_, rfl⟩
        obtain ⟨G, HG⟩ : ∃ v, Hid (((Int.gcd u t : Nat) : Int) = v) := ⟨_, rfl⟩
        have HX2 : Hid (dmQ u G = x) := by unfold Hid; rw [← HX.out, ← HG.out, ← HU.out, ← HT.out]; exact rn_dm z d
        have HY2 : Hid (dmQ t G = y) := by unfold Hid; rw [← HY.out, ← HG.out, ← HU.out, ← HT.out]; exact rd_dm z d
        obtain ⟨m1, HM1⟩ : ∃ v, Hid (dmR u G = v) := ⟨_, rfl⟩
        obtain ⟨m2, HM2⟩ : ∃ v, Hid (dmR t G = v) := ⟨_, rfl⟩
        have zu : Sz u 2000 := zz2.le (by rw [← HU.out]; exact un_abs z d)
        have zt : Sz t 2000 := zd2.le (by rw [← HT.out]; unfold ud; rw [if_neg hd]; split <;> omega)
        have zg : Sz G 2000 := by
          refine zt.le ?_
          rw [← HG.out, Int.natAbs_natCast]
          exact Nat.le_of_dvd (by have := ud_pos z d; rw [HT.out] at this; omega) (Int.gcd_dvd_natAbs_right ..)
        have ku := zu.ok
        have kt := zt.ok
        have kg := zg.ok
        clear hz
        by_cases hn : d < 0
        · have e1 : Hid (-z = u) := (un_neg hn).symm.trans HU.out
          have e2 : Hid (-d = t) := (ud_neg hn).symm.trans HT.out
          have hb : decide (d < 0) = true := by simpa using hn
          clear hd hn
          go_upto_region 5 with fail
          clear p0 p1 p2 p3
          go_cut [] (fun wx => ∃ (A3 : Option Addr) (n3 c3 : Nat) (A4 : Option Addr) (n4 c4 : Nat), St w wx [vi h4 (decide (t < 0)) A4 n4 c4, vi h3 (decide (u < 0)) A3 n3 c3, vf (w.heap.size + 1) false none 0 0 false none 0 0, vf w.heap.size s A n c s' A' n' c'] [(decide (u < 0), A3, n3, c3, u, true), (decide (t < 0), A4, n4, c4, t, true)])
          case first =>
            have Kd := K.drew
            clear K
            obtain ⟨⟨p2, p3⟩, ⟨p0, p1⟩, _, ⟨p4, _⟩, _⟩ := Kd.facts
            obtain ⟨w1, w2⟩ := Kd.ne 0 3 rfl rfl (by decide)
            obtain ⟨w3, w4⟩ := Kd.ne 1 3 rfl rfl (by decide)
            have iz := Kd.ints.1.ci kz
            rw [hb] at p2
            skip
            refine wp_region_held_drew (S := fun w' => w'.cell? ⟨w.heap.size, 0, none⟩ = some (.bool s)) (by kernel_rfl) ?_ (fun hHeld0 => ?_)
            · ((try dsimp only); go_keep)
            refine wpAnyH_ready (rs := [0, 2]) (by kernel_rfl) (by simp) ?_
            refine AllReadyH.cons (o := ⟨some 26, _, _, _, _, _⟩) rfl (fun K hK => ?_) ?_
            · skip
              go_simp
              refine hK.out _ _ ?_ (fun hHeld1 => ?_)
              · ((try dsimp only); go_keep)
              clear hK K hHeld0
              (try simp only [Act.put, List.setIfInBounds_toArray, List.set_cons_zero, List.set_cons_succ])
              refine wpAnyH_ready (rs := [1, 2]) (by kernel_rfl) (by simp) ?_
              refine AllReadyH.cons (o := ⟨some 27, _, _, _, _, _⟩) rfl (fun K hK => ?_) ?_
              · skip
                go_simp
                (first | (go_at_call_of 53 (Value.agg #[Value.bool (decide (z < 0)), Value.slice A1 n1 c1]); (with_reducible refine (rnegate_at iz).mono ?_); rw [e1.out]; rintro e wa ⟨A3, n3, c3, rfl, d3, u3, v3, g3⟩; have K3 := (Kd.call g3).add (CanAt.mk_ d3 u3 v3); clear p0 p1 p2 p3 p4; obtain ⟨⟨p2, p3⟩, ⟨p0, p1⟩, _, ⟨p4, _⟩, _⟩ := K3.facts; have id := K3.ints.2.2.1.ci kd; rw [hb] at p2 id) | (go_at_call_of 53 (Value.agg #[Value.bool true, Value.slice A2 n2 c2]); (with_reducible refine (rnegate_at id).mono ?_); rw [e2.out]; rintro e wb ⟨A4, n4, c4, rfl, d4, u4, v4, g4⟩; have K4 := (K3.call g4).add (CanAt.mk_ d4 u4 v4); clear p0 p1 p2 p3 p4; obtain ⟨⟨p2, p3⟩, ⟨p0, p1⟩, _, ⟨p4, _⟩, _⟩ := K4.facts; rw [hb] at p2; obtain ⟨f0, f1⟩ := K4.free (i := 0) rfl; obtain ⟨f2, f3⟩ := K4.free (i := 1) rfl) | fail)
                (try go_wp2_with fail)
                refine hK.out _ _ ?_ (fun hHeld2 => ?_)
                · ((try dsimp only); go_keep)
                clear hK K hHeld1
                (try simp only [Act.put, List.setIfInBounds_toArray, List.set_cons_zero, List.set_cons_succ])
                refine wpAnyH_ready (rs := [2]) (by kernel_rfl) (by simp) ?_
                refine AllReadyH.cons (o := ⟨some 28, _, _, _, _, _⟩) rfl (fun K hK => ?_) AllReadyH.nil
                go_simp
                refine hK.out _ _ ?_ (fun hHeld3 => ?_)
                · ((try dsimp only); go_keep)
                clear hK K hHeld2
                (try simp only [Act.put, List.setIfInBounds_toArray, List.set_cons_zero, List.set_cons_succ])
                refine wpAnyH_ready (rs := [3]) (by kernel_rfl) (by simp) ?_
                refine AllReadyH.cons (o := ⟨some 29, _, _, _, _, _⟩) rfl (fun K hK => ?_) AllReadyH.nil
                go_simp
                (first | (go_at_call_of 53 (Value.agg #[Value.bool (decide (z < 0)), Value.slice A1 n1 c1]); (with_reducible refine (rnegate_at iz).mono ?_); rw [e1.out]; rintro e wa ⟨A3, n3, c3, rfl, d3, u3, v3, g3⟩; have K3 := (Kd.call g3).add (CanAt.mk_ d3 u3 v3); clear p0 p1 p2 p3 p4; obtain ⟨⟨p2, p3⟩, ⟨p0, p1⟩, _, ⟨p4, _⟩, _⟩ := K3.facts; have id := K3.ints.2.2.1.ci kd; rw [hb] at p2 id) | (go_at_call_of 53 (Value.agg #[Value.bool true, Value.slice A2 n2 c2]); (with_reducible refine (rnegate_at id).mono ?_); rw [e2.out]; rintro e wb ⟨A4, n4, c4, rfl, d4, u4, v4, g4⟩; have K4 := (K3.call g4).add (CanAt.mk_ d4 u4 v4); clear p0 p1 p2 p3 p4; obtain ⟨⟨p2, p3⟩, ⟨p0, p1⟩, _, ⟨p4, _⟩, _⟩ := K4.facts; rw [hb] at p2; obtain ⟨f0, f1⟩ := K4.free (i := 0) rfl; obtain ⟨f2, f3⟩ := K4.free (i := 1) rfl) | fail)
                (try go_wp2_with fail)
                refine hK.out _ _ ?_ (fun hHeld4 => ?_)
                · ((try dsimp only); go_keep)
                clear hK K hHeld3
                (try simp only [Act.put, List.setIfInBounds_toArray, List.set_cons_zero, List.set_cons_succ])
                refine wpAnyH_ready (rs := [4]) (by kernel_rfl) (by simp) ?_
                refine AllReadyH.cons (o := ⟨none, _, _, _, _, _⟩) rfl (fun K hK => ?_) AllReadyH.nil
                go_simp
                refine hK.out _ _ ?_ (fun hHeld5 => ?_)
                · ((try dsimp only); go_keep)
                clear hK K hHeld4
                (try simp only [Act.put, List.setIfInBounds_toArray, List.set_cons_zero, List.set_cons_succ])
                refine wpAnyH_ready (rs := [5]) (by kernel_rfl) (by simp) ?_
                refine AllReadyH.cons (o := ⟨none, _, _, _, _, _⟩) rfl (fun K hK => ?_) AllReadyH.nil
                go_simp
                refine hK.out _ _ ?_ (fun hHeld6 => ?_)
                · ((try dsimp only); go_keep)
                clear hK K hHeld5
                (try simp only [Act.put, List.setIfInBounds_toArray, List.set_cons_zero, List.set_cons_succ])
                refine wpAnyH_done (by kernel_rfl) ?_ _
                go_wp2_with fail
                go_meet
                have K5 := (K4.put 1 rfl (decide (u < 0)) A3 n3 c3).put 0 rfl (decide (t < 0)) A4 n4 c4
                simp only [List.set] at K5
                exact ⟨A3, n3, c3, A4, n4, c4, K5.ints_ ⟨K5.ints.2.1, K5.ints.1, trivial⟩⟩
              refine AllReadyH.cons (o := ⟨some 28, _, _, _, _, _⟩) rfl (fun K hK => ?_) AllReadyH.nil
              go_simp
              refine hK.out _ _ ?_ (fun hHeld2 => ?_)
              · ((try dsimp only); go_keep)
              clear hK K hHeld1
              (try simp only [Act.put, List.setIfInBounds_toArray, List.set_cons_zero, List.set_cons_succ])
              refine wpAnyH_ready (rs := [1]) (by kernel_rfl) (by simp) ?_
              refine AllReadyH.cons (o := ⟨some 27, _, _, _, _, _⟩) rfl (fun K hK => ?_) AllReadyH.nil
              go_simp
              (first | (go_at_call_of 53 (Value.agg #[Value.bool (decide (z < 0)), Value.slice A1 n1 c1]); (with_reducible refine (rnegate_at iz).mono ?_); rw [e1.out]; rintro e wa ⟨A3, n3, c3, rfl, d3, u3, v3, g3⟩; have K3 := (Kd.call g3).add (CanAt.mk_ d3 u3 v3); clear p0 p1 p2 p3 p4; obtain ⟨⟨p2, p3⟩, ⟨p0, p1⟩, _, ⟨p4, _⟩, _⟩ := K3.facts; have id := K3.ints.2.2.1.ci kd; rw [hb] at p2 id) | (go_at_call_of 53 (Value.agg #[Value.bool true, Value.slice A2 n2 c2]); (with_reducible refine (rnegate_at id).mono ?_); rw [e2.out]; rintro e wb ⟨A4, n4, c4, rfl, d4, u4, v4, g4⟩; have K4 := (K3.call g4).add (CanAt.mk_ d4 u4 v4); clear p0 p1 p2 p3 p4; obtain ⟨⟨p2, p3⟩, ⟨p0, p1⟩, _, ⟨p4, _⟩, _⟩ := K4.facts; rw [hb] at p2; obtain ⟨f0, f1⟩ := K4.free (i := 0) rfl; obtain ⟨f2, f3⟩ := K4.free (i := 1) rfl) | fail)
              (try go_wp2_with fail)
              refine hK.out _ _ ?_ (fun hHeld3 => ?_)
              · ((try dsimp only); go_keep)
              clear hK K hHeld2
              (try simp only [Act.put, List.setIfInBounds_toArray, List.set_cons_zero, List.set_cons_succ])
              refine wpAnyH_ready (rs := [3]) (by kernel_rfl) (by simp) ?_
              refine AllReadyH.cons (o := ⟨some 29, _, _, _, _, _⟩) rfl (fun K hK => ?_) AllReadyH.nil
              go_simp
              (first | (go_at_call_of 53 (Value.agg #[Value.bool (decide (z < 0)), Value.slice A1 n1 c1]); (with_reducible refine (rnegate_at iz).mono ?_); rw [e1.out]; rintro e wa ⟨A3, n3, c3, rfl, d3, u3, v3, g3⟩; have K3 := (Kd.call g3).add (CanAt.mk_ d3 u3 v3); clear p0 p1 p2 p3 p4; obtain ⟨⟨p2, p3⟩, ⟨p0, p1⟩, _, ⟨p4, _⟩, _⟩ := K3.facts; have id := K3.ints.2.2.1.ci kd; rw [hb] at p2 id) | (go_at_call_of 53 (Value.agg #[Value.bool true, Value.slice A2 n2 c2]); (with_reducible refine (rnegate_at id).mono ?_); rw [e2.out]; rintro e wb ⟨A4, n4, c4, rfl, d4, u4, v4, g4⟩; have K4 := (K3.call g4).add (CanAt.mk_ d4 u4 v4); clear p0 p1 p2 p3 p4; obtain ⟨⟨p2, p3⟩, ⟨p0, p1⟩, _, ⟨p4, _⟩, _⟩ := K4.facts; rw [hb] at p2; obtain ⟨f0, f1⟩ := K4.free (i := 0) rfl; obtain ⟨f2, f3⟩ := K4.free (i := 1) rfl) | fail)
              (try go_wp2_with fail)
              refine hK.out _ _ ?_ (fun hHeld4 => ?_)
              · ((try dsimp only); go_keep)
              clear hK K hHeld3
              (try simp only [Act.put, List.setIfInBounds_toArray, List.set_cons_zero, List.set_cons_succ])
              refine wpAnyH_ready (rs := [4]) (by kernel_rfl) (by simp) ?_
              refine AllReadyH.cons (o := ⟨none, _, _, _, _, _⟩) rfl (fun K hK => ?_) AllReadyH.nil
              go_simp
              refine hK.out _ _ ?_ (fun hHeld5 => ?_)
              · ((try dsimp only); go_keep)
              clear hK K hHeld4
              (try simp only [Act.put, List.setIfInBounds_toArray, List.set_cons_zero, List.set_cons_succ])
              refine wpAnyH_ready (rs := [5]) (by kernel_rfl) (by simp) ?_
              refine AllReadyH.cons (o := ⟨none, _, _, _, _, _⟩) rfl (fun K hK => ?_) AllReadyH.nil
              go_simp
              refine hK.out _ _ ?_ (fun hHeld6 => ?_)
              · ((try dsimp only); go_keep)
              clear hK K hHeld5
              (try simp only [Act.put, List.setIfInBounds_toArray, List.set_cons_zero, List.set_cons_succ])
              refine wpAnyH_done (by kernel_rfl) ?_ _
              go_wp2_with fail
              go_meet
              have K5 := (K4.put 1 rfl (decide (u < 0)) A3 n3 c3).put 0 rfl (decide (t < 0)) A4 n4 c4
              simp only [List.set] at K5
              exact ⟨A3, n3, c3, A4, n4, c4, K5.ints_ ⟨K5.ints.2.1, K5.ints.1, trivial⟩⟩
            refine AllReadyH.cons (o := ⟨some 28, _, _, _, _, _⟩) rfl (fun K hK => ?_) AllReadyH.nil
            go_simp
            refine hK.out _ _ ?_ (fun hHeld1 => ?_)
            · ((try dsimp only); go_keep)
            clear hK K hHeld0
            (try simp only [Act.put, List.setIfInBounds_toArray, List.set_cons_zero, List.set_cons_succ])
            refine wpAnyH_ready (rs := [0]) (by kernel_rfl) (by simp) ?_
            refine AllReadyH.cons (o := ⟨some 26, _, _, _, _, _⟩) rfl (fun K hK => ?_) AllReadyH.nil
            go_simp
            refine hK.out _ _ ?_ (fun hHeld2 => ?_)
            · ((try dsimp only); go_keep)
            clear hK K hHeld1
            (try simp only [Act.put, List.setIfInBounds_toArray, List.set_cons_zero, List.set_cons_succ])
            refine wpAnyH_ready (rs := [1]) (by kernel_rfl) (by simp) ?_
            refine AllReadyH.cons (o := ⟨some 27, _, _, _, _, _⟩) rfl (fun K hK => ?_) AllReadyH.nil
            go_simp
            (first | (go_at_call_of 53 (Value.agg #[Value.bool (decide (z < 0)), Value.slice A1 n1 c1]); (with_reducible refine (rnegate_at iz).mono ?_); rw [e1.out]; rintro e wa ⟨A3, n3, c3, rfl, d3, u3, v3, g3⟩; have K3 := (Kd.call g3).add (CanAt.mk_ d3 u3 v3); clear p0 p1 p2 p3 p4; obtain ⟨⟨p2, p3⟩, ⟨p0, p1⟩, _, ⟨p4, _⟩, _⟩ := K3.facts; have id := K3.ints.2.2.1.ci kd; rw [hb] at p2 id) | (go_at_call_of 53 (Value.agg #[Value.bool true, Value.slice A2 n2 c2]); (with_reducible refine (rnegate_at id).mono ?_); rw [e2.out]; rintro e wb ⟨A4, n4, c4, rfl, d4, u4, v4, g4⟩; have K4 := (K3.call g4).add (CanAt.mk_ d4 u4 v4); clear p0 p1 p2 p3 p4; obtain ⟨⟨p2, p3⟩, ⟨p0, p1⟩, _, ⟨p4, _⟩, _⟩ := K4.facts; rw [hb] at p2; obtain ⟨f0, f1⟩ := K4.free (i := 0) rfl; obtain ⟨f2, f3⟩ := K4.free (i := 1) rfl) | fail)
            (try go_wp2_with fail)
            refine hK.out _ _ ?_ (fun hHeld3 => ?_)
            · ((try dsimp only); go_keep)
            clear hK K hHeld2
            (try simp only [Act.put, List.setIfInBounds_toArray, List.set_cons_zero, List.set_cons_succ])
            refine wpAnyH_ready (rs := [3]) (by kernel_rfl) (by simp) ?_
            refine AllReadyH.cons (o := ⟨some 29, _, _, _, _, _⟩) rfl (fun K hK => ?_) AllReadyH.nil
            go_simp
            (first | (go_at_call_of 53 (Value.agg #[Value.bool (decide (z < 0)), Value.slice A1 n1 c1]); (with_reducible refine (rnegate_at iz).mono ?_); rw [e1.out]; rintro e wa ⟨A3, n3, c3, rfl, d3, u3, v3, g3⟩; have K3 := (Kd.call g3).add (CanAt.mk_ d3 u3 v3); clear p0 p1 p2 p3 p4; obtain ⟨⟨p2, p3⟩, ⟨p0, p1⟩, _, ⟨p4, _⟩, _⟩ := K3.facts; have id := K3.ints.2.2.1.ci kd; rw [hb] at p2 id) | (go_at_call_of 53 (Value.agg #[Value.bool true, Value.slice A2 n2 c2]); (with_reducible refine (rnegate_at id).mono ?_); rw [e2.out]; rintro e wb ⟨A4, n4, c4, rfl, d4, u4, v4, g4⟩; have K4 := (K3.call g4).add (CanAt.mk_ d4 u4 v4); clear p0 p1 p2 p3 p4; obtain ⟨⟨p2, p3⟩, ⟨p0, p1⟩, _, ⟨p4, _⟩, _⟩ := K4.facts; rw [hb] at p2; obtain ⟨f0, f1⟩ := K4.free (i := 0) rfl; obtain ⟨f2, f3⟩ := K4.free (i := 1) rfl) | fail)
            (try go_wp2_with fail)
            refine hK.out _ _ ?_ (fun hHeld4 => ?_)
            · ((try dsimp only); go_keep)
            clear hK K hHeld3
            (try simp only [Act.put, List.setIfInBounds_toArray, List.set_cons_zero, List.set_cons_succ])
            refine wpAnyH_ready (rs := [4]) (by kernel_rfl) (by simp) ?_
            refine AllReadyH.cons (o := ⟨none, _, _, _, _, _⟩) rfl (fun K hK => ?_) AllReadyH.nil
            go_simp
            refine hK.out _ _ ?_ (fun hHeld5 => ?_)
            · ((try dsimp only); go_keep)
            clear hK K hHeld4
            (try simp only [Act.put, List.setIfInBounds_toArray, List.set_cons_zero, List.set_cons_succ])
            refine wpAnyH_ready (rs := [5]) (by kernel_rfl) (by simp) ?_
            refine AllReadyH.cons (o := ⟨none, _, _, _, _, _⟩) rfl (fun K hK => ?_) AllReadyH.nil
            go_simp
            refine hK.out _ _ ?_ (fun hHeld6 => ?_)
            · ((try dsimp only); go_keep)
            clear hK K hHeld5
            (try simp only [Act.put, List.setIfInBounds_toArray, List.set_cons_zero, List.set_cons_succ])
            refine wpAnyH_done (by kernel_rfl) ?_ _
            go_wp2_with fail
            go_meet
            have K5 := (K4.put 1 rfl (decide (u < 0)) A3 n3 c3).put 0 rfl (decide (t < 0)) A4 n4 c4
            simp only [List.set] at K5
            exact ⟨A3, n3, c3, A4, n4, c4, K5.ints_ ⟨K5.ints.2.1, K5.ints.1, trivial⟩⟩
          case rest =>
            clear K
            obtain ⟨A3, n3, c3, A4, n4, c4, K⟩ := hcut
            obtain ⟨⟨p2, p3⟩, ⟨p0, p1⟩, _⟩ := K.facts
            have iu := K.ints.1.ci ku
            have it := K.ints.2.1.ci kt
            go_upto_region 7 with (first
              | (go_at_call 54; (with_reducible refine (rgcd_at iu it zu zt).mono ?_); rw [HG.out]; rintro e w5 ⟨A5, n5, c5, rfl, d5, u5, v5, g5⟩; have K5 := ((K.call g5).add (CanAt.mk_ d5 u5 v5)).new 24 (Plains.two (decide (G < 0)) A5 n5 c5))
              | fail)
            clear K iu it p0 p1 p2 p3 d5 g5
            generalize w5.alloc (.cells #[.bool (decide (G < 0)), .slice A5 n5 c5] 24) = W5 at K5 ⊢
            generalize w5.heap.size = h6 at K5 ⊢
            obtain ⟨⟨p4, p5⟩, ⟨p2, p3⟩, ⟨p0, p1⟩, _⟩ := K5.facts
            have ig := K5.ints.1.ci kg
            have iu := K5.ints.2.1.ci ku
            go_upto_region 8 with (first
              | (go_at_call 55; (with_reducible refine (rdivMod_at iu ig zu zg).mono ?_); rw [HX2.out, HM1.out]; rintro e w6 ⟨A6, n6, c6, A7, n7, c7, rfl, d6, u6, v6, d7, u7, v7, g6⟩; have K6 := (K5.call g6).add (CanAt.mk_ d6 u6 v6); clear p0 p1 p2 p3 p4 p5; obtain ⟨⟨p4, p5⟩, ⟨p2, p3⟩, ⟨p0, p1⟩, _⟩ := K6.facts; obtain ⟨f0, f1⟩ := K6.free (i := 2) rfl)
              | fail)
            have K7 := K6.put 2 rfl (decide (x < 0)) A6 n6 c6
            simp only [List.set] at K7
            clear K5 K6 ig iu p0 p1 p2 p3 p4 p5 f0 f1 d6 d7 g6
            generalize ((w6.setCell ⟨h3, 0, none⟩ (.bool (decide (x < 0)))).setCell ⟨h3, 1, none⟩ (.slice A6 n6 c6)) = W7 at K7 ⊢
            obtain ⟨⟨p4, p5⟩, ⟨p2, p3⟩, ⟨p0, p1⟩, _⟩ := K7.facts
            have ig := K7.ints.2.1.ci kg
            have it := K7.ints.2.2.2.1.ci kt
            go_upto_region 9 with (first
              | (go_at_call 55; (with_reducible refine (rdivMod_at it ig zt zg).mono ?_); rw [HY2.out, HM2.out]; rintro e w8 ⟨A8, n8, c8, A9, n9, c9, rfl, d8, u8, v8, d9, u9, v9, g8⟩; have K8 := (K7.call g8).add (CanAt.mk_ d8 u8 v8); clear p0 p1 p2 p3 p4 p5; obtain ⟨⟨p4, p5⟩, ⟨p2, p3⟩, ⟨p0, p1⟩, _⟩ := K8.facts; obtain ⟨f0, f1⟩ := K8.free (i := 1) rfl)
              | fail)
            have K9 := K8.put 1 rfl (decide (y < 0)) A8 n8 c8
            simp only [List.set] at K9
            clear K7 K8 ig it p0 p1 p2 p3 p4 p5 f0 f1 d8 d9 g8
            generalize ((w8.setCell ⟨h4, 0, none⟩ (.bool (decide (y < 0)))).setCell ⟨h4, 1, none⟩ (.slice A8 n8 c8)) = W9 at K9 ⊢
            obtain ⟨_, ⟨p2, p3⟩, ⟨p0, p1⟩, ⟨q0, q1, q2, q3⟩, _⟩ := K9.facts
            obtain ⟨f0, f1, f2, f3⟩ := K9.free (i := 3) rfl
            obtain ⟨y1, y2⟩ := K9.ne 1 3 rfl rfl (by decide)
            obtain ⟨y3, y4⟩ := K9.ne 2 3 rfl rfl (by decide)
            have KX := K9.put4 3 rfl (decide (x < 0)) A6 n6 c6 (decide (y < 0)) A8 n8 c8
            simp only [List.set] at KX
            obtain ⟨_, _, _, ⟨r0, r1, r2, r3⟩, _⟩ := KX.facts
            go_wp2_with fail
            refine bodyPost_ret (v := .agg #[.bool (decide (x < 0)), .slice A6 n6 c6, .bool (decide (y < 0)), .slice A8 n8 c8]) (by simp [results, Try.results27, go_sem, r0, r1, r2, r3]) rfl ?_
            exact ⟨A6, n6, c6, A8, n8, c8, rfl, KX.ints.2.1.c, KX.ints.1.c, KX.below⟩
        · have e1 : z = u := (un_pos (show 0 < d by omega)).symm.trans HU.out
          have e2 : d = t := (ud_pos_ (show 0 < d by omega)).symm.trans HT.out
          have hb : decide (d < 0) = false := decide_eq_false hn
          clear hd hn
          subst e1
          subst e2
          go_upto_region 6 with fail
          have HB := Lib.hid hb
          clear p0 p1 p2 p3 hb
          obtain ⟨⟨p2, p3⟩, ⟨p0, p1⟩, _⟩ := K.facts
          have iu := K.ints.1.ci ku
          have it := K.ints.2.1.ci kt
          go_upto_region 7 with (first
            | (go_at_call 54; (with_reducible refine (rgcd_at iu it zu zt).mono ?_); rw [HG.out]; rintro e w5 ⟨A5, n5, c5, rfl, d5, u5, v5, g5⟩; have K5 := ((K.call g5).add (CanAt.mk_ d5 u5 v5)).new 24 (Plains.two (decide (G < 0)) A5 n5 c5))
            | fail)
          clear K iu it p0 p1 p2 p3 d5 g5
          generalize w5.alloc (.cells #[.bool (decide (G < 0)), .slice A5 n5 c5] 24) = W5 at K5 ⊢
          generalize w5.heap.size = h6 at K5 ⊢
          obtain ⟨⟨p4, p5⟩, ⟨p2, p3⟩, ⟨p0, p1⟩, _⟩ := K5.facts
          have ig := K5.ints.1.ci kg
          have iu := K5.ints.2.1.ci ku
          go_upto_region 8 with (first
            | (go_at_call 55; (with_reducible refine (rdivMod_at iu ig zu zg).mono ?_); rw [HX2.out, HM1.out]; rintro e w6 ⟨A6, n6, c6, A7, n7, c7, rfl, d6, u6, v6, d7, u7, v7, g6⟩; have K6 := (K5.call g6).add (CanAt.mk_ d6 u6 v6); clear p0 p1 p2 p3 p4 p5; obtain ⟨⟨p4, p5⟩, ⟨p2, p3⟩, ⟨p0, p1⟩, _⟩ := K6.facts; obtain ⟨f0, f1⟩ := K6.free (i := 2) rfl)
            | fail)
          have K7 := K6.put 2 rfl (decide (x < 0)) A6 n6 c6
          simp only [List.set] at K7
          clear K5 K6 ig iu p0 p1 p2 p3 p4 p5 f0 f1 d6 d7 g6
          generalize ((w6.setCell ⟨h3, 0, none⟩ (.bool (decide (x < 0)))).setCell ⟨h3, 1, none⟩ (.slice A6 n6 c6)) = W7 at K7 ⊢
          obtain ⟨⟨p4, p5⟩, ⟨p2, p3⟩, ⟨p0, p1⟩, _⟩ := K7.facts
          have ig := K7.ints.2.1.ci kg
          have it := K7.ints.2.2.2.1.ci kt
          go_upto_region 9 with (first
            | (go_at_call 55; (with_reducible refine (rdivMod_at it ig zt zg).mono ?_); rw [HY2.out, HM2.out]; rintro e w8 ⟨A8, n8, c8, A9, n9, c9, rfl, d8, u8, v8, d9, u9, v9, g8⟩; have K8 := (K7.call g8).add (CanAt.mk_ d8 u8 v8); clear p0 p1 p2 p3 p4 p5; obtain ⟨⟨p4, p5⟩, ⟨p2, p3⟩, ⟨p0, p1⟩, _⟩ := K8.facts; obtain ⟨f0, f1⟩ := K8.free (i := 1) rfl)
            | fail)
          have K9 := K8.put 1 rfl (decide (y < 0)) A8 n8 c8
          simp only [List.set] at K9
          clear K7 K8 ig it p0 p1 p2 p3 p4 p5 f0 f1 d8 d9 g8
          generalize ((w8.setCell ⟨h4, 0, none⟩ (.bool (decide (y < 0)))).setCell ⟨h4, 1, none⟩ (.slice A8 n8 c8)) = W9 at K9 ⊢
          obtain ⟨_, ⟨p2, p3⟩, ⟨p0, p1⟩, ⟨q0, q1, q2, q3⟩, _⟩ := K9.facts
          obtain ⟨f0, f1, f2, f3⟩ := K9.free (i := 3) rfl
          obtain ⟨y1, y2⟩ := K9.ne 1 3 rfl rfl (by decide)
          obtain ⟨y3, y4⟩ := K9.ne 2 3 rfl rfl (by decide)
          have KX := K9.put4 3 rfl (decide (x < 0)) A6 n6 c6 (decide (y < 0)) A8 n8 c8
          simp only [List.set] at KX
          obtain ⟨_, _, _, ⟨r0, r1, r2, r3⟩, _⟩ := KX.facts
          go_wp2_with fail
          refine bodyPost_ret (v := .agg #[.bool (decide (x < 0)), .slice A6 n6 c6, .bool (decide (y < 0)), .slice A8 n8 c8]) (by simp [results, Try.results27, go_sem, r0, r1, r2, r3]) rfl ?_
          exact ⟨A6, n6, c6, A8, n8, c8, rfl, KX.ints.2.1.c, KX.ints.1.c, KX.below⟩
end
section
open Go.RowKit

theorem sameInt_at {w : World} {s s' : Bool} {A A' : Option Addr} {n c n' c' : Nat} {x y : Int} (h : CanAt w s A n c x) (h' : CanAt w s' A' n' c' y) (hxy : x = y) : Calls Try.prog 65 #[.agg #[.bool s, .slice A n c], .agg #[.bool s', .slice A' n' c']] w (RetT1 w) := by
  obtain ⟨rfl, h1, h2, h3⟩ := h
  subst hxy
  obtain ⟨rfl, h1', h2', h3'⟩ := h'
  have := sameInt_any (decide (x < 0)) (decide (x < 0)) A A' n n' c c' _ _ w h1 h1' h2 h3 h2' h3'
  rwa [← sameB_true rfl] at this
set_option maxHeartbeats 4000000 in
set_option maxRecDepth 100000 in
theorem sameFrac_at {w : World} {s1 s2 s3 s4 : Bool} {A1 A2 A3 A4 : Option Addr} {n1 c1 n2 c2 n3 c3 n4 c4 : Nat} {x y : Int} (h1 : CanAt w s1 A1 n1 c1 x) (h2 : CanAt w s2 A2 n2 c2 y) (h3 : CanAt w s3 A3 n3 c3 x) (h4 : CanAt w s4 A4 n4 c4 y) :
    Calls Try.prog 33 #[.agg #[.bool s1, .slice A1 n1 c1, .bool s2, .slice A2 n2 c2], .agg #[.bool s3, .slice A3 n3 c3, .bool s4, .slice A4 n4 c4]] w (RetT1 w) := by
  have H0 := ((((((St.start w).add h4).add h3).add h2).add h1).new 26 (Plains.four s1 A1 n1 c1 s2 A2 n2 c2)).new 26 (Plains.four s3 A3 n3 c3 s4 A4 n4 c4)
  simp only [World.size_alloc] at H0
  have HH := Lib.hid H0
  clear H0 h1 h2 h3 h4
  go_enter Try.func33, Try.ntmps33
  go_wp2_with (first
    | (go_at_call_of 65 (Value.agg #[Value.bool s1, Value.slice A1 n1 c1]); have K := HH.out; clear HH; have i1 := K.ints.1.c; have i3 := K.ints.2.2.1.c; (with_reducible refine (sameInt_at i1 i3 rfl).mono ?_); rintro e w1 ⟨rfl, g1⟩; have K1 := K.call g1; obtain ⟨⟨p0, p1, p2, p3⟩, ⟨q0, q1, q2, q3⟩, _⟩ := K1.facts; have i2 := K1.ints.2.1.c; have i4 := K1.ints.2.2.2.1.c)
    | (go_at_call_of 65 (Value.agg #[Value.bool s2, Value.slice A2 n2 c2]); (with_reducible refine (sameInt_at i2 i4 rfl).mono ?_); rintro e w2 ⟨rfl, g2⟩; have K2 := K1.call g2)
    | fail)
  go_ret
  exact ⟨rfl, K2.below⟩

set_option maxHeartbeats 4000000 in
set_option maxRecDepth 100000 in
theorem rfromInt_at {w : World} {s : Bool} {A : Option Addr} {n c : Nat} {z : Int} (h : IntAt w s A n c z) (zz : Sz z 1900) :
    Calls Try.prog 59 #[.agg #[.bool s, .slice A n c]] w (RetFr w (rn z 1) (rd z 1)) := by
  have H0 := (((St.start w).addI h).new 24 (Plains.two s A n c)).new 26 (Plains.four false none 0 0 false none 0 0)
  simp only [World.size_alloc] at H0
  have HH := Lib.hid H0
  clear H0 h
  obtain ⟨x, HX⟩ : ∃ v, Hid (rn z 1 = v) := ⟨_, rfl⟩
  obtain ⟨y, HY⟩ : ∃ v, Hid (rd z 1 = v) := ⟨_, rfl⟩
  rw [HX.out, HY.out]
  have z1 : Sz 1 1900 := (sz_i64 (x := 1) (by decide) (by decide)).mono (by decide)
  have k1 := z1.ok
  go_enter Try.func59, Try.ntmps59
  go_upto_region 1 with fail
  have Kd := HH.out.drew
  clear HH
  obtain ⟨_, ⟨p0, p1⟩, _⟩ := Kd.facts
  go_region_held3 (fun w' => w'.cell? ⟨w.heap.size, 0, none⟩ = some (.bool s) ∧ w'.cell? ⟨w.heap.size, 1, none⟩ = some (.slice A n c))
    (go_keep)
    (first
      | (go_at_call 52; (with_reducible refine (rone_any _).mono ?_); rintro e w3 ⟨A3, n3, c3, rfl, d3, u3, v3, g3⟩; have K3 := (Kd.call g3).add (show CanAt w3 false A3 n3 c3 1 from CanAt.mk_ d3 u3 v3); clear p0 p1; obtain ⟨_, ⟨p0, p1⟩, _⟩ := K3.facts; have ib := K3.ints.1.ci k1; have ia := K3.ints.2.1.i)
      | (go_at_call 27; (with_reducible refine (reduce_at ia ib zz z1).mono ?_); rw [HX.out, HY.out]; rintro e w4 ⟨A4, n4, c4, A5, n5, c5, rfl, d4, d5, g4⟩; have K4 := ((K3.call g4).add d5).add d4; clear p0 p1; obtain ⟨⟨q0, q1, q2, q3⟩, ⟨p0, p1⟩, _⟩ := K4.facts; obtain ⟨f0, f1, f2, f3⟩ := K4.free (i := 0) rfl)
      | fail)
  have K5 := K4.put4 0 rfl (decide (x < 0)) A4 n4 c4 (decide (y < 0)) A5 n5 c5
  simp only [List.set] at K5
  obtain ⟨⟨r0, r1, r2, r3⟩, _⟩ := K5.facts
  go_wp2_with fail
  exact bodyPost_ret (v := .agg #[.bool (decide (x < 0)), .slice A4 n4 c4, .bool (decide (y < 0)), .slice A5 n5 c5]) (by simp [results, Try.results59, go_sem, r0, r1, r2, r3]) rfl (RetFr.of_st K5)
end
end Go.Proofs.Ytgjkgmlcfieodaa

