/-
  The reference's DivMod.
-/
import Derived.Test.YtgjkgmlcfieodaaRdiv
import Derived.Test.YtgjkgmlcfieodaaEgcd
import Derived.Test.YtgjkgmlcfieodaaSt
set_option linter.unusedVariables false
set_option linter.unusedSimpArgs false
namespace Go.Proofs.Ytgjkgmlcfieodaa
open Go.RowKit

theorem canon_at {w : World} {s : Bool} {A : Option Addr} {n c : Nat} {x : Int} (h : IntAt w s A n c x) : Calls Try.prog 51 #[.agg #[.bool s, .slice A n c]] w (RetZ w x) := by
  obtain ⟨ds, h1, h2, h3, rfl, h5⟩ := h
  exact canon_any s A n c ds w h1 h2 h3 h5
/-- Digits as an integer. -/
theorem CanAt.nat {w : World} {A : Option Addr} {n c v : Nat} (h : Dgs w w.heap.size A n (digs v)) (hc : n ≤ c) (hm : c ≤ maxLen) : CanAt w false A n c (v : Int) :=
  ⟨by simp, by simpa using h, hc, hm⟩
theorem make_at {w : World} {s : Bool} {A : Option Addr} {n c v : Nat} (h : CanAt w false A n c (v : Int)) (hz : (digs v).length ≤ 1000000) : Calls Try.prog 78 #[.bool s, .slice A n c] w (RetZ w (zOf s v)) := by
  obtain ⟨_, h1, h2, h3⟩ := h
  rw [Int.natAbs_natCast] at h1
  have := make_any s A n c (digs v) w h1 h2 h3 (by rw [← h1.len]; exact hz)
  rwa [val_digs] at this
theorem rdivDigits_at {w : World} {s s' : Bool} {A A' : Option Addr} {n c n' c' : Nat} {x y : Int} (h : CanAt w s A n c x) (h' : CanAt w s' A' n' c' y) (zx : Sz x 100000) (zy : Sz y 100000) (hy : y ≠ 0) :
    Calls Try.prog 80 #[.slice A n c, .slice A' n' c'] w (RetQ w (x.natAbs / y.natAbs) (x.natAbs % y.natAbs)) := by
  obtain ⟨_, h1, h2, h3⟩ := h
  obtain ⟨_, h1', h2', h3'⟩ := h'
  have := rdivDigits_any A A' n n' c c' _ _ w h1 h1' h2 h3 h2' h3' (by rw [← h1.len]; exact zx.len) (by rw [← h1'.len]; exact zy.len) (by rw [val_digs]; omega)
  rwa [val_digs, val_digs] at this

/-- The reference's way to quotient and remainder. -/
theorem rdm_num {x y q r : Int} (hy : y ≠ 0) (hq : zOf (!(decide (x < 0) == decide (y < 0))) (x.natAbs / y.natAbs) = q) (hr : zOf (decide (x < 0)) (x.natAbs % y.natAbs) = r) :
    ((r = 0 ∨ (decide (x < 0) == decide (y < 0)) = true) → dmQ x y = q ∧ dmR x y = r) ∧ (r ≠ 0 → (decide (x < 0) == decide (y < 0)) = false → dmQ x y = q - 1 ∧ dmR x y = r + y) := by
  obtain ⟨h1, h2⟩ := dm_nat x y hy
  generalize x.natAbs / y.natAbs = Q at *
  generalize x.natAbs % y.natAbs = R at *
  by_cases hx0 : x < 0 <;> by_cases hy0 : y < 0 <;> simp only [hx0, hy0, decide_true, decide_false, beq_self_eq_true, Bool.true_beq, Bool.false_beq, Bool.not_false, Bool.not_true, Bool.not_not, zOf, if_true, if_false, Bool.false_eq_true] at hq hr ⊢
  · refine ⟨fun _ => dm_unique ?_ (by omega), fun _ h => by simp at h⟩
    rw [← hq, ← hr, show y = -((y.natAbs : Nat) : Int) by omega, Int.mul_neg]; omega
  · refine ⟨fun h => dm_unique ?_ (by rcases h with h | h; omega; simp at h), fun h _ => dm_unique ?_ (by omega)⟩
    · rw [← hq, ← hr, show y = ((y.natAbs : Nat) : Int) by omega, Int.neg_mul]; omega
    · rw [← hq, ← hr, Int.sub_mul, Int.neg_mul]
      rw [show ((y.natAbs : Nat) : Int) = y by omega] at h1; omega
  · refine ⟨fun h => dm_unique ?_ (by rcases h with h | h; omega; simp at h), fun h _ => dm_unique ?_ (by omega)⟩
    · rw [← hq, ← hr, show y = -((y.natAbs : Nat) : Int) by omega, Int.neg_mul, Int.mul_neg]; omega
    · rw [← hq, ← hr, Int.sub_mul, Int.neg_mul]
      rw [show ((y.natAbs : Nat) : Int) = -y by omega, Int.mul_neg] at h1; omega
  · refine ⟨fun _ => dm_unique ?_ (by omega), fun _ h => by simp at h⟩
    rw [← hq, ← hr, show y = ((y.natAbs : Nat) : Int) by omega]; omega

/-- Behind the first statement: both are canonical. -/
def RdC (w wx : World) (x y : Int) : Prop :=
  ∃ (A1 : Option Addr) (n1 c1 : Nat) (A2 : Option Addr) (n2 c2 : Nat),
    St w wx [vi (w.heap.size + 1 + 1 + 1) false none 0 0, vi (w.heap.size + 1 + 1) false none 0 0, vi (w.heap.size + 1) (decide (y < 0)) A2 n2 c2, vi w.heap.size (decide (x < 0)) A1 n1 c1]
      [(decide (y < 0), A2, n2, c2, y, true), (decide (x < 0), A1, n1, c1, x, true)]
theorem RetM.of_st {w0 w : World} {l : List (Nat × TypeId × List Value)} {k : List (Bool × Option Addr × Nat × Nat × Int × Bool)} {A A' : Option Addr} {n c n' c' : Nat} {q r err : Int}
    (h : St w0 w l ((decide (r < 0), A', n', c', r, true) :: (decide (q < 0), A, n, c, q, true) :: k)) :
    RetM w0 q r err (.returned (.tuple #[.agg #[.bool (decide (q < 0)), .slice A n c], .agg #[.bool (decide (r < 0)), .slice A' n' c'], .int .i64 err])) w :=
  have h1 := h.ints.2.1.c
  have h2 := h.ints.1.c
  ⟨A, n, c, A', n', c', rfl, h1.2.1, h1.2.2.1, h1.2.2.2, h2.2.1, h2.2.2.1, h2.2.2.2, h.below⟩

set_option maxHeartbeats 8000000 in
set_option maxRecDepth 100000 in
theorem rdivMod_at {w : World} {s s' : Bool} {A A' : Option Addr} {n c n' c' : Nat} {x y : Int} (h : IntAt w s A n c x) (h' : IntAt w s' A' n' c' y) (zx : Sz x 2000) (zy : Sz y 2000) :
    Calls Try.prog 55 #[.agg #[.bool s, .slice A n c], .agg #[.bool s', .slice A' n' c']] w (RetM w (dmQ x y) (dmR x y) (dmE y)) := by
  have H0 := (((((((St.start w).addI h).addI h').new 24 (Plains.two s A n c))).new 24 (Plains.two s' A' n' c')).new 24 (Plains.two false none 0 0)).new 24 (Plains.two false none 0 0)
  simp only [World.size_alloc] at H0
  have HH := Lib.hid H0
  have kx := zx.ok
  have ky := zy.ok
  clear H0 h h'
  go_enter Try.func55, Try.ntmps55
  go_upto_region 1 with fail
  have K := HH.out
  clear HH
  generalize (((w.alloc (.cells #[.bool s, .slice A n c] 24)).alloc (.cells #[.bool s', .slice A' n' c'] 24)).alloc (.cells #[.bool false, .slice none 0 0] 24)).alloc (.cells #[.bool false, .slice none 0 0] 24) = W0 at K ⊢
  go_cut [] (fun wx => RdC w wx x y)
  case first =>
    have Kd := K.drew
    clear K
    obtain ⟨_, _, ⟨p0, p1⟩, ⟨p2, p3⟩, _⟩ := Kd.facts
    obtain ⟨ib, ia, _⟩ := Kd.ints
    go_region_with (first
      | (go_at_call_of 51 (Value.agg #[Value.bool s, Value.slice A n c]); (with_reducible refine (canon_at ia.i).mono ?_); rintro e w1 ⟨A1, n1, c1, rfl, d1, u1, v1, g1⟩; have K1 := (Kd.call g1).add (CanAt.mk_ d1 u1 v1); clear p0 p1 p2 p3; obtain ⟨_, _, ⟨p0, p1⟩, ⟨p2, p3⟩, _⟩ := K1.facts; obtain ⟨_, jb, _⟩ := K1.ints)
      | (go_at_call_of 51 (Value.agg #[Value.bool s', Value.slice A' n' c']); (with_reducible refine (canon_at jb.i).mono ?_); rintro e w2 ⟨A2, n2, c2, rfl, d2, u2, v2, g2⟩; have K2 := (K1.call g2).add (CanAt.mk_ d2 u2 v2); clear p0 p1 p2 p3; obtain ⟨_, _, ⟨p0, p1⟩, ⟨p2, p3⟩, _⟩ := K2.facts; obtain ⟨f0, f1⟩ := K2.free (i := 2) rfl; obtain ⟨f2, f3⟩ := K2.free (i := 3) rfl)
      | fail)
    all_goals (go_wp2_with fail; go_meet; have K3 := (K2.put 3 rfl (decide (x < 0)) A1 n1 c1).put 2 rfl (decide (y < 0)) A2 n2 c2; obtain ⟨i2, i1, _⟩ := K3.ints; exact ⟨A1, n1, c1, A2, n2, c2, K3.ints_ ⟨i2, i1, trivial⟩⟩)
  case rest =>
    clear K W0
    obtain ⟨A1, n1, c1, A2, n2, c2, K⟩ := hcut
    by_cases hy : y = 0
    · have HM := Lib.hid (dm_zero x hy)
      obtain ⟨iy, _, _⟩ := K.ints
      obtain rfl := digs_len0 iy.c hy
      clear hy iy
      obtain ⟨⟨p0, p1⟩, ⟨p2, p3⟩, ⟨p4, p5⟩, ⟨p6, p7⟩, _⟩ := K.facts
      obtain ⟨f0, f1⟩ := K.free (i := 0) rfl
      obtain ⟨f2, f3⟩ := K.free (i := 1) rfl
      have K2 := (K.put 1 rfl false none 0 0).put 0 rfl false none 0 0
      simp only [List.set] at K2
      go_wp2
      generalize ((((wc.setCell ⟨w.heap.size + 1 + 1, 0, none⟩ (.bool false)).setCell ⟨w.heap.size + 1 + 1, 1, none⟩ (.slice none 0 0)).setCell ⟨w.heap.size + 1 + 1 + 1, 0, none⟩ (.bool false)).setCell ⟨w.heap.size + 1 + 1 + 1, 1, none⟩ (.slice none 0 0)) = W2 at K2 ⊢
      obtain ⟨⟨r0, r1⟩, ⟨r2, r3⟩, _⟩ := K2.facts
      refine bodyPost_ret (v := .tuple #[.agg #[.bool false, .slice none 0 0], .agg #[.bool false, .slice none 0 0], .int .i64 11]) (by simp [results, Try.results55, go_sem, r0, r1, r2, r3]) rfl ?_
      rw [HM.out.1, HM.out.2.1, HM.out.2.2]
      exact RetM.of_st (q := 0) (r := 0) (K2.ints_ (k' := [(decide ((0 : Int) < 0), none, 0, 0, 0, true), (decide ((0 : Int) < 0), none, 0, 0, 0, true)]) ⟨Ent.mk_ (CanAt.zero_ _), Ent.mk_ (CanAt.zero_ _), trivial⟩)
    · have HY := Lib.hid hy
      have HE := Lib.hid (dm_err hy)
      obtain ⟨iy, ix, _⟩ := K.ints
      have hn2p : 0 < n2 := digs_lenp iy.c hy
      have hn2z : ((n2 : Int) == 0) = false := by simp; omega
      have hn2 : n2 ≤ 100000 := by rw [← iy.c.2.1.len]; exact Nat.le_trans zy.len (by decide)
      obtain ⟨Q, HQ⟩ : ∃ v, Hid (x.natAbs / y.natAbs = v) := ⟨_, rfl⟩
      obtain ⟨R, HR⟩ : ∃ v, Hid (x.natAbs % y.natAbs = v) := ⟨_, rfl⟩
      have hQx : Q ≤ x.natAbs := by rw [← HQ.out]; exact Nat.div_le_self _ _
      have hRy : R < y.natAbs := by rw [← HR.out]; exact Nat.mod_lt _ (by omega)
      have zx1 := zx.mono (show 2000 ≤ 100000 by decide)
      have zy1 := zy.mono (show 2000 ≤ 100000 by decide)
      have zQ : Sz (Q : Int) 2000 := zx.le (by rw [Int.natAbs_natCast]; exact hQx)
      have zR : Sz (R : Int) 2000 := zy.le (by rw [Int.natAbs_natCast]; exact Nat.le_of_lt hRy)
      have kQ : (digs Q).length ≤ 1000000 := by have := zQ.ok; rwa [Int.natAbs_natCast] at this
      have kR : (digs R).length ≤ 1000000 := by have := zR.ok; rwa [Int.natAbs_natCast] at this
      obtain ⟨q0, HQ0⟩ : ∃ v, Hid (zOf (!(decide (x < 0) == decide (y < 0))) Q = v) := ⟨_, rfl⟩
      obtain ⟨r0, HR0⟩ : ∃ v, Hid (zOf (decide (x < 0)) R = v) := ⟨_, rfl⟩
      have HN := Lib.hid (rdm_num (q := q0) (r := r0) hy (by rw [HQ.out]; exact HQ0.out) (by rw [HR.out]; exact HR0.out))
      have zq0 : Sz q0 2000 := by rw [← HQ0.out]; unfold Sz; rw [zOf_natAbs]; unfold Sz at zQ; rwa [Int.natAbs_natCast] at zQ
      have zr0 : Sz r0 2000 := by rw [← HR0.out]; unfold Sz; rw [zOf_natAbs]; unfold Sz at zR; rwa [Int.natAbs_natCast] at zR
      have kq0 := zq0.ok
      have kr0 := zr0.ok
      clear hy hQx hRy
      obtain ⟨_, _, ⟨p2, p3⟩, ⟨p0, p1⟩, _⟩ := K.facts
      have ixc := ix.c
      have iyc := iy.c
      go_upto_region 5 with (first
        | (go_at_call 80; (with_reducible refine (rdivDigits_at ixc iyc zx1 zy1 HY.out).mono ?_); rw [HQ.out, HR.out]; rintro e w3 ⟨A3, n3, c3, A4, n4, c4, rfl, d3, u3, v3, d4, u4, v4, g3⟩; have K3 := ((K.call g3).add (CanAt.nat d3 u3 v3)).add (CanAt.nat d4 u4 v4))
        | fail)
      clear ix iy ixc iyc p0 p1 p2 p3 d3 d4 g3 K
      obtain ⟨z1, z2⟩ := K3.ne 2 3 rfl rfl (by decide)
      obtain ⟨_, _, ⟨p2, p3⟩, ⟨p0, p1⟩, _⟩ := K3.facts
      go_cut [9, 10] (fun p9 p10 wx => ∃ (g9 g10 : Nat) (A5 : Option Addr) (n5 c5 : Nat) (A6 : Option Addr) (n6 c6 : Nat), p9 = .pointer (some ⟨g9, 0, none⟩) ∧ p10 = .pointer (some ⟨g10, 0, none⟩) ∧
        St w wx [vi g10 (decide (r0 < 0)) A6 n6 c6, vi g9 (decide (q0 < 0)) A5 n5 c5, vi (w.heap.size + 1 + 1 + 1) false none 0 0, vi (w.heap.size + 1 + 1) false none 0 0, vi (w.heap.size + 1) (decide (y < 0)) A2 n2 c2, vi w.heap.size (decide (x < 0)) A1 n1 c1]
          [(decide (r0 < 0), A6, n6, c6, r0, true), (decide (q0 < 0), A5, n5, c5, q0, true), (decide (y < 0), A2, n2, c2, y, true), (decide (x < 0), A1, n1, c1, x, true)])
      case first =>
        refine wp_region_held_drew (S := fun w' => w'.cell? ⟨w.heap.size + 1, 0, none⟩ = some (.bool (decide (y < 0))) ∧ w'.cell? ⟨w.heap.size + 1, 1, none⟩ = some (.slice A2 n2 c2) ∧ w'.cell? ⟨w.heap.size, 0, none⟩ = some (.bool (decide (x < 0))) ∧ w'.cell? ⟨w.heap.size, 1, none⟩ = some (.slice A1 n1 c1)) (by kernel_rfl) ?_ (fun hHeld0 => ?_)
        · ((try dsimp only); go_keep)
        refine wpAnyH_take (i := 0) (oi := ⟨some 29, _, _, _, _, _⟩) (v := ?_) rfl (by kernel_rfl) (by kernel_rfl) (by kernel_rfl) (fun _ _ _ h => h) (Or.inl ⟨by rfl, ?_⟩) (by assumption) ?_
        rotate_left
        · (intro w' hSw; (try dsimp only at hSw); go_simp; (try with_reducible rfl))
        (try simp only [Act.put, List.setIfInBounds_toArray, List.set_cons_zero, List.set_cons_succ])
        refine wpAnyH_take (i := 1) (oi := ⟨some 30, _, _, _, _, _⟩) (v := ?_) rfl (by kernel_rfl) (by kernel_rfl) (by kernel_rfl) (fun _ _ _ h => h) (Or.inl ⟨by rfl, ?_⟩) (by assumption) ?_
        rotate_left
        · (intro w' hSw; (try dsimp only at hSw); go_simp; (try with_reducible rfl))
        (try simp only [Act.put, List.setIfInBounds_toArray, List.set_cons_zero, List.set_cons_succ])
        refine wpAnyH_take (i := 2) (oi := ⟨some 31, _, _, _, _, _⟩) (v := ?_) rfl (by kernel_rfl) (by kernel_rfl) (by kernel_rfl) (fun _ _ _ h => h) (Or.inl ⟨by rfl, ?_⟩) (by assumption) ?_
        rotate_left
        · (intro w' hSw; (try dsimp only at hSw); go_simp; (try with_reducible rfl))
        (try simp only [Act.put, List.setIfInBounds_toArray, List.set_cons_zero, List.set_cons_succ])
        refine wpAnyH_take (i := 3) (oi := ⟨some 32, _, _, _, _, _⟩) (v := ?_) rfl (by kernel_rfl) (by kernel_rfl) (by kernel_rfl) (fun _ _ _ h => h) (Or.inl ⟨by rfl, ?_⟩) (by assumption) ?_
        rotate_left
        · (intro w' hSw; (try dsimp only at hSw); go_simp; (try with_reducible rfl))
        (try simp only [Act.put, List.setIfInBounds_toArray, List.set_cons_zero, List.set_cons_succ])
        refine wpAnyH_take (i := 4) (oi := ⟨some 33, _, _, _, _, _⟩) (v := ?_) rfl (by kernel_rfl) (by kernel_rfl) (by kernel_rfl) (fun _ _ _ h => h) (Or.inl ⟨by rfl, ?_⟩) (by assumption) ?_
        rotate_left
        · (intro w' hSw; (try dsimp only at hSw); go_simp; (try with_reducible rfl))
        (try simp only [Act.put, List.setIfInBounds_toArray, List.set_cons_zero, List.set_cons_succ])
        refine wpAnyH_take (i := 5) (oi := ⟨some 34, _, _, _, _, _⟩) (v := ?_) rfl (by kernel_rfl) (by kernel_rfl) (by kernel_rfl) (fun _ _ _ h => h) (Or.inl ⟨by rfl, ?_⟩) (by assumption) ?_
        rotate_left
        · (intro w' hSw; (try dsimp only at hSw); go_simp; (try with_reducible rfl))
        (try simp only [Act.put, List.setIfInBounds_toArray, List.set_cons_zero, List.set_cons_succ])
        refine wpAnyH_take (i := 7) (oi := ⟨some 36, _, _, _, _, _⟩) (v := ?_) rfl (by kernel_rfl) (by kernel_rfl) (by kernel_rfl) (fun _ _ _ h => h) (Or.inl ⟨by rfl, ?_⟩) (by assumption) ?_
        rotate_left
        · (intro w' hSw; (try dsimp only at hSw); go_simp; (try with_reducible rfl))
        (try simp only [Act.put, List.setIfInBounds_toArray, List.set_cons_zero, List.set_cons_succ])
        refine wpAnyH_take (i := 8) (oi := ⟨some 37, _, _, _, _, _⟩) (v := ?_) rfl (by kernel_rfl) (by kernel_rfl) (by kernel_rfl) (fun _ _ _ h => h) (Or.inl ⟨by rfl, ?_⟩) (by assumption) ?_
        rotate_left
        · (intro w' hSw; (try dsimp only at hSw); go_simp; (try with_reducible rfl))
        (try simp only [Act.put, List.setIfInBounds_toArray, List.set_cons_zero, List.set_cons_succ])
        refine wpAnyH_take (i := 9) (oi := ⟨some 38, _, _, _, _, _⟩) (v := ?_) rfl (by kernel_rfl) (by kernel_rfl) (by kernel_rfl) (fun _ _ _ h => h) (Or.inl ⟨by rfl, ?_⟩) (by assumption) ?_
        rotate_left
        · (intro w' hSw; (try dsimp only at hSw); go_simp; (try with_reducible rfl))
        (try simp only [Act.put, List.setIfInBounds_toArray, List.set_cons_zero, List.set_cons_succ])
        refine wpAnyH_ready (rs := [6, 11, 12]) (by kernel_rfl) (by simp) ?_
        refine AllReadyH.cons (o := ⟨some 35, _, _, _, _, _⟩) rfl (fun K hK => ?_) ?_
        · skip
          go_simp
          have im6 := K3.drew.ints.2.1.c
          (go_at_call 78; (with_reducible refine (make_at im6 kQ).mono ?_); rw [HQ0.out]; rintro e wm5 ⟨A5, n5, c5, rfl, d5, u5, v5, g5⟩)
          (try go_wp2_with fail)
          have K6 := (K3.drew.call g5).add (CanAt.mk_ d5 u5 v5)
          clear p0 p1 p2 p3
          obtain ⟨_, _, ⟨pa1, pb1⟩, ⟨pc1, pd1⟩, _⟩ := K6.facts
          refine hK.out _ _ ?_ (fun hHeld1 => ?_)
          · ((try dsimp only); first | go_keep | (trace_state; fail))
          clear hK K hHeld0
          (try simp only [Act.put, List.setIfInBounds_toArray, List.set_cons_zero, List.set_cons_succ])
          refine wpAnyH_ready (rs := [10, 11, 12]) (by kernel_rfl) (by simp) ?_
          refine AllReadyH.cons (o := ⟨some 39, _, _, _, _, _⟩) rfl (fun K hK => ?_) ?_
          · skip
            go_simp
            have im10 := K6.ints.2.1.c
            (go_at_call 78; (with_reducible refine (make_at im10 kR).mono ?_); rw [HR0.out]; rintro e wm6 ⟨A6, n6, c6, rfl, d6, u6, v6, g6⟩)
            (try go_wp2_with fail)
            have K10 := (K6.call g6).add (CanAt.mk_ d6 u6 v6)
            clear pa1 pb1 pc1 pd1
            obtain ⟨_, _, ⟨pa2, pb2⟩, ⟨pc2, pd2⟩, _⟩ := K10.facts
            refine hK.out _ _ ?_ (fun hHeld2 => ?_)
            · ((try dsimp only); first | go_keep | (trace_state; fail))
            clear hK K hHeld1
            (try simp only [Act.put, List.setIfInBounds_toArray, List.set_cons_zero, List.set_cons_succ])
            refine wpAnyH_ready (rs := [11, 12]) (by kernel_rfl) (by simp) ?_
            refine AllReadyH.cons (o := ⟨some 9, _, _, _, _, _⟩) rfl (fun K hK => ?_) ?_
            · skip
              go_simp
              have KA11 := K10.new 24 (Plains.two false none 0 0)
              (try simp only [World.size_alloc] at KA11)
              refine hK.out _ _ ?_ (fun hHeld3 => ?_)
              · ((try dsimp only); first | go_keep | (trace_state; fail))
              clear hK K hHeld2
              (try simp only [Act.put, List.setIfInBounds_toArray, List.set_cons_zero, List.set_cons_succ])
              refine wpAnyH_ready (rs := [12]) (by kernel_rfl) (by simp) ?_
              refine AllReadyH.cons (o := ⟨some 10, _, _, _, _, _⟩) rfl (fun K hK => ?_) AllReadyH.nil
              go_simp
              have KA12 := KA11.new 24 (Plains.two false none 0 0)
              (try simp only [World.size_alloc] at KA12)
              refine hK.out _ _ ?_ (fun hHeld4 => ?_)
              · ((try dsimp only); first | go_keep | (trace_state; fail))
              clear hK K hHeld3
              (try simp only [Act.put, List.setIfInBounds_toArray, List.set_cons_zero, List.set_cons_succ])
              refine wpAnyH_ready (rs := [13]) (by kernel_rfl) (by simp) ?_
              refine AllReadyH.cons (o := ⟨none, _, _, _, _, _⟩) rfl (fun K hK => ?_) AllReadyH.nil
              go_simp
              refine hK.out _ _ ?_ (fun hHeld5 => ?_)
              · ((try dsimp only); first | go_keep | (trace_state; fail))
              clear hK K hHeld4
              (try simp only [Act.put, List.setIfInBounds_toArray, List.set_cons_zero, List.set_cons_succ])
              refine wpAnyH_ready (rs := [14]) (by kernel_rfl) (by simp) ?_
              refine AllReadyH.cons (o := ⟨none, _, _, _, _, _⟩) rfl (fun K hK => ?_) AllReadyH.nil
              go_simp
              refine hK.out _ _ ?_ (fun hHeld6 => ?_)
              · ((try dsimp only); first | go_keep | (trace_state; fail))
              clear hK K hHeld5
              (try simp only [Act.put, List.setIfInBounds_toArray, List.set_cons_zero, List.set_cons_succ])
              refine wpAnyH_done (by kernel_rfl) ?_ _
              go_wp2_with fail
              go_meet
              first | (have KF := ((K10.new 24 (Plains.two (decide (q0 < 0)) A5 n5 c5)).new 24 (Plains.two (decide (r0 < 0)) A6 n6 c6)); (try simp only [List.set, World.size_alloc, World.size_setCell] at KF); have KG := KF; exact ⟨_, _, A5, n5, c5, A6, n6, c6, rfl, rfl, KG.ints_ ⟨KG.ints.1, KG.ints.2.1, KG.ints.2.2.2.2.1, KG.ints.2.2.2.2.2.1, trivial⟩⟩) | (have KF := ((K10.new 24 (Plains.two (decide (q0 < 0)) A5 n5 c5)).new 24 (Plains.two (decide (r0 < 0)) A6 n6 c6)); (try simp only [List.set, World.size_alloc, World.size_setCell] at KF); have KG := KF; exact ⟨_, _, A5, n5, c5, A6, n6, c6, rfl, rfl, KG.ints_ ⟨KG.ints.1, KG.ints.2.1, KG.ints.2.2.2.2.1, KG.ints.2.2.2.2.2.1, trivial⟩⟩) | (trace_state; fail)
            refine AllReadyH.cons (o := ⟨some 10, _, _, _, _, _⟩) rfl (fun K hK => ?_) AllReadyH.nil
            go_simp
            have KA12 := K10.new 24 (Plains.two false none 0 0)
            (try simp only [World.size_alloc] at KA12)
            refine hK.out _ _ ?_ (fun hHeld3 => ?_)
            · ((try dsimp only); first | go_keep | (trace_state; fail))
            clear hK K hHeld2
            (try simp only [Act.put, List.setIfInBounds_toArray, List.set_cons_zero, List.set_cons_succ])
            refine wpAnyH_ready (rs := [11]) (by kernel_rfl) (by simp) ?_
            refine AllReadyH.cons (o := ⟨some 9, _, _, _, _, _⟩) rfl (fun K hK => ?_) AllReadyH.nil
            go_simp
            have KA11 := KA12.new 24 (Plains.two false none 0 0)
            (try simp only [World.size_alloc] at KA11)
            refine hK.out _ _ ?_ (fun hHeld4 => ?_)
            · ((try dsimp only); first | go_keep | (trace_state; fail))
            clear hK K hHeld3
            (try simp only [Act.put, List.setIfInBounds_toArray, List.set_cons_zero, List.set_cons_succ])
            refine wpAnyH_ready (rs := [13]) (by kernel_rfl) (by simp) ?_
            refine AllReadyH.cons (o := ⟨none, _, _, _, _, _⟩) rfl (fun K hK => ?_) AllReadyH.nil
            go_simp
            refine hK.out _ _ ?_ (fun hHeld5 => ?_)
            · ((try dsimp only); first | go_keep | (trace_state; fail))
            clear hK K hHeld4
            (try simp only [Act.put, List.setIfInBounds_toArray, List.set_cons_zero, List.set_cons_succ])
            refine wpAnyH_ready (rs := [14]) (by kernel_rfl) (by simp) ?_
            refine AllReadyH.cons (o := ⟨none, _, _, _, _, _⟩) rfl (fun K hK => ?_) AllReadyH.nil
            go_simp
            refine hK.out _ _ ?_ (fun hHeld6 => ?_)
            · ((try dsimp only); first | go_keep | (trace_state; fail))
            clear hK K hHeld5
            (try simp only [Act.put, List.setIfInBounds_toArray, List.set_cons_zero, List.set_cons_succ])
            refine wpAnyH_done (by kernel_rfl) ?_ _
            go_wp2_with fail
            go_meet
            first | (have KF := ((K10.new 24 (Plains.two (decide (r0 < 0)) A6 n6 c6)).new 24 (Plains.two (decide (q0 < 0)) A5 n5 c5)); (try simp only [List.set, World.size_alloc, World.size_setCell] at KF); have KG := KF.swap; exact ⟨_, _, A5, n5, c5, A6, n6, c6, rfl, rfl, KG.ints_ ⟨KG.ints.1, KG.ints.2.1, KG.ints.2.2.2.2.1, KG.ints.2.2.2.2.2.1, trivial⟩⟩) | (have KF := ((K10.new 24 (Plains.two (decide (r0 < 0)) A6 n6 c6)).new 24 (Plains.two (decide (q0 < 0)) A5 n5 c5)); (try simp only [List.set, World.size_alloc, World.size_setCell] at KF); have KG := KF.swap; exact ⟨_, _, A5, n5, c5, A6, n6, c6, rfl, rfl, KG.ints_ ⟨KG.ints.1, KG.ints.2.1, KG.ints.2.2.2.2.1, KG.ints.2.2.2.2.2.1, trivial⟩⟩) | (trace_state; fail)
          refine AllReadyH.cons (o := ⟨some 9, _, _, _, _, _⟩) rfl (fun K hK => ?_) ?_
          · skip
            go_simp
            have KA11 := K6.new 24 (Plains.two false none 0 0)
            (try simp only [World.size_alloc] at KA11)
            refine hK.out _ _ ?_ (fun hHeld2 => ?_)
            · ((try dsimp only); first | go_keep | (trace_state; fail))
            clear hK K hHeld1
            (try simp only [Act.put, List.setIfInBounds_toArray, List.set_cons_zero, List.set_cons_succ])
            refine wpAnyH_ready (rs := [10, 12]) (by kernel_rfl) (by simp) ?_
            refine AllReadyH.cons (o := ⟨some 39, _, _, _, _, _⟩) rfl (fun K hK => ?_) ?_
            · skip
              go_simp
              have im10 := KA11.ints.2.1.c
              (go_at_call 78; (with_reducible refine (make_at im10 kR).mono ?_); rw [HR0.out]; rintro e wm6 ⟨A6, n6, c6, rfl, d6, u6, v6, g6⟩)
              (try go_wp2_with fail)
              have K10 := (KA11.call g6).add (CanAt.mk_ d6 u6 v6)
              clear pa1 pb1 pc1 pd1
              obtain ⟨⟨b9x3, b9y3⟩, _, _, ⟨pa3, pb3⟩, ⟨pc3, pd3⟩, _⟩ := K10.facts
              obtain ⟨f9x3, f9y3⟩ := K10.free (i := 0) rfl
              obtain ⟨e92x3, e92y3⟩ := K10.ne 0 3 rfl rfl (by decide)
              obtain ⟨e93x3, e93y3⟩ := K10.ne 0 4 rfl rfl (by decide)
              refine hK.out _ _ ?_ (fun hHeld3 => ?_)
              · ((try dsimp only); first | go_keep | (trace_state; fail))
              clear hK K hHeld2
              (try simp only [Act.put, List.setIfInBounds_toArray, List.set_cons_zero, List.set_cons_succ])
              refine wpAnyH_ready (rs := [12]) (by kernel_rfl) (by simp) ?_
              refine AllReadyH.cons (o := ⟨some 10, _, _, _, _, _⟩) rfl (fun K hK => ?_) AllReadyH.nil
              go_simp
              have KA12 := K10.new 24 (Plains.two false none 0 0)
              (try simp only [World.size_alloc] at KA12)
              obtain ⟨⟨b10x4, b10y4⟩, ⟨b9x4, b9y4⟩, _⟩ := KA12.facts
              obtain ⟨f10x4, f10y4⟩ := KA12.free (i := 0) rfl
              obtain ⟨e102x4, e102y4⟩ := KA12.ne 0 4 rfl rfl (by decide)
              obtain ⟨e103x4, e103y4⟩ := KA12.ne 0 5 rfl rfl (by decide)
              obtain ⟨f9x4, f9y4⟩ := KA12.free (i := 1) rfl
              obtain ⟨eex4, eey4⟩ := KA12.ne 0 1 rfl rfl (by decide)
              refine hK.out _ _ ?_ (fun hHeld4 => ?_)
              · ((try dsimp only); first | go_keep | (trace_state; fail))
              clear hK K hHeld3
              (try simp only [Act.put, List.setIfInBounds_toArray, List.set_cons_zero, List.set_cons_succ])
              refine wpAnyH_ready (rs := [13]) (by kernel_rfl) (by simp) ?_
              refine AllReadyH.cons (o := ⟨none, _, _, _, _, _⟩) rfl (fun K hK => ?_) AllReadyH.nil
              go_simp
              refine hK.out _ _ ?_ (fun hHeld5 => ?_)
              · ((try dsimp only); first | go_keep | (trace_state; fail))
              clear hK K hHeld4
              (try simp only [Act.put, List.setIfInBounds_toArray, List.set_cons_zero, List.set_cons_succ])
              refine wpAnyH_ready (rs := [14]) (by kernel_rfl) (by simp) ?_
              refine AllReadyH.cons (o := ⟨none, _, _, _, _, _⟩) rfl (fun K hK => ?_) AllReadyH.nil
              go_simp
              refine hK.out _ _ ?_ (fun hHeld6 => ?_)
              · ((try dsimp only); first | go_keep | (trace_state; fail))
              clear hK K hHeld5
              (try simp only [Act.put, List.setIfInBounds_toArray, List.set_cons_zero, List.set_cons_succ])
              refine wpAnyH_done (by kernel_rfl) ?_ _
              go_wp2_with fail
              go_meet
              first | (have KF := (((K10.new 24 (Plains.two false none 0 0)).put 1 rfl (decide (q0 < 0)) A5 n5 c5).put 0 rfl (decide (r0 < 0)) A6 n6 c6); (try simp only [List.set, World.size_alloc, World.size_setCell] at KF); have KG := KF; exact ⟨_, _, A5, n5, c5, A6, n6, c6, rfl, rfl, KG.ints_ ⟨KG.ints.1, KG.ints.2.1, KG.ints.2.2.2.2.1, KG.ints.2.2.2.2.2.1, trivial⟩⟩) | (trace_state; fail)
            refine AllReadyH.cons (o := ⟨some 10, _, _, _, _, _⟩) rfl (fun K hK => ?_) AllReadyH.nil
            go_simp
            have KA12 := KA11.new 24 (Plains.two false none 0 0)
            (try simp only [World.size_alloc] at KA12)
            refine hK.out _ _ ?_ (fun hHeld3 => ?_)
            · ((try dsimp only); first | go_keep | (trace_state; fail))
            clear hK K hHeld2
            (try simp only [Act.put, List.setIfInBounds_toArray, List.set_cons_zero, List.set_cons_succ])
            refine wpAnyH_ready (rs := [10]) (by kernel_rfl) (by simp) ?_
            refine AllReadyH.cons (o := ⟨some 39, _, _, _, _, _⟩) rfl (fun K hK => ?_) AllReadyH.nil
            go_simp
            have im10 := KA12.ints.2.1.c
            (go_at_call 78; (with_reducible refine (make_at im10 kR).mono ?_); rw [HR0.out]; rintro e wm6 ⟨A6, n6, c6, rfl, d6, u6, v6, g6⟩)
            (try go_wp2_with fail)
            have K10 := (KA12.call g6).add (CanAt.mk_ d6 u6 v6)
            clear pa1 pb1 pc1 pd1
            obtain ⟨⟨b10x4, b10y4⟩, ⟨b9x4, b9y4⟩, _, _, ⟨pa4, pb4⟩, ⟨pc4, pd4⟩, _⟩ := K10.facts
            obtain ⟨f10x4, f10y4⟩ := K10.free (i := 0) rfl
            obtain ⟨e102x4, e102y4⟩ := K10.ne 0 4 rfl rfl (by decide)
            obtain ⟨e103x4, e103y4⟩ := K10.ne 0 5 rfl rfl (by decide)
            obtain ⟨f9x4, f9y4⟩ := K10.free (i := 1) rfl
            obtain ⟨e92x4, e92y4⟩ := K10.ne 1 4 rfl rfl (by decide)
            obtain ⟨e93x4, e93y4⟩ := K10.ne 1 5 rfl rfl (by decide)
            obtain ⟨eex4, eey4⟩ := K10.ne 0 1 rfl rfl (by decide)
            refine hK.out _ _ ?_ (fun hHeld4 => ?_)
            · ((try dsimp only); first | go_keep | (trace_state; fail))
            clear hK K hHeld3
            (try simp only [Act.put, List.setIfInBounds_toArray, List.set_cons_zero, List.set_cons_succ])
            refine wpAnyH_ready (rs := [13]) (by kernel_rfl) (by simp) ?_
            refine AllReadyH.cons (o := ⟨none, _, _, _, _, _⟩) rfl (fun K hK => ?_) AllReadyH.nil
            go_simp
            refine hK.out _ _ ?_ (fun hHeld5 => ?_)
            · ((try dsimp only); first | go_keep | (trace_state; fail))
            clear hK K hHeld4
            (try simp only [Act.put, List.setIfInBounds_toArray, List.set_cons_zero, List.set_cons_succ])
            refine wpAnyH_ready (rs := [14]) (by kernel_rfl) (by simp) ?_
            refine AllReadyH.cons (o := ⟨none, _, _, _, _, _⟩) rfl (fun K hK => ?_) AllReadyH.nil
            go_simp
            refine hK.out _ _ ?_ (fun hHeld6 => ?_)
            · ((try dsimp only); first | go_keep | (trace_state; fail))
            clear hK K hHeld5
            (try simp only [Act.put, List.setIfInBounds_toArray, List.set_cons_zero, List.set_cons_succ])
            refine wpAnyH_done (by kernel_rfl) ?_ _
            go_wp2_with fail
            go_meet
            first | (have KF := ((K10.put 1 rfl (decide (q0 < 0)) A5 n5 c5).put 0 rfl (decide (r0 < 0)) A6 n6 c6); (try simp only [List.set, World.size_alloc, World.size_setCell] at KF); have KG := KF; exact ⟨_, _, A5, n5, c5, A6, n6, c6, rfl, rfl, KG.ints_ ⟨KG.ints.1, KG.ints.2.1, KG.ints.2.2.2.2.1, KG.ints.2.2.2.2.2.1, trivial⟩⟩) | (have KF := ((K10.put 1 rfl (decide (q0 < 0)) A5 n5 c5).put 0 rfl (decide (r0 < 0)) A6 n6 c6); (try simp only [List.set, World.size_alloc, World.size_setCell] at KF); have KG := KF; exact ⟨_, _, A5, n5, c5, A6, n6, c6, rfl, rfl, KG.ints_ ⟨KG.ints.1, KG.ints.2.1, KG.ints.2.2.2.2.1, KG.ints.2.2.2.2.2.1, trivial⟩⟩) | (trace_state; fail)
          refine AllReadyH.cons (o := ⟨some 10, _, _, _, _, _⟩) rfl (fun K hK => ?_) AllReadyH.nil
          go_simp
          have KA12 := K6.new 24 (Plains.two false none 0 0)
          (try simp only [World.size_alloc] at KA12)
          refine hK.out _ _ ?_ (fun hHeld2 => ?_)
          · ((try dsimp only); first | go_keep | (trace_state; fail))
          clear hK K hHeld1
          (try simp only [Act.put, List.setIfInBounds_toArray, List.set_cons_zero, List.set_cons_succ])
          refine wpAnyH_ready (rs := [10, 11]) (by kernel_rfl) (by simp) ?_
          refine AllReadyH.cons (o := ⟨some 39, _, _, _, _, _⟩) rfl (fun K hK => ?_) ?_
          · skip
            go_simp
            have im10 := KA12.ints.2.1.c
            (go_at_call 78; (with_reducible refine (make_at im10 kR).mono ?_); rw [HR0.out]; rintro e wm6 ⟨A6, n6, c6, rfl, d6, u6, v6, g6⟩)
            (try go_wp2_with fail)
            have K10 := (KA12.call g6).add (CanAt.mk_ d6 u6 v6)
            clear pa1 pb1 pc1 pd1
            obtain ⟨⟨b10x3, b10y3⟩, _, _, ⟨pa3, pb3⟩, ⟨pc3, pd3⟩, _⟩ := K10.facts
            obtain ⟨f10x3, f10y3⟩ := K10.free (i := 0) rfl
            obtain ⟨e102x3, e102y3⟩ := K10.ne 0 3 rfl rfl (by decide)
            obtain ⟨e103x3, e103y3⟩ := K10.ne 0 4 rfl rfl (by decide)
            refine hK.out _ _ ?_ (fun hHeld3 => ?_)
            · ((try dsimp only); first | go_keep | (trace_state; fail))
            clear hK K hHeld2
            (try simp only [Act.put, List.setIfInBounds_toArray, List.set_cons_zero, List.set_cons_succ])
            refine wpAnyH_ready (rs := [11]) (by kernel_rfl) (by simp) ?_
            refine AllReadyH.cons (o := ⟨some 9, _, _, _, _, _⟩) rfl (fun K hK => ?_) AllReadyH.nil
            go_simp
            have KA11 := K10.new 24 (Plains.two false none 0 0)
            (try simp only [World.size_alloc] at KA11)
            obtain ⟨⟨b9x4, b9y4⟩, ⟨b10x4, b10y4⟩, _⟩ := KA11.facts
            obtain ⟨f9x4, f9y4⟩ := KA11.free (i := 0) rfl
            obtain ⟨e92x4, e92y4⟩ := KA11.ne 0 4 rfl rfl (by decide)
            obtain ⟨e93x4, e93y4⟩ := KA11.ne 0 5 rfl rfl (by decide)
            obtain ⟨f10x4, f10y4⟩ := KA11.free (i := 1) rfl
            obtain ⟨eex4, eey4⟩ := KA11.ne 0 1 rfl rfl (by decide)
            refine hK.out _ _ ?_ (fun hHeld4 => ?_)
            · ((try dsimp only); first | go_keep | (trace_state; fail))
            clear hK K hHeld3
            (try simp only [Act.put, List.setIfInBounds_toArray, List.set_cons_zero, List.set_cons_succ])
            refine wpAnyH_ready (rs := [13]) (by kernel_rfl) (by simp) ?_
            refine AllReadyH.cons (o := ⟨none, _, _, _, _, _⟩) rfl (fun K hK => ?_) AllReadyH.nil
            go_simp
            have KS := K10.new 24 (Plains.two (decide (q0 < 0)) A5 n5 c5)
            (try simp only [World.size_alloc] at KS)
            obtain ⟨⟨b9x5, b9y5⟩, ⟨b10x5, b10y5⟩, _⟩ := KS.facts
            obtain ⟨f9x5, f9y5⟩ := KS.free (i := 0) rfl
            obtain ⟨e92x5, e92y5⟩ := KS.ne 0 4 rfl rfl (by decide)
            obtain ⟨e93x5, e93y5⟩ := KS.ne 0 5 rfl rfl (by decide)
            obtain ⟨f10x5, f10y5⟩ := KS.free (i := 1) rfl
            obtain ⟨eex5, eey5⟩ := KS.ne 0 1 rfl rfl (by decide)
            refine hK.out _ _ ?_ (fun hHeld5 => ?_)
            · ((try dsimp only); first | go_keep | (trace_state; fail))
            clear hK K hHeld4
            (try simp only [Act.put, List.setIfInBounds_toArray, List.set_cons_zero, List.set_cons_succ])
            refine wpAnyH_ready (rs := [14]) (by kernel_rfl) (by simp) ?_
            refine AllReadyH.cons (o := ⟨none, _, _, _, _, _⟩) rfl (fun K hK => ?_) AllReadyH.nil
            go_simp
            refine hK.out _ _ ?_ (fun hHeld6 => ?_)
            · ((try dsimp only); first | go_keep | (trace_state; fail))
            clear hK K hHeld5
            (try simp only [Act.put, List.setIfInBounds_toArray, List.set_cons_zero, List.set_cons_succ])
            refine wpAnyH_done (by kernel_rfl) ?_ _
            go_wp2_with fail
            go_meet
            first | (have KF := ((K10.new 24 (Plains.two (decide (q0 < 0)) A5 n5 c5)).put 1 rfl (decide (r0 < 0)) A6 n6 c6); (try simp only [List.set, World.size_alloc, World.size_setCell] at KF); have KG := KF.swap; exact ⟨_, _, A5, n5, c5, A6, n6, c6, rfl, rfl, KG.ints_ ⟨KG.ints.1, KG.ints.2.1, KG.ints.2.2.2.2.1, KG.ints.2.2.2.2.2.1, trivial⟩⟩) | (have KF := ((K10.put 0 rfl (decide (r0 < 0)) A6 n6 c6).new 24 (Plains.two (decide (q0 < 0)) A5 n5 c5)); (try simp only [List.set, World.size_alloc, World.size_setCell] at KF); have KG := KF.swap; exact ⟨_, _, A5, n5, c5, A6, n6, c6, rfl, rfl, KG.ints_ ⟨KG.ints.1, KG.ints.2.1, KG.ints.2.2.2.2.1, KG.ints.2.2.2.2.2.1, trivial⟩⟩) | (trace_state; fail)
          refine AllReadyH.cons (o := ⟨some 9, _, _, _, _, _⟩) rfl (fun K hK => ?_) AllReadyH.nil
          go_simp
          have KA11 := KA12.new 24 (Plains.two false none 0 0)
          (try simp only [World.size_alloc] at KA11)
          refine hK.out _ _ ?_ (fun hHeld3 => ?_)
          · ((try dsimp only); first | go_keep | (trace_state; fail))
          clear hK K hHeld2
          (try simp only [Act.put, List.setIfInBounds_toArray, List.set_cons_zero, List.set_cons_succ])
          refine wpAnyH_ready (rs := [10]) (by kernel_rfl) (by simp) ?_
          refine AllReadyH.cons (o := ⟨some 39, _, _, _, _, _⟩) rfl (fun K hK => ?_) AllReadyH.nil
          go_simp
          have im10 := KA11.ints.2.1.c
          (go_at_call 78; (with_reducible refine (make_at im10 kR).mono ?_); rw [HR0.out]; rintro e wm6 ⟨A6, n6, c6, rfl, d6, u6, v6, g6⟩)
          (try go_wp2_with fail)
          have K10 := (KA11.call g6).add (CanAt.mk_ d6 u6 v6)
          clear pa1 pb1 pc1 pd1
          obtain ⟨⟨b9x4, b9y4⟩, ⟨b10x4, b10y4⟩, _, _, ⟨pa4, pb4⟩, ⟨pc4, pd4⟩, _⟩ := K10.facts
          obtain ⟨f9x4, f9y4⟩ := K10.free (i := 0) rfl
          obtain ⟨e92x4, e92y4⟩ := K10.ne 0 4 rfl rfl (by decide)
          obtain ⟨e93x4, e93y4⟩ := K10.ne 0 5 rfl rfl (by decide)
          obtain ⟨f10x4, f10y4⟩ := K10.free (i := 1) rfl
          obtain ⟨e102x4, e102y4⟩ := K10.ne 1 4 rfl rfl (by decide)
          obtain ⟨e103x4, e103y4⟩ := K10.ne 1 5 rfl rfl (by decide)
          obtain ⟨eex4, eey4⟩ := K10.ne 0 1 rfl rfl (by decide)
          refine hK.out _ _ ?_ (fun hHeld4 => ?_)
          · ((try dsimp only); first | go_keep | (trace_state; fail))
          clear hK K hHeld3
          (try simp only [Act.put, List.setIfInBounds_toArray, List.set_cons_zero, List.set_cons_succ])
          refine wpAnyH_ready (rs := [13]) (by kernel_rfl) (by simp) ?_
          refine AllReadyH.cons (o := ⟨none, _, _, _, _, _⟩) rfl (fun K hK => ?_) AllReadyH.nil
          go_simp
          refine hK.out _ _ ?_ (fun hHeld5 => ?_)
          · ((try dsimp only); first | go_keep | (trace_state; fail))
          clear hK K hHeld4
          (try simp only [Act.put, List.setIfInBounds_toArray, List.set_cons_zero, List.set_cons_succ])
          refine wpAnyH_ready (rs := [14]) (by kernel_rfl) (by simp) ?_
          refine AllReadyH.cons (o := ⟨none, _, _, _, _, _⟩) rfl (fun K hK => ?_) AllReadyH.nil
          go_simp
          refine hK.out _ _ ?_ (fun hHeld6 => ?_)
          · ((try dsimp only); first | go_keep | (trace_state; fail))
          clear hK K hHeld5
          (try simp only [Act.put, List.setIfInBounds_toArray, List.set_cons_zero, List.set_cons_succ])
          refine wpAnyH_done (by kernel_rfl) ?_ _
          go_wp2_with fail
          go_meet
          first | (have KF := ((K10.put 0 rfl (decide (q0 < 0)) A5 n5 c5).put 1 rfl (decide (r0 < 0)) A6 n6 c6); (try simp only [List.set, World.size_alloc, World.size_setCell] at KF); have KG := KF.swap; exact ⟨_, _, A5, n5, c5, A6, n6, c6, rfl, rfl, KG.ints_ ⟨KG.ints.1, KG.ints.2.1, KG.ints.2.2.2.2.1, KG.ints.2.2.2.2.2.1, trivial⟩⟩) | (have KF := ((K10.put 0 rfl (decide (q0 < 0)) A5 n5 c5).put 1 rfl (decide (r0 < 0)) A6 n6 c6); (try simp only [List.set, World.size_alloc, World.size_setCell] at KF); have KG := KF.swap; exact ⟨_, _, A5, n5, c5, A6, n6, c6, rfl, rfl, KG.ints_ ⟨KG.ints.1, KG.ints.2.1, KG.ints.2.2.2.2.1, KG.ints.2.2.2.2.2.1, trivial⟩⟩) | (trace_state; fail)
        refine AllReadyH.cons (o := ⟨some 9, _, _, _, _, _⟩) rfl (fun K hK => ?_) ?_
        · skip
          go_simp
          have KA11 := K3.new 24 (Plains.two false none 0 0)
          (try simp only [World.size_alloc] at KA11)
          refine hK.out _ _ ?_ (fun hHeld1 => ?_)
          · ((try dsimp only); first | go_keep | (trace_state; fail))
          clear hK K hHeld0
          (try simp only [Act.put, List.setIfInBounds_toArray, List.set_cons_zero, List.set_cons_succ])
          refine wpAnyH_ready (rs := [6, 12]) (by kernel_rfl) (by simp) ?_
          refine AllReadyH.cons (o := ⟨some 35, _, _, _, _, _⟩) rfl (fun K hK => ?_) ?_
          · skip
            go_simp
            have im6 := KA11.drew.ints.2.1.c
            (go_at_call 78; (with_reducible refine (make_at im6 kQ).mono ?_); rw [HQ0.out]; rintro e wm5 ⟨A5, n5, c5, rfl, d5, u5, v5, g5⟩)
            (try go_wp2_with fail)
            have K6 := (KA11.drew.call g5).add (CanAt.mk_ d5 u5 v5)
            clear p0 p1 p2 p3
            obtain ⟨⟨b9x2, b9y2⟩, _, _, ⟨pa2, pb2⟩, ⟨pc2, pd2⟩, _⟩ := K6.facts
            obtain ⟨f9x2, f9y2⟩ := K6.free (i := 0) rfl
            obtain ⟨e92x2, e92y2⟩ := K6.ne 0 3 rfl rfl (by decide)
            obtain ⟨e93x2, e93y2⟩ := K6.ne 0 4 rfl rfl (by decide)
            refine hK.out _ _ ?_ (fun hHeld2 => ?_)
            · ((try dsimp only); first | go_keep | (trace_state; fail))
            clear hK K hHeld1
            (try simp only [Act.put, List.setIfInBounds_toArray, List.set_cons_zero, List.set_cons_succ])
            refine wpAnyH_ready (rs := [10, 12]) (by kernel_rfl) (by simp) ?_
            refine AllReadyH.cons (o := ⟨some 39, _, _, _, _, _⟩) rfl (fun K hK => ?_) ?_
            · skip
              go_simp
              have im10 := K6.ints.2.1.c
              (go_at_call 78; (with_reducible refine (make_at im10 kR).mono ?_); rw [HR0.out]; rintro e wm6 ⟨A6, n6, c6, rfl, d6, u6, v6, g6⟩)
              (try go_wp2_with fail)
              have K10 := (K6.call g6).add (CanAt.mk_ d6 u6 v6)
              clear b9x2 b9y2 pa2 pb2 pc2 pd2 f9x2 f9y2 e92x2 e92y2 e93x2 e93y2
              obtain ⟨⟨b9x3, b9y3⟩, _, _, ⟨pa3, pb3⟩, ⟨pc3, pd3⟩, _⟩ := K10.facts
              obtain ⟨f9x3, f9y3⟩ := K10.free (i := 0) rfl
              obtain ⟨e92x3, e92y3⟩ := K10.ne 0 3 rfl rfl (by decide)
              obtain ⟨e93x3, e93y3⟩ := K10.ne 0 4 rfl rfl (by decide)
              refine hK.out _ _ ?_ (fun hHeld3 => ?_)
              · ((try dsimp only); first | go_keep | (trace_state; fail))
              clear hK K hHeld2
              (try simp only [Act.put, List.setIfInBounds_toArray, List.set_cons_zero, List.set_cons_succ])
              refine wpAnyH_ready (rs := [12]) (by kernel_rfl) (by simp) ?_
              refine AllReadyH.cons (o := ⟨some 10, _, _, _, _, _⟩) rfl (fun K hK => ?_) AllReadyH.nil
              go_simp
              have KA12 := K10.new 24 (Plains.two false none 0 0)
              (try simp only [World.size_alloc] at KA12)
              obtain ⟨⟨b10x4, b10y4⟩, ⟨b9x4, b9y4⟩, _⟩ := KA12.facts
              obtain ⟨f10x4, f10y4⟩ := KA12.free (i := 0) rfl
              obtain ⟨e102x4, e102y4⟩ := KA12.ne 0 4 rfl rfl (by decide)
              obtain ⟨e103x4, e103y4⟩ := KA12.ne 0 5 rfl rfl (by decide)
              obtain ⟨f9x4, f9y4⟩ := KA12.free (i := 1) rfl
              obtain ⟨eex4, eey4⟩ := KA12.ne 0 1 rfl rfl (by decide)
              refine hK.out _ _ ?_ (fun hHeld4 => ?_)
              · ((try dsimp only); first | go_keep | (trace_state; fail))
              clear hK K hHeld3
              (try simp only [Act.put, List.setIfInBounds_toArray, List.set_cons_zero, List.set_cons_succ])
              refine wpAnyH_ready (rs := [13]) (by kernel_rfl) (by simp) ?_
              refine AllReadyH.cons (o := ⟨none, _, _, _, _, _⟩) rfl (fun K hK => ?_) AllReadyH.nil
              go_simp
              refine hK.out _ _ ?_ (fun hHeld5 => ?_)
              · ((try dsimp only); first | go_keep | (trace_state; fail))
              clear hK K hHeld4
              (try simp only [Act.put, List.setIfInBounds_toArray, List.set_cons_zero, List.set_cons_succ])
              refine wpAnyH_ready (rs := [14]) (by kernel_rfl) (by simp) ?_
              refine AllReadyH.cons (o := ⟨none, _, _, _, _, _⟩) rfl (fun K hK => ?_) AllReadyH.nil
              go_simp
              refine hK.out _ _ ?_ (fun hHeld6 => ?_)
              · ((try dsimp only); first | go_keep | (trace_state; fail))
              clear hK K hHeld5
              (try simp only [Act.put, List.setIfInBounds_toArray, List.set_cons_zero, List.set_cons_succ])
              refine wpAnyH_done (by kernel_rfl) ?_ _
              go_wp2_with fail
              go_meet
              first | (have KF := (((K10.new 24 (Plains.two false none 0 0)).put 1 rfl (decide (q0 < 0)) A5 n5 c5).put 0 rfl (decide (r0 < 0)) A6 n6 c6); (try simp only [List.set, World.size_alloc, World.size_setCell] at KF); have KG := KF; exact ⟨_, _, A5, n5, c5, A6, n6, c6, rfl, rfl, KG.ints_ ⟨KG.ints.1, KG.ints.2.1, KG.ints.2.2.2.2.1, KG.ints.2.2.2.2.2.1, trivial⟩⟩) | (trace_state; fail)
            refine AllReadyH.cons (o := ⟨some 10, _, _, _, _, _⟩) rfl (fun K hK => ?_) AllReadyH.nil
            go_simp
            have KA12 := K6.new 24 (Plains.two false none 0 0)
            (try simp only [World.size_alloc] at KA12)
            obtain ⟨⟨b10x3, b10y3⟩, ⟨b9x3, b9y3⟩, _⟩ := KA12.facts
            obtain ⟨f10x3, f10y3⟩ := KA12.free (i := 0) rfl
            obtain ⟨e102x3, e102y3⟩ := KA12.ne 0 4 rfl rfl (by decide)
            obtain ⟨e103x3, e103y3⟩ := KA12.ne 0 5 rfl rfl (by decide)
            obtain ⟨f9x3, f9y3⟩ := KA12.free (i := 1) rfl
            obtain ⟨eex3, eey3⟩ := KA12.ne 0 1 rfl rfl (by decide)
            refine hK.out _ _ ?_ (fun hHeld3 => ?_)
            · ((try dsimp only); first | go_keep | (trace_state; fail))
            clear hK K hHeld2
            (try simp only [Act.put, List.setIfInBounds_toArray, List.set_cons_zero, List.set_cons_succ])
            refine wpAnyH_ready (rs := [10]) (by kernel_rfl) (by simp) ?_
            refine AllReadyH.cons (o := ⟨some 39, _, _, _, _, _⟩) rfl (fun K hK => ?_) AllReadyH.nil
            go_simp
            have im10 := KA12.ints.2.1.c
            (go_at_call 78; (with_reducible refine (make_at im10 kR).mono ?_); rw [HR0.out]; rintro e wm6 ⟨A6, n6, c6, rfl, d6, u6, v6, g6⟩)
            (try go_wp2_with fail)
            have K10 := (KA12.call g6).add (CanAt.mk_ d6 u6 v6)
            clear b9x2 b9y2 pa2 pb2 pc2 pd2 f9x2 f9y2 e92x2 e92y2 e93x2 e93y2 b10x3 b10y3 b9x3 b9y3 f10x3 f10y3 e102x3 e102y3 e103x3 e103y3 f9x3 f9y3 eex3 eey3
            obtain ⟨⟨b10x4, b10y4⟩, ⟨b9x4, b9y4⟩, _, _, ⟨pa4, pb4⟩, ⟨pc4, pd4⟩, _⟩ := K10.facts
            obtain ⟨f10x4, f10y4⟩ := K10.free (i := 0) rfl
            obtain ⟨e102x4, e102y4⟩ := K10.ne 0 4 rfl rfl (by decide)
            obtain ⟨e103x4, e103y4⟩ := K10.ne 0 5 rfl rfl (by decide)
            obtain ⟨f9x4, f9y4⟩ := K10.free (i := 1) rfl
            obtain ⟨e92x4, e92y4⟩ := K10.ne 1 4 rfl rfl (by decide)
            obtain ⟨e93x4, e93y4⟩ := K10.ne 1 5 rfl rfl (by decide)
            obtain ⟨eex4, eey4⟩ := K10.ne 0 1 rfl rfl (by decide)
            refine hK.out _ _ ?_ (fun hHeld4 => ?_)
            · ((try dsimp only); first | go_keep | (trace_state; fail))
            clear hK K hHeld3
            (try simp only [Act.put, List.setIfInBounds_toArray, List.set_cons_zero, List.set_cons_succ])
            refine wpAnyH_ready (rs := [13]) (by kernel_rfl) (by simp) ?_
            refine AllReadyH.cons (o := ⟨none, _, _, _, _, _⟩) rfl (fun K hK => ?_) AllReadyH.nil
            go_simp
            refine hK.out _ _ ?_ (fun hHeld5 => ?_)
            · ((try dsimp only); first | go_keep | (trace_state; fail))
            clear hK K hHeld4
            (try simp only [Act.put, List.setIfInBounds_toArray, List.set_cons_zero, List.set_cons_succ])
            refine wpAnyH_ready (rs := [14]) (by kernel_rfl) (by simp) ?_
            refine AllReadyH.cons (o := ⟨none, _, _, _, _, _⟩) rfl (fun K hK => ?_) AllReadyH.nil
            go_simp
            refine hK.out _ _ ?_ (fun hHeld6 => ?_)
            · ((try dsimp only); first | go_keep | (trace_state; fail))
            clear hK K hHeld5
            (try simp only [Act.put, List.setIfInBounds_toArray, List.set_cons_zero, List.set_cons_succ])
            refine wpAnyH_done (by kernel_rfl) ?_ _
            go_wp2_with fail
            go_meet
            first | (have KF := ((K10.put 1 rfl (decide (q0 < 0)) A5 n5 c5).put 0 rfl (decide (r0 < 0)) A6 n6 c6); (try simp only [List.set, World.size_alloc, World.size_setCell] at KF); have KG := KF; exact ⟨_, _, A5, n5, c5, A6, n6, c6, rfl, rfl, KG.ints_ ⟨KG.ints.1, KG.ints.2.1, KG.ints.2.2.2.2.1, KG.ints.2.2.2.2.2.1, trivial⟩⟩) | (have KF := ((K10.put 1 rfl (decide (q0 < 0)) A5 n5 c5).put 0 rfl (decide (r0 < 0)) A6 n6 c6); (try simp only [List.set, World.size_alloc, World.size_setCell] at KF); have KG := KF; exact ⟨_, _, A5, n5, c5, A6, n6, c6, rfl, rfl, KG.ints_ ⟨KG.ints.1, KG.ints.2.1, KG.ints.2.2.2.2.1, KG.ints.2.2.2.2.2.1, trivial⟩⟩) | (trace_state; fail)
          refine AllReadyH.cons (o := ⟨some 10, _, _, _, _, _⟩) rfl (fun K hK => ?_) AllReadyH.nil
          go_simp
          have KA12 := KA11.new 24 (Plains.two false none 0 0)
          (try simp only [World.size_alloc] at KA12)
          refine hK.out _ _ ?_ (fun hHeld2 => ?_)
          · ((try dsimp only); first | go_keep | (trace_state; fail))
          clear hK K hHeld1
          (try simp only [Act.put, List.setIfInBounds_toArray, List.set_cons_zero, List.set_cons_succ])
          refine wpAnyH_ready (rs := [6]) (by kernel_rfl) (by simp) ?_
          refine AllReadyH.cons (o := ⟨some 35, _, _, _, _, _⟩) rfl (fun K hK => ?_) AllReadyH.nil
          go_simp
          have im6 := KA12.drew.ints.2.1.c
          (go_at_call 78; (with_reducible refine (make_at im6 kQ).mono ?_); rw [HQ0.out]; rintro e wm5 ⟨A5, n5, c5, rfl, d5, u5, v5, g5⟩)
          (try go_wp2_with fail)
          have K6 := (KA12.drew.call g5).add (CanAt.mk_ d5 u5 v5)
          clear p0 p1 p2 p3
          obtain ⟨⟨b10x3, b10y3⟩, ⟨b9x3, b9y3⟩, _, _, ⟨pa3, pb3⟩, ⟨pc3, pd3⟩, _⟩ := K6.facts
          obtain ⟨f10x3, f10y3⟩ := K6.free (i := 0) rfl
          obtain ⟨e102x3, e102y3⟩ := K6.ne 0 4 rfl rfl (by decide)
          obtain ⟨e103x3, e103y3⟩ := K6.ne 0 5 rfl rfl (by decide)
          obtain ⟨f9x3, f9y3⟩ := K6.free (i := 1) rfl
          obtain ⟨e92x3, e92y3⟩ := K6.ne 1 4 rfl rfl (by decide)
          obtain ⟨e93x3, e93y3⟩ := K6.ne 1 5 rfl rfl (by decide)
          obtain ⟨eex3, eey3⟩ := K6.ne 0 1 rfl rfl (by decide)
          refine hK.out _ _ ?_ (fun hHeld3 => ?_)
          · ((try dsimp only); first | go_keep | (trace_state; fail))
          clear hK K hHeld2
          (try simp only [Act.put, List.setIfInBounds_toArray, List.set_cons_zero, List.set_cons_succ])
          refine wpAnyH_ready (rs := [10]) (by kernel_rfl) (by simp) ?_
          refine AllReadyH.cons (o := ⟨some 39, _, _, _, _, _⟩) rfl (fun K hK => ?_) AllReadyH.nil
          go_simp
          have im10 := K6.ints.2.1.c
          (go_at_call 78; (with_reducible refine (make_at im10 kR).mono ?_); rw [HR0.out]; rintro e wm6 ⟨A6, n6, c6, rfl, d6, u6, v6, g6⟩)
          (try go_wp2_with fail)
          have K10 := (K6.call g6).add (CanAt.mk_ d6 u6 v6)
          clear b10x3 b10y3 b9x3 b9y3 pa3 pb3 pc3 pd3 f10x3 f10y3 e102x3 e102y3 e103x3 e103y3 f9x3 f9y3 e92x3 e92y3 e93x3 e93y3 eex3 eey3
          obtain ⟨⟨b10x4, b10y4⟩, ⟨b9x4, b9y4⟩, _, _, ⟨pa4, pb4⟩, ⟨pc4, pd4⟩, _⟩ := K10.facts
          obtain ⟨f10x4, f10y4⟩ := K10.free (i := 0) rfl
          obtain ⟨e102x4, e102y4⟩ := K10.ne 0 4 rfl rfl (by decide)
          obtain ⟨e103x4, e103y4⟩ := K10.ne 0 5 rfl rfl (by decide)
          obtain ⟨f9x4, f9y4⟩ := K10.free (i := 1) rfl
          obtain ⟨e92x4, e92y4⟩ := K10.ne 1 4 rfl rfl (by decide)
          obtain ⟨e93x4, e93y4⟩ := K10.ne 1 5 rfl rfl (by decide)
          obtain ⟨eex4, eey4⟩ := K10.ne 0 1 rfl rfl (by decide)
          refine hK.out _ _ ?_ (fun hHeld4 => ?_)
          · ((try dsimp only); first | go_keep | (trace_state; fail))
          clear hK K hHeld3
          (try simp only [Act.put, List.setIfInBounds_toArray, List.set_cons_zero, List.set_cons_succ])
          refine wpAnyH_ready (rs := [13]) (by kernel_rfl) (by simp) ?_
          refine AllReadyH.cons (o := ⟨none, _, _, _, _, _⟩) rfl (fun K hK => ?_) AllReadyH.nil
          go_simp
          refine hK.out _ _ ?_ (fun hHeld5 => ?_)
          · ((try dsimp only); first | go_keep | (trace_state; fail))
          clear hK K hHeld4
          (try simp only [Act.put, List.setIfInBounds_toArray, List.set_cons_zero, List.set_cons_succ])
          refine wpAnyH_ready (rs := [14]) (by kernel_rfl) (by simp) ?_
          refine AllReadyH.cons (o := ⟨none, _, _, _, _, _⟩) rfl (fun K hK => ?_) AllReadyH.nil
          go_simp
          refine hK.out _ _ ?_ (fun hHeld6 => ?_)
          · ((try dsimp only); first | go_keep | (trace_state; fail))
          clear hK K hHeld5
          (try simp only [Act.put, List.setIfInBounds_toArray, List.set_cons_zero, List.set_cons_succ])
          refine wpAnyH_done (by kernel_rfl) ?_ _
          go_wp2_with fail
          go_meet
          first | (have KF := ((K10.put 1 rfl (decide (q0 < 0)) A5 n5 c5).put 0 rfl (decide (r0 < 0)) A6 n6 c6); (try simp only [List.set, World.size_alloc, World.size_setCell] at KF); have KG := KF; exact ⟨_, _, A5, n5, c5, A6, n6, c6, rfl, rfl, KG.ints_ ⟨KG.ints.1, KG.ints.2.1, KG.ints.2.2.2.2.1, KG.ints.2.2.2.2.2.1, trivial⟩⟩) | (have KF := ((K10.put 1 rfl (decide (q0 < 0)) A5 n5 c5).put 0 rfl (decide (r0 < 0)) A6 n6 c6); (try simp only [List.set, World.size_alloc, World.size_setCell] at KF); have KG := KF; exact ⟨_, _, A5, n5, c5, A6, n6, c6, rfl, rfl, KG.ints_ ⟨KG.ints.1, KG.ints.2.1, KG.ints.2.2.2.2.1, KG.ints.2.2.2.2.2.1, trivial⟩⟩) | (trace_state; fail)
        refine AllReadyH.cons (o := ⟨some 10, _, _, _, _, _⟩) rfl (fun K hK => ?_) AllReadyH.nil
        go_simp
        have KA12 := K3.new 24 (Plains.two false none 0 0)
        (try simp only [World.size_alloc] at KA12)
        refine hK.out _ _ ?_ (fun hHeld1 => ?_)
        · ((try dsimp only); first | go_keep | (trace_state; fail))
        clear hK K hHeld0
        (try simp only [Act.put, List.setIfInBounds_toArray, List.set_cons_zero, List.set_cons_succ])
        refine wpAnyH_ready (rs := [6, 11]) (by kernel_rfl) (by simp) ?_
        refine AllReadyH.cons (o := ⟨some 35, _, _, _, _, _⟩) rfl (fun K hK => ?_) ?_
        · skip
          go_simp
          have im6 := KA12.drew.ints.2.1.c
          (go_at_call 78; (with_reducible refine (make_at im6 kQ).mono ?_); rw [HQ0.out]; rintro e wm5 ⟨A5, n5, c5, rfl, d5, u5, v5, g5⟩)
          (try go_wp2_with fail)
          have K6 := (KA12.drew.call g5).add (CanAt.mk_ d5 u5 v5)
          clear p0 p1 p2 p3
          obtain ⟨⟨b10x2, b10y2⟩, _, _, ⟨pa2, pb2⟩, ⟨pc2, pd2⟩, _⟩ := K6.facts
          obtain ⟨f10x2, f10y2⟩ := K6.free (i := 0) rfl
          obtain ⟨e102x2, e102y2⟩ := K6.ne 0 3 rfl rfl (by decide)
          obtain ⟨e103x2, e103y2⟩ := K6.ne 0 4 rfl rfl (by decide)
          refine hK.out _ _ ?_ (fun hHeld2 => ?_)
          · ((try dsimp only); first | go_keep | (trace_state; fail))
          clear hK K hHeld1
          (try simp only [Act.put, List.setIfInBounds_toArray, List.set_cons_zero, List.set_cons_succ])
          refine wpAnyH_ready (rs := [10, 11]) (by kernel_rfl) (by simp) ?_
          refine AllReadyH.cons (o := ⟨some 39, _, _, _, _, _⟩) rfl (fun K hK => ?_) ?_
          · skip
            go_simp
            have im10 := K6.ints.2.1.c
            (go_at_call 78; (with_reducible refine (make_at im10 kR).mono ?_); rw [HR0.out]; rintro e wm6 ⟨A6, n6, c6, rfl, d6, u6, v6, g6⟩)
            (try go_wp2_with fail)
            have K10 := (K6.call g6).add (CanAt.mk_ d6 u6 v6)
            clear b10x2 b10y2 pa2 pb2 pc2 pd2 f10x2 f10y2 e102x2 e102y2 e103x2 e103y2
            obtain ⟨⟨b10x3, b10y3⟩, _, _, ⟨pa3, pb3⟩, ⟨pc3, pd3⟩, _⟩ := K10.facts
            obtain ⟨f10x3, f10y3⟩ := K10.free (i := 0) rfl
            obtain ⟨e102x3, e102y3⟩ := K10.ne 0 3 rfl rfl (by decide)
            obtain ⟨e103x3, e103y3⟩ := K10.ne 0 4 rfl rfl (by decide)
            refine hK.out _ _ ?_ (fun hHeld3 => ?_)
            · ((try dsimp only); first | go_keep | (trace_state; fail))
            clear hK K hHeld2
            (try simp only [Act.put, List.setIfInBounds_toArray, List.set_cons_zero, List.set_cons_succ])
            refine wpAnyH_ready (rs := [11]) (by kernel_rfl) (by simp) ?_
            refine AllReadyH.cons (o := ⟨some 9, _, _, _, _, _⟩) rfl (fun K hK => ?_) AllReadyH.nil
            go_simp
            have KA11 := K10.new 24 (Plains.two false none 0 0)
            (try simp only [World.size_alloc] at KA11)
            obtain ⟨⟨b9x4, b9y4⟩, ⟨b10x4, b10y4⟩, _⟩ := KA11.facts
            obtain ⟨f9x4, f9y4⟩ := KA11.free (i := 0) rfl
            obtain ⟨e92x4, e92y4⟩ := KA11.ne 0 4 rfl rfl (by decide)
            obtain ⟨e93x4, e93y4⟩ := KA11.ne 0 5 rfl rfl (by decide)
            obtain ⟨f10x4, f10y4⟩ := KA11.free (i := 1) rfl
            obtain ⟨eex4, eey4⟩ := KA11.ne 0 1 rfl rfl (by decide)
            refine hK.out _ _ ?_ (fun hHeld4 => ?_)
            · ((try dsimp only); first | go_keep | (trace_state; fail))
            clear hK K hHeld3
            (try simp only [Act.put, List.setIfInBounds_toArray, List.set_cons_zero, List.set_cons_succ])
            refine wpAnyH_ready (rs := [13]) (by kernel_rfl) (by simp) ?_
            refine AllReadyH.cons (o := ⟨none, _, _, _, _, _⟩) rfl (fun K hK => ?_) AllReadyH.nil
            go_simp
            have KS := K10.new 24 (Plains.two (decide (q0 < 0)) A5 n5 c5)
            (try simp only [World.size_alloc] at KS)
            obtain ⟨⟨b9x5, b9y5⟩, ⟨b10x5, b10y5⟩, _⟩ := KS.facts
            obtain ⟨f9x5, f9y5⟩ := KS.free (i := 0) rfl
            obtain ⟨e92x5, e92y5⟩ := KS.ne 0 4 rfl rfl (by decide)
            obtain ⟨e93x5, e93y5⟩ := KS.ne 0 5 rfl rfl (by decide)
            obtain ⟨f10x5, f10y5⟩ := KS.free (i := 1) rfl
            obtain ⟨eex5, eey5⟩ := KS.ne 0 1 rfl rfl (by decide)
            refine hK.out _ _ ?_ (fun hHeld5 => ?_)
            · ((try dsimp only); first | go_keep | (trace_state; fail))
            clear hK K hHeld4
            (try simp only [Act.put, List.setIfInBounds_toArray, List.set_cons_zero, List.set_cons_succ])
            refine wpAnyH_ready (rs := [14]) (by kernel_rfl) (by simp) ?_
            refine AllReadyH.cons (o := ⟨none, _, _, _, _, _⟩) rfl (fun K hK => ?_) AllReadyH.nil
            go_simp
            refine hK.out _ _ ?_ (fun hHeld6 => ?_)
            · ((try dsimp only); first | go_keep | (trace_state; fail))
            clear hK K hHeld5
            (try simp only [Act.put, List.setIfInBounds_toArray, List.set_cons_zero, List.set_cons_succ])
            refine wpAnyH_done (by kernel_rfl) ?_ _
            go_wp2_with fail
            go_meet
            first | (have KF := ((K10.new 24 (Plains.two (decide (q0 < 0)) A5 n5 c5)).put 1 rfl (decide (r0 < 0)) A6 n6 c6); (try simp only [List.set, World.size_alloc, World.size_setCell] at KF); have KG := KF.swap; exact ⟨_, _, A5, n5, c5, A6, n6, c6, rfl, rfl, KG.ints_ ⟨KG.ints.1, KG.ints.2.1, KG.ints.2.2.2.2.1, KG.ints.2.2.2.2.2.1, trivial⟩⟩) | (have KF := ((K10.put 0 rfl (decide (r0 < 0)) A6 n6 c6).new 24 (Plains.two (decide (q0 < 0)) A5 n5 c5)); (try simp only [List.set, World.size_alloc, World.size_setCell] at KF); have KG := KF.swap; exact ⟨_, _, A5, n5, c5, A6, n6, c6, rfl, rfl, KG.ints_ ⟨KG.ints.1, KG.ints.2.1, KG.ints.2.2.2.2.1, KG.ints.2.2.2.2.2.1, trivial⟩⟩) | (trace_state; fail)
          refine AllReadyH.cons (o := ⟨some 9, _, _, _, _, _⟩) rfl (fun K hK => ?_) AllReadyH.nil
          go_simp
          have KA11 := K6.new 24 (Plains.two false none 0 0)
          (try simp only [World.size_alloc] at KA11)
          obtain ⟨⟨b9x3, b9y3⟩, ⟨b10x3, b10y3⟩, _⟩ := KA11.facts
          obtain ⟨f9x3, f9y3⟩ := KA11.free (i := 0) rfl
          obtain ⟨e92x3, e92y3⟩ := KA11.ne 0 4 rfl rfl (by decide)
          obtain ⟨e93x3, e93y3⟩ := KA11.ne 0 5 rfl rfl (by decide)
          obtain ⟨f10x3, f10y3⟩ := KA11.free (i := 1) rfl
          obtain ⟨eex3, eey3⟩ := KA11.ne 0 1 rfl rfl (by decide)
          refine hK.out _ _ ?_ (fun hHeld3 => ?_)
          · ((try dsimp only); first | go_keep | (trace_state; fail))
          clear hK K hHeld2
          (try simp only [Act.put, List.setIfInBounds_toArray, List.set_cons_zero, List.set_cons_succ])
          refine wpAnyH_ready (rs := [10]) (by kernel_rfl) (by simp) ?_
          refine AllReadyH.cons (o := ⟨some 39, _, _, _, _, _⟩) rfl (fun K hK => ?_) AllReadyH.nil
          go_simp
          have im10 := KA11.ints.2.1.c
          (go_at_call 78; (with_reducible refine (make_at im10 kR).mono ?_); rw [HR0.out]; rintro e wm6 ⟨A6, n6, c6, rfl, d6, u6, v6, g6⟩)
          (try go_wp2_with fail)
          have K10 := (KA11.call g6).add (CanAt.mk_ d6 u6 v6)
          clear b10x2 b10y2 pa2 pb2 pc2 pd2 f10x2 f10y2 e102x2 e102y2 e103x2 e103y2 b9x3 b9y3 b10x3 b10y3 f9x3 f9y3 e92x3 e92y3 e93x3 e93y3 f10x3 f10y3 eex3 eey3
          obtain ⟨⟨b9x4, b9y4⟩, ⟨b10x4, b10y4⟩, _, _, ⟨pa4, pb4⟩, ⟨pc4, pd4⟩, _⟩ := K10.facts
          obtain ⟨f9x4, f9y4⟩ := K10.free (i := 0) rfl
          obtain ⟨e92x4, e92y4⟩ := K10.ne 0 4 rfl rfl (by decide)
          obtain ⟨e93x4, e93y4⟩ := K10.ne 0 5 rfl rfl (by decide)
          obtain ⟨f10x4, f10y4⟩ := K10.free (i := 1) rfl
          obtain ⟨e102x4, e102y4⟩ := K10.ne 1 4 rfl rfl (by decide)
          obtain ⟨e103x4, e103y4⟩ := K10.ne 1 5 rfl rfl (by decide)
          obtain ⟨eex4, eey4⟩ := K10.ne 0 1 rfl rfl (by decide)
          refine hK.out _ _ ?_ (fun hHeld4 => ?_)
          · ((try dsimp only); first | go_keep | (trace_state; fail))
          clear hK K hHeld3
          (try simp only [Act.put, List.setIfInBounds_toArray, List.set_cons_zero, List.set_cons_succ])
          refine wpAnyH_ready (rs := [13]) (by kernel_rfl) (by simp) ?_
          refine AllReadyH.cons (o := ⟨none, _, _, _, _, _⟩) rfl (fun K hK => ?_) AllReadyH.nil
          go_simp
          refine hK.out _ _ ?_ (fun hHeld5 => ?_)
          · ((try dsimp only); first | go_keep | (trace_state; fail))
          clear hK K hHeld4
          (try simp only [Act.put, List.setIfInBounds_toArray, List.set_cons_zero, List.set_cons_succ])
          refine wpAnyH_ready (rs := [14]) (by kernel_rfl) (by simp) ?_
          refine AllReadyH.cons (o := ⟨none, _, _, _, _, _⟩) rfl (fun K hK => ?_) AllReadyH.nil
          go_simp
          refine hK.out _ _ ?_ (fun hHeld6 => ?_)
          · ((try dsimp only); first | go_keep | (trace_state; fail))
          clear hK K hHeld5
          (try simp only [Act.put, List.setIfInBounds_toArray, List.set_cons_zero, List.set_cons_succ])
          refine wpAnyH_done (by kernel_rfl) ?_ _
          go_wp2_with fail
          go_meet
          first | (have KF := ((K10.put 0 rfl (decide (q0 < 0)) A5 n5 c5).put 1 rfl (decide (r0 < 0)) A6 n6 c6); (try simp only [List.set, World.size_alloc, World.size_setCell] at KF); have KG := KF.swap; exact ⟨_, _, A5, n5, c5, A6, n6, c6, rfl, rfl, KG.ints_ ⟨KG.ints.1, KG.ints.2.1, KG.ints.2.2.2.2.1, KG.ints.2.2.2.2.2.1, trivial⟩⟩) | (have KF := ((K10.put 0 rfl (decide (q0 < 0)) A5 n5 c5).put 1 rfl (decide (r0 < 0)) A6 n6 c6); (try simp only [List.set, World.size_alloc, World.size_setCell] at KF); have KG := KF.swap; exact ⟨_, _, A5, n5, c5, A6, n6, c6, rfl, rfl, KG.ints_ ⟨KG.ints.1, KG.ints.2.1, KG.ints.2.2.2.2.1, KG.ints.2.2.2.2.2.1, trivial⟩⟩) | (trace_state; fail)
        refine AllReadyH.cons (o := ⟨some 9, _, _, _, _, _⟩) rfl (fun K hK => ?_) AllReadyH.nil
        go_simp
        have KA11 := KA12.new 24 (Plains.two false none 0 0)
        (try simp only [World.size_alloc] at KA11)
        refine hK.out _ _ ?_ (fun hHeld2 => ?_)
        · ((try dsimp only); first | go_keep | (trace_state; fail))
        clear hK K hHeld1
        (try simp only [Act.put, List.setIfInBounds_toArray, List.set_cons_zero, List.set_cons_succ])
        refine wpAnyH_ready (rs := [6]) (by kernel_rfl) (by simp) ?_
        refine AllReadyH.cons (o := ⟨some 35, _, _, _, _, _⟩) rfl (fun K hK => ?_) AllReadyH.nil
        go_simp
        have im6 := KA11.drew.ints.2.1.c
        (go_at_call 78; (with_reducible refine (make_at im6 kQ).mono ?_); rw [HQ0.out]; rintro e wm5 ⟨A5, n5, c5, rfl, d5, u5, v5, g5⟩)
        (try go_wp2_with fail)
        have K6 := (KA11.drew.call g5).add (CanAt.mk_ d5 u5 v5)
        clear p0 p1 p2 p3
        obtain ⟨⟨b9x3, b9y3⟩, ⟨b10x3, b10y3⟩, _, _, ⟨pa3, pb3⟩, ⟨pc3, pd3⟩, _⟩ := K6.facts
        obtain ⟨f9x3, f9y3⟩ := K6.free (i := 0) rfl
        obtain ⟨e92x3, e92y3⟩ := K6.ne 0 4 rfl rfl (by decide)
        obtain ⟨e93x3, e93y3⟩ := K6.ne 0 5 rfl rfl (by decide)
        obtain ⟨f10x3, f10y3⟩ := K6.free (i := 1) rfl
        obtain ⟨e102x3, e102y3⟩ := K6.ne 1 4 rfl rfl (by decide)
        obtain ⟨e103x3, e103y3⟩ := K6.ne 1 5 rfl rfl (by decide)
        obtain ⟨eex3, eey3⟩ := K6.ne 0 1 rfl rfl (by decide)
        refine hK.out _ _ ?_ (fun hHeld3 => ?_)
        · ((try dsimp only); first | go_keep | (trace_state; fail))
        clear hK K hHeld2
        (try simp only [Act.put, List.setIfInBounds_toArray, List.set_cons_zero, List.set_cons_succ])
        refine wpAnyH_ready (rs := [10]) (by kernel_rfl) (by simp) ?_
        refine AllReadyH.cons (o := ⟨some 39, _, _, _, _, _⟩) rfl (fun K hK => ?_) AllReadyH.nil
        go_simp
        have im10 := K6.ints.2.1.c
        (go_at_call 78; (with_reducible refine (make_at im10 kR).mono ?_); rw [HR0.out]; rintro e wm6 ⟨A6, n6, c6, rfl, d6, u6, v6, g6⟩)
        (try go_wp2_with fail)
        have K10 := (K6.call g6).add (CanAt.mk_ d6 u6 v6)
        clear b9x3 b9y3 b10x3 b10y3 pa3 pb3 pc3 pd3 f9x3 f9y3 e92x3 e92y3 e93x3 e93y3 f10x3 f10y3 e102x3 e102y3 e103x3 e103y3 eex3 eey3
        obtain ⟨⟨b9x4, b9y4⟩, ⟨b10x4, b10y4⟩, _, _, ⟨pa4, pb4⟩, ⟨pc4, pd4⟩, _⟩ := K10.facts
        obtain ⟨f9x4, f9y4⟩ := K10.free (i := 0) rfl
        obtain ⟨e92x4, e92y4⟩ := K10.ne 0 4 rfl rfl (by decide)
        obtain ⟨e93x4, e93y4⟩ := K10.ne 0 5 rfl rfl (by decide)
        obtain ⟨f10x4, f10y4⟩ := K10.free (i := 1) rfl
        obtain ⟨e102x4, e102y4⟩ := K10.ne 1 4 rfl rfl (by decide)
        obtain ⟨e103x4, e103y4⟩ := K10.ne 1 5 rfl rfl (by decide)
        obtain ⟨eex4, eey4⟩ := K10.ne 0 1 rfl rfl (by decide)
        refine hK.out _ _ ?_ (fun hHeld4 => ?_)
        · ((try dsimp only); first | go_keep | (trace_state; fail))
        clear hK K hHeld3
        (try simp only [Act.put, List.setIfInBounds_toArray, List.set_cons_zero, List.set_cons_succ])
        refine wpAnyH_ready (rs := [13]) (by kernel_rfl) (by simp) ?_
        refine AllReadyH.cons (o := ⟨none, _, _, _, _, _⟩) rfl (fun K hK => ?_) AllReadyH.nil
        go_simp
        refine hK.out _ _ ?_ (fun hHeld5 => ?_)
        · ((try dsimp only); first | go_keep | (trace_state; fail))
        clear hK K hHeld4
        (try simp only [Act.put, List.setIfInBounds_toArray, List.set_cons_zero, List.set_cons_succ])
        refine wpAnyH_ready (rs := [14]) (by kernel_rfl) (by simp) ?_
        refine AllReadyH.cons (o := ⟨none, _, _, _, _, _⟩) rfl (fun K hK => ?_) AllReadyH.nil
        go_simp
        refine hK.out _ _ ?_ (fun hHeld6 => ?_)
        · ((try dsimp only); first | go_keep | (trace_state; fail))
        clear hK K hHeld5
        (try simp only [Act.put, List.setIfInBounds_toArray, List.set_cons_zero, List.set_cons_succ])
        refine wpAnyH_done (by kernel_rfl) ?_ _
        go_wp2_with fail
        go_meet
        first | (have KF := ((K10.put 0 rfl (decide (q0 < 0)) A5 n5 c5).put 1 rfl (decide (r0 < 0)) A6 n6 c6); (try simp only [List.set, World.size_alloc, World.size_setCell] at KF); have KG := KF.swap; exact ⟨_, _, A5, n5, c5, A6, n6, c6, rfl, rfl, KG.ints_ ⟨KG.ints.1, KG.ints.2.1, KG.ints.2.2.2.2.1, KG.ints.2.2.2.2.2.1, trivial⟩⟩) | (have KF := ((K10.put 0 rfl (decide (q0 < 0)) A5 n5 c5).put 1 rfl (decide (r0 < 0)) A6 n6 c6); (try simp only [List.set, World.size_alloc, World.size_setCell] at KF); have KG := KF.swap; exact ⟨_, _, A5, n5, c5, A6, n6, c6, rfl, rfl, KG.ints_ ⟨KG.ints.1, KG.ints.2.1, KG.ints.2.2.2.2.1, KG.ints.2.2.2.2.2.1, trivial⟩⟩) | (trace_state; fail)
      case rest =>
        clear K3 z1 z2 p0 p1 p2 p3
        obtain ⟨g9, g10, A5, n5, c5, A6, n6, c6, rfl, rfl, K⟩ := hcut
        obtain ⟨ir, iq, _⟩ := K.ints
        have hn5 : n5 ≤ 100000 := by rw [← iq.c.2.1.len]; exact Nat.le_trans zq0.len (by decide)
        have hn6 : n6 ≤ 100000 := by rw [← ir.c.2.1.len]; exact Nat.le_trans zr0.len (by decide)
        by_cases hr0 : r0 = 0
        · have HM := Lib.hid (HN.out.1 (Or.inl hr0))
          obtain rfl := digs_len0 ir.c hr0
          clear hr0 ir iq
          obtain ⟨⟨p0, p1⟩, _, _, _, _, _⟩ := K.facts
          go_upto_region 8 with fail
          obtain ⟨y1, y2⟩ := K.ne 0 2 rfl rfl (by decide)
          obtain ⟨y3, y4⟩ := K.ne 0 3 rfl rfl (by decide)
          obtain ⟨y5, y6⟩ := K.ne 1 2 rfl rfl (by decide)
          obtain ⟨y7, y8⟩ := K.ne 1 3 rfl rfl (by decide)
          have HX := Lib.hid K
          clear K
          have KQ := HX.out
          skip
          obtain ⟨⟨t0, t1⟩, ⟨t2, t3⟩, ⟨t4, t5⟩, ⟨t6, t7⟩, _⟩ := KQ.facts
          obtain ⟨f0, f1⟩ := KQ.free (i := 2) rfl
          obtain ⟨f2, f3⟩ := KQ.free (i := 3) rfl
          have KF := ((KQ.put 3 rfl (decide (q0 < 0)) A5 n5 c5).put 2 rfl (decide (r0 < 0)) A6 0 c6).drew
          simp only [List.set] at KF
          go_region
          all_goals
            go_wp2_with fail
          all_goals
            generalize (((((wc.setCell ⟨w.heap.size + 1 + 1, 0, none⟩ (.bool (decide (q0 < 0)))).setCell ⟨w.heap.size + 1 + 1, 1, none⟩ (.slice A5 n5 c5)).setCell ⟨w.heap.size + 1 + 1 + 1, 0, none⟩ (.bool (decide (r0 < 0)))).setCell ⟨w.heap.size + 1 + 1 + 1, 1, none⟩ (.slice A6 0 c6))).drew = WF at KF ⊢
            obtain ⟨_, _, ⟨r2, r3⟩, ⟨r0', r1'⟩, _⟩ := KF.facts
            refine bodyPost_ret (v := .tuple #[.agg #[.bool (decide (q0 < 0)), .slice A5 n5 c5], .agg #[.bool (decide (r0 < 0)), .slice A6 0 c6], .int .i64 0]) (by simp [results, Try.results55, go_sem, r0', r1', r2, r3]) rfl ?_
            rw [HM.out.1, HM.out.2, HE.out]
            exact RetM.of_st (KF.ints_ (k' := [(decide (r0 < 0), A6, 0, c6, r0, true), (decide (q0 < 0), A5, n5, c5, q0, true)]) ⟨KF.ints.1, KF.ints.2.1, trivial⟩)
        · have hn6p : 0 < n6 := digs_lenp ir.c hr0
          by_cases hss : (decide (x < 0) == decide (y < 0)) = true
          · have HM := Lib.hid (HN.out.1 (Or.inr hss))
            clear hr0 ir iq
            obtain ⟨⟨p0, p1⟩, ⟨p2, p3⟩, ⟨p4, p5⟩, ⟨p6, p7⟩, ⟨p8, p9⟩, ⟨pa, pb⟩, _⟩ := K.facts
            go_upto_region 8 with fail
            obtain ⟨y1, y2⟩ := K.ne 0 2 rfl rfl (by decide)
            obtain ⟨y3, y4⟩ := K.ne 0 3 rfl rfl (by decide)
            obtain ⟨y5, y6⟩ := K.ne 1 2 rfl rfl (by decide)
            obtain ⟨y7, y8⟩ := K.ne 1 3 rfl rfl (by decide)
            have HX := Lib.hid K
            clear K
            have KQ := HX.out
            skip
            obtain ⟨⟨t0, t1⟩, ⟨t2, t3⟩, ⟨t4, t5⟩, ⟨t6, t7⟩, _⟩ := KQ.facts
            obtain ⟨f0, f1⟩ := KQ.free (i := 2) rfl
            obtain ⟨f2, f3⟩ := KQ.free (i := 3) rfl
            have KF := ((KQ.put 3 rfl (decide (q0 < 0)) A5 n5 c5).put 2 rfl (decide (r0 < 0)) A6 n6 c6).drew
            simp only [List.set] at KF
            go_region
            all_goals
              go_wp2_with fail
            all_goals
              generalize (((((wc.setCell ⟨w.heap.size + 1 + 1, 0, none⟩ (.bool (decide (q0 < 0)))).setCell ⟨w.heap.size + 1 + 1, 1, none⟩ (.slice A5 n5 c5)).setCell ⟨w.heap.size + 1 + 1 + 1, 0, none⟩ (.bool (decide (r0 < 0)))).setCell ⟨w.heap.size + 1 + 1 + 1, 1, none⟩ (.slice A6 n6 c6))).drew = WF at KF ⊢
              obtain ⟨_, _, ⟨r2, r3⟩, ⟨r0', r1'⟩, _⟩ := KF.facts
              refine bodyPost_ret (v := .tuple #[.agg #[.bool (decide (q0 < 0)), .slice A5 n5 c5], .agg #[.bool (decide (r0 < 0)), .slice A6 n6 c6], .int .i64 0]) (by simp [results, Try.results55, go_sem, r0', r1', r2, r3]) rfl ?_
              rw [HM.out.1, HM.out.2, HE.out]
              exact RetM.of_st (KF.ints_ (k' := [(decide (r0 < 0), A6, n6, c6, r0, true), (decide (q0 < 0), A5, n5, c5, q0, true)]) ⟨KF.ints.1, KF.ints.2.1, trivial⟩)
          · have hss' : (decide (x < 0) == decide (y < 0)) = false := by simpa using hss
            have HM0 := Lib.hid (HN.out.2 hr0 hss')
            clear hr0 ir iq hss
            obtain ⟨q1, HQ1⟩ : ∃ v, Hid (q0 - 1 = v) := ⟨_, rfl⟩
            obtain ⟨r1, HR1⟩ : ∃ v, Hid (r0 + y = v) := ⟨_, rfl⟩
            have HM : Hid (dmQ x y = q1 ∧ dmR x y = r1) := by unfold Hid; rw [← HQ1.out, ← HR1.out]; exact HM0.out
            have k1 : (digs (1 : Int).natAbs).length ≤ 1000000 := Nat.le_trans (digs_length_le (k := 1) (by rw [BB_eq]; decide)) (by decide)
            obtain ⟨⟨p0, p1⟩, ⟨p2, p3⟩, ⟨p4, p5⟩, ⟨p6, p7⟩, ⟨p8, p9⟩, ⟨pa, pb⟩, _⟩ := K.facts
            go_upto_region 7 with fail
            have Kd := K.drew
            clear K p0 p1 p2 p3 p4 p5 p6 p7 p8 p9 pa pb
            go_cut [] (fun wx => ∃ (A5 : Option Addr) (n5 c5 : Nat) (A6 : Option Addr) (n6 c6 : Nat),
              St w wx [vi g10 (decide (r1 < 0)) A6 n6 c6, vi g9 (decide (q1 < 0)) A5 n5 c5, vi (w.heap.size + 1 + 1 + 1) false none 0 0, vi (w.heap.size + 1 + 1) false none 0 0, vi (w.heap.size + 1) (decide (y < 0)) A2 n2 c2, vi w.heap.size (decide (x < 0)) A1 n1 c1]
                [(decide (r1 < 0), A6, n6, c6, r1, true), (decide (q1 < 0), A5, n5, c5, q1, true)])
            case first =>
              obtain ⟨z1, z2⟩ := Kd.ne 0 1 rfl rfl (by decide)
              obtain ⟨z3, z4⟩ := Kd.ne 0 4 rfl rfl (by decide)
              obtain ⟨z5, z6⟩ := Kd.ne 1 4 rfl rfl (by decide)
              obtain ⟨⟨p4, p5⟩, ⟨p2, p3⟩, _, _, ⟨p0, p1⟩, _⟩ := Kd.facts
              refine wp_region_held_drew (S := fun w' => w'.cell? ⟨w.heap.size + 1, 0, none⟩ = some (.bool (decide (y < 0))) ∧ w'.cell? ⟨w.heap.size + 1, 1, none⟩ = some (.slice A2 n2 c2)) (by kernel_rfl) ?_ (fun hHeld0 => ?_)
              · ((try dsimp only); go_keep)
              refine wpAnyH_take (i := 4) (oi := ⟨some 55, _, _, _, _, _⟩) (v := ?_) rfl (by kernel_rfl) (by kernel_rfl) (by kernel_rfl) (fun _ _ _ h => h) (Or.inl ⟨by rfl, ?_⟩) (by assumption) ?_
              rotate_left
              · (intro w' hSw; (try dsimp only at hSw); go_simp; (try with_reducible rfl))
              (try simp only [Act.put, List.setIfInBounds_toArray, List.set_cons_zero, List.set_cons_succ])
              refine wpAnyH_ready (rs := [0, 1, 3]) (by kernel_rfl) (by simp) ?_
              refine AllReadyH.cons (o := ⟨some 51, _, _, _, _, _⟩) rfl (fun K hK => ?_) ?_
              · skip
                go_simp
                refine hK.out _ _ ?_ (fun hHeld1 => ?_)
                · ((try dsimp only); first | go_keep | (trace_state; fail))
                clear hK K hHeld0
                (try simp only [Act.put, List.setIfInBounds_toArray, List.set_cons_zero, List.set_cons_succ])
                refine wpAnyH_ready (rs := [1, 3]) (by kernel_rfl) (by simp) ?_
                refine AllReadyH.cons (o := ⟨some 52, _, _, _, _, _⟩) rfl (fun K hK => ?_) ?_
                · skip
                  go_simp
                  (go_at_call 60; (with_reducible refine (rfromInt64_any 1 (by decide) (by decide) _).mono ?_); rintro e wa ⟨B1, m1, e1, rfl, d1, u1, v1, g1⟩)
                  (try go_wp2_with fail)
                  have L1 := (Kd.call g1).add (show CanAt wa false B1 m1 e1 1 from CanAt.mk_ d1 u1 v1)
                  have hm1 : m1 ≤ 100000 := by rw [← d1.len]; exact Nat.le_trans (digs_length_le (k := 1) (by rw [BB_eq]; decide)) (by decide)
                  clear p0 p1 p2 p3 p4 p5
                  obtain ⟨⟨p4, p5⟩, ⟨p2, p3⟩, _, _, ⟨p0, p1⟩, _⟩ := L1.facts
                  refine hK.out _ _ ?_ (fun hHeld2 => ?_)
                  · ((try dsimp only); first | go_keep | (trace_state; fail))
                  clear hK K hHeld1
                  (try simp only [Act.put, List.setIfInBounds_toArray, List.set_cons_zero, List.set_cons_succ])
                  refine wpAnyH_ready (rs := [2, 3]) (by kernel_rfl) (by simp) ?_
                  refine AllReadyH.cons (o := ⟨some 53, _, _, _, _, _⟩) rfl (fun K hK => ?_) ?_
                  · skip
                    go_simp
                    have ja := L1.ints
                    obtain ⟨j1, _, jq, _⟩ := ja
                    (go_at_call 81; (with_reducible refine (rsub_at (jq.ci kq0) (j1.ci k1) hn5 hm1).mono ?_); rw [HQ1.out]; rintro e wb ⟨B2, m2, e2, rfl, d2, u2, v2, g2⟩)
                    (try go_wp2_with fail)
                    have L2 := (L1.call g2).add (CanAt.mk_ d2 u2 v2)
                    clear p0 p1 p2 p3 p4 p5
                    obtain ⟨⟨p4, p5⟩, ⟨p2, p3⟩, _, _, ⟨p0, p1⟩, _⟩ := L2.facts
                    refine hK.out _ _ ?_ (fun hHeld3 => ?_)
                    · ((try dsimp only); first | go_keep | (trace_state; fail))
                    clear hK K hHeld2
                    (try simp only [Act.put, List.setIfInBounds_toArray, List.set_cons_zero, List.set_cons_succ])
                    refine wpAnyH_ready (rs := [3]) (by kernel_rfl) (by simp) ?_
                    refine AllReadyH.cons (o := ⟨some 54, _, _, _, _, _⟩) rfl (fun K hK => ?_) AllReadyH.nil
                    go_simp
                    refine hK.out _ _ ?_ (fun hHeld4 => ?_)
                    · ((try dsimp only); first | go_keep | (trace_state; fail))
                    clear hK K hHeld3
                    (try simp only [Act.put, List.setIfInBounds_toArray, List.set_cons_zero, List.set_cons_succ])
                    refine wpAnyH_ready (rs := [5]) (by kernel_rfl) (by simp) ?_
                    refine AllReadyH.cons (o := ⟨some 56, _, _, _, _, _⟩) rfl (fun K hK => ?_) AllReadyH.nil
                    go_simp
                    have jb := L2.ints
                    obtain ⟨_, _, jr, _, jy, _⟩ := jb
                    (go_at_call 82; (with_reducible refine (radd_at (jr.ci kr0) (jy.ci ky) hn6 hn2).mono ?_); rw [HR1.out]; rintro e wc ⟨B3, m3, e3, rfl, d3, u3, v3, g3⟩)
                    (try go_wp2_with fail)
                    have L3 := (L2.call g3).add (CanAt.mk_ d3 u3 v3)
                    clear p0 p1 p2 p3 p4 p5
                    obtain ⟨⟨p4, p5⟩, ⟨p2, p3⟩, _, _, ⟨p0, p1⟩, _⟩ := L3.facts
                    obtain ⟨f0, f1⟩ := L3.free (i := 0) rfl
                    obtain ⟨f2, f3⟩ := L3.free (i := 1) rfl
                    refine hK.out _ _ ?_ (fun hHeld5 => ?_)
                    · ((try dsimp only); first | go_keep | (trace_state; fail))
                    clear hK K hHeld4
                    (try simp only [Act.put, List.setIfInBounds_toArray, List.set_cons_zero, List.set_cons_succ])
                    refine wpAnyH_ready (rs := [6]) (by kernel_rfl) (by simp) ?_
                    refine AllReadyH.cons (o := ⟨none, _, _, _, _, _⟩) rfl (fun K hK => ?_) AllReadyH.nil
                    go_simp
                    refine hK.out _ _ ?_ (fun hHeld6 => ?_)
                    · ((try dsimp only); first | go_keep | (trace_state; fail))
                    clear hK K hHeld5
                    (try simp only [Act.put, List.setIfInBounds_toArray, List.set_cons_zero, List.set_cons_succ])
                    refine wpAnyH_ready (rs := [7]) (by kernel_rfl) (by simp) ?_
                    refine AllReadyH.cons (o := ⟨none, _, _, _, _, _⟩) rfl (fun K hK => ?_) AllReadyH.nil
                    go_simp
                    refine hK.out _ _ ?_ (fun hHeld7 => ?_)
                    · ((try dsimp only); first | go_keep | (trace_state; fail))
                    clear hK K hHeld6
                    (try simp only [Act.put, List.setIfInBounds_toArray, List.set_cons_zero, List.set_cons_succ])
                    refine wpAnyH_done (by kernel_rfl) ?_ _
                    go_wp2_with fail
                    go_meet
                    have KF := (L3.put 1 rfl (decide (q1 < 0)) B2 m2 e2).put 0 rfl (decide (r1 < 0)) B3 m3 e3
                    simp only [List.set] at KF
                    exact ⟨B2, m2, e2, B3, m3, e3, KF.ints_ ⟨KF.ints.1, KF.ints.2.1, trivial⟩⟩
                  refine AllReadyH.cons (o := ⟨some 54, _, _, _, _, _⟩) rfl (fun K hK => ?_) AllReadyH.nil
                  go_simp
                  refine hK.out _ _ ?_ (fun hHeld3 => ?_)
                  · ((try dsimp only); first | go_keep | (trace_state; fail))
                  clear hK K hHeld2
                  (try simp only [Act.put, List.setIfInBounds_toArray, List.set_cons_zero, List.set_cons_succ])
                  refine wpAnyH_ready (rs := [2]) (by kernel_rfl) (by simp) ?_
                  refine AllReadyH.cons (o := ⟨some 53, _, _, _, _, _⟩) rfl (fun K hK => ?_) AllReadyH.nil
                  go_simp
                  have ja := L1.ints
                  obtain ⟨j1, _, jq, _⟩ := ja
                  (go_at_call 81; (with_reducible refine (rsub_at (jq.ci kq0) (j1.ci k1) hn5 hm1).mono ?_); rw [HQ1.out]; rintro e wb ⟨B2, m2, e2, rfl, d2, u2, v2, g2⟩)
                  (try go_wp2_with fail)
                  have L2 := (L1.call g2).add (CanAt.mk_ d2 u2 v2)
                  clear p0 p1 p2 p3 p4 p5
                  obtain ⟨⟨p4, p5⟩, ⟨p2, p3⟩, _, _, ⟨p0, p1⟩, _⟩ := L2.facts
                  refine hK.out _ _ ?_ (fun hHeld4 => ?_)
                  · ((try dsimp only); first | go_keep | (trace_state; fail))
                  clear hK K hHeld3
                  (try simp only [Act.put, List.setIfInBounds_toArray, List.set_cons_zero, List.set_cons_succ])
                  refine wpAnyH_ready (rs := [5]) (by kernel_rfl) (by simp) ?_
                  refine AllReadyH.cons (o := ⟨some 56, _, _, _, _, _⟩) rfl (fun K hK => ?_) AllReadyH.nil
                  go_simp
                  have jb := L2.ints
                  obtain ⟨_, _, jr, _, jy, _⟩ := jb
                  (go_at_call 82; (with_reducible refine (radd_at (jr.ci kr0) (jy.ci ky) hn6 hn2).mono ?_); rw [HR1.out]; rintro e wc ⟨B3, m3, e3, rfl, d3, u3, v3, g3⟩)
                  (try go_wp2_with fail)
                  have L3 := (L2.call g3).add (CanAt.mk_ d3 u3 v3)
                  clear p0 p1 p2 p3 p4 p5
                  obtain ⟨⟨p4, p5⟩, ⟨p2, p3⟩, _, _, ⟨p0, p1⟩, _⟩ := L3.facts
                  obtain ⟨f0, f1⟩ := L3.free (i := 0) rfl
                  obtain ⟨f2, f3⟩ := L3.free (i := 1) rfl
                  refine hK.out _ _ ?_ (fun hHeld5 => ?_)
                  · ((try dsimp only); first | go_keep | (trace_state; fail))
                  clear hK K hHeld4
                  (try simp only [Act.put, List.setIfInBounds_toArray, List.set_cons_zero, List.set_cons_succ])
                  refine wpAnyH_ready (rs := [6]) (by kernel_rfl) (by simp) ?_
                  refine AllReadyH.cons (o := ⟨none, _, _, _, _, _⟩) rfl (fun K hK => ?_) AllReadyH.nil
                  go_simp
                  refine hK.out _ _ ?_ (fun hHeld6 => ?_)
                  · ((try dsimp only); first | go_keep | (trace_state; fail))
                  clear hK K hHeld5
                  (try simp only [Act.put, List.setIfInBounds_toArray, List.set_cons_zero, List.set_cons_succ])
                  refine wpAnyH_ready (rs := [7]) (by kernel_rfl) (by simp) ?_
                  refine AllReadyH.cons (o := ⟨none, _, _, _, _, _⟩) rfl (fun K hK => ?_) AllReadyH.nil
                  go_simp
                  refine hK.out _ _ ?_ (fun hHeld7 => ?_)
                  · ((try dsimp only); first | go_keep | (trace_state; fail))
                  clear hK K hHeld6
                  (try simp only [Act.put, List.setIfInBounds_toArray, List.set_cons_zero, List.set_cons_succ])
                  refine wpAnyH_done (by kernel_rfl) ?_ _
                  go_wp2_with fail
                  go_meet
                  have KF := (L3.put 1 rfl (decide (q1 < 0)) B2 m2 e2).put 0 rfl (decide (r1 < 0)) B3 m3 e3
                  simp only [List.set] at KF
                  exact ⟨B2, m2, e2, B3, m3, e3, KF.ints_ ⟨KF.ints.1, KF.ints.2.1, trivial⟩⟩
                refine AllReadyH.cons (o := ⟨some 54, _, _, _, _, _⟩) rfl (fun K hK => ?_) AllReadyH.nil
                go_simp
                refine hK.out _ _ ?_ (fun hHeld2 => ?_)
                · ((try dsimp only); first | go_keep | (trace_state; fail))
                clear hK K hHeld1
                (try simp only [Act.put, List.setIfInBounds_toArray, List.set_cons_zero, List.set_cons_succ])
                refine wpAnyH_ready (rs := [1]) (by kernel_rfl) (by simp) ?_
                refine AllReadyH.cons (o := ⟨some 52, _, _, _, _, _⟩) rfl (fun K hK => ?_) AllReadyH.nil
                go_simp
                (go_at_call 60; (with_reducible refine (rfromInt64_any 1 (by decide) (by decide) _).mono ?_); rintro e wa ⟨B1, m1, e1, rfl, d1, u1, v1, g1⟩)
                (try go_wp2_with fail)
                have L1 := (Kd.call g1).add (show CanAt wa false B1 m1 e1 1 from CanAt.mk_ d1 u1 v1)
                have hm1 : m1 ≤ 100000 := by rw [← d1.len]; exact Nat.le_trans (digs_length_le (k := 1) (by rw [BB_eq]; decide)) (by decide)
                clear p0 p1 p2 p3 p4 p5
                obtain ⟨⟨p4, p5⟩, ⟨p2, p3⟩, _, _, ⟨p0, p1⟩, _⟩ := L1.facts
                refine hK.out _ _ ?_ (fun hHeld3 => ?_)
                · ((try dsimp only); first | go_keep | (trace_state; fail))
                clear hK K hHeld2
                (try simp only [Act.put, List.setIfInBounds_toArray, List.set_cons_zero, List.set_cons_succ])
                refine wpAnyH_ready (rs := [2]) (by kernel_rfl) (by simp) ?_
                refine AllReadyH.cons (o := ⟨some 53, _, _, _, _, _⟩) rfl (fun K hK => ?_) AllReadyH.nil
                go_simp
                have ja := L1.ints
                obtain ⟨j1, _, jq, _⟩ := ja
                (go_at_call 81; (with_reducible refine (rsub_at (jq.ci kq0) (j1.ci k1) hn5 hm1).mono ?_); rw [HQ1.out]; rintro e wb ⟨B2, m2, e2, rfl, d2, u2, v2, g2⟩)
                (try go_wp2_with fail)
                have L2 := (L1.call g2).add (CanAt.mk_ d2 u2 v2)
                clear p0 p1 p2 p3 p4 p5
                obtain ⟨⟨p4, p5⟩, ⟨p2, p3⟩, _, _, ⟨p0, p1⟩, _⟩ := L2.facts
                refine hK.out _ _ ?_ (fun hHeld4 => ?_)
                · ((try dsimp only); first | go_keep | (trace_state; fail))
                clear hK K hHeld3
                (try simp only [Act.put, List.setIfInBounds_toArray, List.set_cons_zero, List.set_cons_succ])
                refine wpAnyH_ready (rs := [5]) (by kernel_rfl) (by simp) ?_
                refine AllReadyH.cons (o := ⟨some 56, _, _, _, _, _⟩) rfl (fun K hK => ?_) AllReadyH.nil
                go_simp
                have jb := L2.ints
                obtain ⟨_, _, jr, _, jy, _⟩ := jb
                (go_at_call 82; (with_reducible refine (radd_at (jr.ci kr0) (jy.ci ky) hn6 hn2).mono ?_); rw [HR1.out]; rintro e wc ⟨B3, m3, e3, rfl, d3, u3, v3, g3⟩)
                (try go_wp2_with fail)
                have L3 := (L2.call g3).add (CanAt.mk_ d3 u3 v3)
                clear p0 p1 p2 p3 p4 p5
                obtain ⟨⟨p4, p5⟩, ⟨p2, p3⟩, _, _, ⟨p0, p1⟩, _⟩ := L3.facts
                obtain ⟨f0, f1⟩ := L3.free (i := 0) rfl
                obtain ⟨f2, f3⟩ := L3.free (i := 1) rfl
                refine hK.out _ _ ?_ (fun hHeld5 => ?_)
                · ((try dsimp only); first | go_keep | (trace_state; fail))
                clear hK K hHeld4
                (try simp only [Act.put, List.setIfInBounds_toArray, List.set_cons_zero, List.set_cons_succ])
                refine wpAnyH_ready (rs := [6]) (by kernel_rfl) (by simp) ?_
                refine AllReadyH.cons (o := ⟨none, _, _, _, _, _⟩) rfl (fun K hK => ?_) AllReadyH.nil
                go_simp
                refine hK.out _ _ ?_ (fun hHeld6 => ?_)
                · ((try dsimp only); first | go_keep | (trace_state; fail))
                clear hK K hHeld5
                (try simp only [Act.put, List.setIfInBounds_toArray, List.set_cons_zero, List.set_cons_succ])
                refine wpAnyH_ready (rs := [7]) (by kernel_rfl) (by simp) ?_
                refine AllReadyH.cons (o := ⟨none, _, _, _, _, _⟩) rfl (fun K hK => ?_) AllReadyH.nil
                go_simp
                refine hK.out _ _ ?_ (fun hHeld7 => ?_)
                · ((try dsimp only); first | go_keep | (trace_state; fail))
                clear hK K hHeld6
                (try simp only [Act.put, List.setIfInBounds_toArray, List.set_cons_zero, List.set_cons_succ])
                refine wpAnyH_done (by kernel_rfl) ?_ _
                go_wp2_with fail
                go_meet
                have KF := (L3.put 1 rfl (decide (q1 < 0)) B2 m2 e2).put 0 rfl (decide (r1 < 0)) B3 m3 e3
                simp only [List.set] at KF
                exact ⟨B2, m2, e2, B3, m3, e3, KF.ints_ ⟨KF.ints.1, KF.ints.2.1, trivial⟩⟩
              refine AllReadyH.cons (o := ⟨some 52, _, _, _, _, _⟩) rfl (fun K hK => ?_) ?_
              · skip
                go_simp
                (go_at_call 60; (with_reducible refine (rfromInt64_any 1 (by decide) (by decide) _).mono ?_); rintro e wa ⟨B1, m1, e1, rfl, d1, u1, v1, g1⟩)
                (try go_wp2_with fail)
                have L1 := (Kd.call g1).add (show CanAt wa false B1 m1 e1 1 from CanAt.mk_ d1 u1 v1)
                have hm1 : m1 ≤ 100000 := by rw [← d1.len]; exact Nat.le_trans (digs_length_le (k := 1) (by rw [BB_eq]; decide)) (by decide)
                clear p0 p1 p2 p3 p4 p5
                obtain ⟨⟨p4, p5⟩, ⟨p2, p3⟩, _, _, ⟨p0, p1⟩, _⟩ := L1.facts
                refine hK.out _ _ ?_ (fun hHeld1 => ?_)
                · ((try dsimp only); first | go_keep | (trace_state; fail))
                clear hK K hHeld0
                (try simp only [Act.put, List.setIfInBounds_toArray, List.set_cons_zero, List.set_cons_succ])
                refine wpAnyH_ready (rs := [0, 3]) (by kernel_rfl) (by simp) ?_
                refine AllReadyH.cons (o := ⟨some 51, _, _, _, _, _⟩) rfl (fun K hK => ?_) ?_
                · skip
                  go_simp
                  refine hK.out _ _ ?_ (fun hHeld2 => ?_)
                  · ((try dsimp only); first | go_keep | (trace_state; fail))
                  clear hK K hHeld1
                  (try simp only [Act.put, List.setIfInBounds_toArray, List.set_cons_zero, List.set_cons_succ])
                  refine wpAnyH_ready (rs := [2, 3]) (by kernel_rfl) (by simp) ?_
                  refine AllReadyH.cons (o := ⟨some 53, _, _, _, _, _⟩) rfl (fun K hK => ?_) ?_
                  · skip
                    go_simp
                    have ja := L1.ints
                    obtain ⟨j1, _, jq, _⟩ := ja
                    (go_at_call 81; (with_reducible refine (rsub_at (jq.ci kq0) (j1.ci k1) hn5 hm1).mono ?_); rw [HQ1.out]; rintro e wb ⟨B2, m2, e2, rfl, d2, u2, v2, g2⟩)
                    (try go_wp2_with fail)
                    have L2 := (L1.call g2).add (CanAt.mk_ d2 u2 v2)
                    clear p0 p1 p2 p3 p4 p5
                    obtain ⟨⟨p4, p5⟩, ⟨p2, p3⟩, _, _, ⟨p0, p1⟩, _⟩ := L2.facts
                    refine hK.out _ _ ?_ (fun hHeld3 => ?_)
                    · ((try dsimp only); first | go_keep | (trace_state; fail))
                    clear hK K hHeld2
                    (try simp only [Act.put, List.setIfInBounds_toArray, List.set_cons_zero, List.set_cons_succ])
                    refine wpAnyH_ready (rs := [3]) (by kernel_rfl) (by simp) ?_
                    refine AllReadyH.cons (o := ⟨some 54, _, _, _, _, _⟩) rfl (fun K hK => ?_) AllReadyH.nil
                    go_simp
                    refine hK.out _ _ ?_ (fun hHeld4 => ?_)
                    · ((try dsimp only); first | go_keep | (trace_state; fail))
                    clear hK K hHeld3
                    (try simp only [Act.put, List.setIfInBounds_toArray, List.set_cons_zero, List.set_cons_succ])
                    refine wpAnyH_ready (rs := [5]) (by kernel_rfl) (by simp) ?_
                    refine AllReadyH.cons (o := ⟨some 56, _, _, _, _, _⟩) rfl (fun K hK => ?_) AllReadyH.nil
                    go_simp
                    have jb := L2.ints
                    obtain ⟨_, _, jr, _, jy, _⟩ := jb
                    (go_at_call 82; (with_reducible refine (radd_at (jr.ci kr0) (jy.ci ky) hn6 hn2).mono ?_); rw [HR1.out]; rintro e wc ⟨B3, m3, e3, rfl, d3, u3, v3, g3⟩)
                    (try go_wp2_with fail)
                    have L3 := (L2.call g3).add (CanAt.mk_ d3 u3 v3)
                    clear p0 p1 p2 p3 p4 p5
                    obtain ⟨⟨p4, p5⟩, ⟨p2, p3⟩, _, _, ⟨p0, p1⟩, _⟩ := L3.facts
                    obtain ⟨f0, f1⟩ := L3.free (i := 0) rfl
                    obtain ⟨f2, f3⟩ := L3.free (i := 1) rfl
                    refine hK.out _ _ ?_ (fun hHeld5 => ?_)
                    · ((try dsimp only); first | go_keep | (trace_state; fail))
                    clear hK K hHeld4
                    (try simp only [Act.put, List.setIfInBounds_toArray, List.set_cons_zero, List.set_cons_succ])
                    refine wpAnyH_ready (rs := [6]) (by kernel_rfl) (by simp) ?_
                    refine AllReadyH.cons (o := ⟨none, _, _, _, _, _⟩) rfl (fun K hK => ?_) AllReadyH.nil
                    go_simp
                    refine hK.out _ _ ?_ (fun hHeld6 => ?_)
                    · ((try dsimp only); first | go_keep | (trace_state; fail))
                    clear hK K hHeld5
                    (try simp only [Act.put, List.setIfInBounds_toArray, List.set_cons_zero, List.set_cons_succ])
                    refine wpAnyH_ready (rs := [7]) (by kernel_rfl) (by simp) ?_
                    refine AllReadyH.cons (o := ⟨none, _, _, _, _, _⟩) rfl (fun K hK => ?_) AllReadyH.nil
                    go_simp
                    refine hK.out _ _ ?_ (fun hHeld7 => ?_)
                    · ((try dsimp only); first | go_keep | (trace_state; fail))
                    clear hK K hHeld6
                    (try simp only [Act.put, List.setIfInBounds_toArray, List.set_cons_zero, List.set_cons_succ])
                    refine wpAnyH_done (by kernel_rfl) ?_ _
                    go_wp2_with fail
                    go_meet
                    have KF := (L3.put 1 rfl (decide (q1 < 0)) B2 m2 e2).put 0 rfl (decide (r1 < 0)) B3 m3 e3
                    simp only [List.set] at KF
                    exact ⟨B2, m2, e2, B3, m3, e3, KF.ints_ ⟨KF.ints.1, KF.ints.2.1, trivial⟩⟩
                  refine AllReadyH.cons (o := ⟨some 54, _, _, _, _, _⟩) rfl (fun K hK => ?_) AllReadyH.nil
                  go_simp
                  refine hK.out _ _ ?_ (fun hHeld3 => ?_)
                  · ((try dsimp only); first | go_keep | (trace_state; fail))
                  clear hK K hHeld2
                  (try simp only [Act.put, List.setIfInBounds_toArray, List.set_cons_zero, List.set_cons_succ])
                  refine wpAnyH_ready (rs := [2]) (by kernel_rfl) (by simp) ?_
                  refine AllReadyH.cons (o := ⟨some 53, _, _, _, _, _⟩) rfl (fun K hK => ?_) AllReadyH.nil
                  go_simp
                  have ja := L1.ints
                  obtain ⟨j1, _, jq, _⟩ := ja
                  (go_at_call 81; (with_reducible refine (rsub_at (jq.ci kq0) (j1.ci k1) hn5 hm1).mono ?_); rw [HQ1.out]; rintro e wb ⟨B2, m2, e2, rfl, d2, u2, v2, g2⟩)
                  (try go_wp2_with fail)
                  have L2 := (L1.call g2).add (CanAt.mk_ d2 u2 v2)
                  clear p0 p1 p2 p3 p4 p5
                  obtain ⟨⟨p4, p5⟩, ⟨p2, p3⟩, _, _, ⟨p0, p1⟩, _⟩ := L2.facts
                  refine hK.out _ _ ?_ (fun hHeld4 => ?_)
                  · ((try dsimp only); first | go_keep | (trace_state; fail))
                  clear hK K hHeld3
                  (try simp only [Act.put, List.setIfInBounds_toArray, List.set_cons_zero, List.set_cons_succ])
                  refine wpAnyH_ready (rs := [5]) (by kernel_rfl) (by simp) ?_
                  refine AllReadyH.cons (o := ⟨some 56, _, _, _, _, _⟩) rfl (fun K hK => ?_) AllReadyH.nil
                  go_simp
                  have jb := L2.ints
                  obtain ⟨_, _, jr, _, jy, _⟩ := jb
                  (go_at_call 82; (with_reducible refine (radd_at (jr.ci kr0) (jy.ci ky) hn6 hn2).mono ?_); rw [HR1.out]; rintro e wc ⟨B3, m3, e3, rfl, d3, u3, v3, g3⟩)
                  (try go_wp2_with fail)
                  have L3 := (L2.call g3).add (CanAt.mk_ d3 u3 v3)
                  clear p0 p1 p2 p3 p4 p5
                  obtain ⟨⟨p4, p5⟩, ⟨p2, p3⟩, _, _, ⟨p0, p1⟩, _⟩ := L3.facts
                  obtain ⟨f0, f1⟩ := L3.free (i := 0) rfl
                  obtain ⟨f2, f3⟩ := L3.free (i := 1) rfl
                  refine hK.out _ _ ?_ (fun hHeld5 => ?_)
                  · ((try dsimp only); first | go_keep | (trace_state; fail))
                  clear hK K hHeld4
                  (try simp only [Act.put, List.setIfInBounds_toArray, List.set_cons_zero, List.set_cons_succ])
                  refine wpAnyH_ready (rs := [6]) (by kernel_rfl) (by simp) ?_
                  refine AllReadyH.cons (o := ⟨none, _, _, _, _, _⟩) rfl (fun K hK => ?_) AllReadyH.nil
                  go_simp
                  refine hK.out _ _ ?_ (fun hHeld6 => ?_)
                  · ((try dsimp only); first | go_keep | (trace_state; fail))
                  clear hK K hHeld5
                  (try simp only [Act.put, List.setIfInBounds_toArray, List.set_cons_zero, List.set_cons_succ])
                  refine wpAnyH_ready (rs := [7]) (by kernel_rfl) (by simp) ?_
                  refine AllReadyH.cons (o := ⟨none, _, _, _, _, _⟩) rfl (fun K hK => ?_) AllReadyH.nil
                  go_simp
                  refine hK.out _ _ ?_ (fun hHeld7 => ?_)
                  · ((try dsimp only); first | go_keep | (trace_state; fail))
                  clear hK K hHeld6
                  (try simp only [Act.put, List.setIfInBounds_toArray, List.set_cons_zero, List.set_cons_succ])
                  refine wpAnyH_done (by kernel_rfl) ?_ _
                  go_wp2_with fail
                  go_meet
                  have KF := (L3.put 1 rfl (decide (q1 < 0)) B2 m2 e2).put 0 rfl (decide (r1 < 0)) B3 m3 e3
                  simp only [List.set] at KF
                  exact ⟨B2, m2, e2, B3, m3, e3, KF.ints_ ⟨KF.ints.1, KF.ints.2.1, trivial⟩⟩
                refine AllReadyH.cons (o := ⟨some 54, _, _, _, _, _⟩) rfl (fun K hK => ?_) AllReadyH.nil
                go_simp
                refine hK.out _ _ ?_ (fun hHeld2 => ?_)
                · ((try dsimp only); first | go_keep | (trace_state; fail))
                clear hK K hHeld1
                (try simp only [Act.put, List.setIfInBounds_toArray, List.set_cons_zero, List.set_cons_succ])
                refine wpAnyH_ready (rs := [0]) (by kernel_rfl) (by simp) ?_
                refine AllReadyH.cons (o := ⟨some 51, _, _, _, _, _⟩) rfl (fun K hK => ?_) AllReadyH.nil
                go_simp
                refine hK.out _ _ ?_ (fun hHeld3 => ?_)
                · ((try dsimp only); first | go_keep | (trace_state; fail))
                clear hK K hHeld2
                (try simp only [Act.put, List.setIfInBounds_toArray, List.set_cons_zero, List.set_cons_succ])
                refine wpAnyH_ready (rs := [2]) (by kernel_rfl) (by simp) ?_
                refine AllReadyH.cons (o := ⟨some 53, _, _, _, _, _⟩) rfl (fun K hK => ?_) AllReadyH.nil
                go_simp
                have ja := L1.ints
                obtain ⟨j1, _, jq, _⟩ := ja
                (go_at_call 81; (with_reducible refine (rsub_at (jq.ci kq0) (j1.ci k1) hn5 hm1).mono ?_); rw [HQ1.out]; rintro e wb ⟨B2, m2, e2, rfl, d2, u2, v2, g2⟩)
                (try go_wp2_with fail)
                have L2 := (L1.call g2).add (CanAt.mk_ d2 u2 v2)
                clear p0 p1 p2 p3 p4 p5
                obtain ⟨⟨p4, p5⟩, ⟨p2, p3⟩, _, _, ⟨p0, p1⟩, _⟩ := L2.facts
                refine hK.out _ _ ?_ (fun hHeld4 => ?_)
                · ((try dsimp only); first | go_keep | (trace_state; fail))
                clear hK K hHeld3
                (try simp only [Act.put, List.setIfInBounds_toArray, List.set_cons_zero, List.set_cons_succ])
                refine wpAnyH_ready (rs := [5]) (by kernel_rfl) (by simp) ?_
                refine AllReadyH.cons (o := ⟨some 56, _, _, _, _, _⟩) rfl (fun K hK => ?_) AllReadyH.nil
                go_simp
                have jb := L2.ints
                obtain ⟨_, _, jr, _, jy, _⟩ := jb
                (go_at_call 82; (with_reducible refine (radd_at (jr.ci kr0) (jy.ci ky) hn6 hn2).mono ?_); rw [HR1.out]; rintro e wc ⟨B3, m3, e3, rfl, d3, u3, v3, g3⟩)
                (try go_wp2_with fail)
                have L3 := (L2.call g3).add (CanAt.mk_ d3 u3 v3)
                clear p0 p1 p2 p3 p4 p5
                obtain ⟨⟨p4, p5⟩, ⟨p2, p3⟩, _, _, ⟨p0, p1⟩, _⟩ := L3.facts
                obtain ⟨f0, f1⟩ := L3.free (i := 0) rfl
                obtain ⟨f2, f3⟩ := L3.free (i := 1) rfl
                refine hK.out _ _ ?_ (fun hHeld5 => ?_)
                · ((try dsimp only); first | go_keep | (trace_state; fail))
                clear hK K hHeld4
                (try simp only [Act.put, List.setIfInBounds_toArray, List.set_cons_zero, List.set_cons_succ])
                refine wpAnyH_ready (rs := [6]) (by kernel_rfl) (by simp) ?_
                refine AllReadyH.cons (o := ⟨none, _, _, _, _, _⟩) rfl (fun K hK => ?_) AllReadyH.nil
                go_simp
                refine hK.out _ _ ?_ (fun hHeld6 => ?_)
                · ((try dsimp only); first | go_keep | (trace_state; fail))
                clear hK K hHeld5
                (try simp only [Act.put, List.setIfInBounds_toArray, List.set_cons_zero, List.set_cons_succ])
                refine wpAnyH_ready (rs := [7]) (by kernel_rfl) (by simp) ?_
                refine AllReadyH.cons (o := ⟨none, _, _, _, _, _⟩) rfl (fun K hK => ?_) AllReadyH.nil
                go_simp
                refine hK.out _ _ ?_ (fun hHeld7 => ?_)
                · ((try dsimp only); first | go_keep | (trace_state; fail))
                clear hK K hHeld6
                (try simp only [Act.put, List.setIfInBounds_toArray, List.set_cons_zero, List.set_cons_succ])
                refine wpAnyH_done (by kernel_rfl) ?_ _
                go_wp2_with fail
                go_meet
                have KF := (L3.put 1 rfl (decide (q1 < 0)) B2 m2 e2).put 0 rfl (decide (r1 < 0)) B3 m3 e3
                simp only [List.set] at KF
                exact ⟨B2, m2, e2, B3, m3, e3, KF.ints_ ⟨KF.ints.1, KF.ints.2.1, trivial⟩⟩
              refine AllReadyH.cons (o := ⟨some 54, _, _, _, _, _⟩) rfl (fun K hK => ?_) AllReadyH.nil
              go_simp
              refine hK.out _ _ ?_ (fun hHeld1 => ?_)
              · ((try dsimp only); first | go_keep | (trace_state; fail))
              clear hK K hHeld0
              (try simp only [Act.put, List.setIfInBounds_toArray, List.set_cons_zero, List.set_cons_succ])
              refine wpAnyH_ready (rs := [0, 1]) (by kernel_rfl) (by simp) ?_
              refine AllReadyH.cons (o := ⟨some 51, _, _, _, _, _⟩) rfl (fun K hK => ?_) ?_
              · skip
                go_simp
                refine hK.out _ _ ?_ (fun hHeld2 => ?_)
                · ((try dsimp only); first | go_keep | (trace_state; fail))
                clear hK K hHeld1
                (try simp only [Act.put, List.setIfInBounds_toArray, List.set_cons_zero, List.set_cons_succ])
                refine wpAnyH_ready (rs := [1]) (by kernel_rfl) (by simp) ?_
                refine AllReadyH.cons (o := ⟨some 52, _, _, _, _, _⟩) rfl (fun K hK => ?_) AllReadyH.nil
                go_simp
                (go_at_call 60; (with_reducible refine (rfromInt64_any 1 (by decide) (by decide) _).mono ?_); rintro e wa ⟨B1, m1, e1, rfl, d1, u1, v1, g1⟩)
                (try go_wp2_with fail)
                have L1 := (Kd.call g1).add (show CanAt wa false B1 m1 e1 1 from CanAt.mk_ d1 u1 v1)
                have hm1 : m1 ≤ 100000 := by rw [← d1.len]; exact Nat.le_trans (digs_length_le (k := 1) (by rw [BB_eq]; decide)) (by decide)
                clear p0 p1 p2 p3 p4 p5
                obtain ⟨⟨p4, p5⟩, ⟨p2, p3⟩, _, _, ⟨p0, p1⟩, _⟩ := L1.facts
                refine hK.out _ _ ?_ (fun hHeld3 => ?_)
                · ((try dsimp only); first | go_keep | (trace_state; fail))
                clear hK K hHeld2
                (try simp only [Act.put, List.setIfInBounds_toArray, List.set_cons_zero, List.set_cons_succ])
                refine wpAnyH_ready (rs := [2]) (by kernel_rfl) (by simp) ?_
                refine AllReadyH.cons (o := ⟨some 53, _, _, _, _, _⟩) rfl (fun K hK => ?_) AllReadyH.nil
                go_simp
                have ja := L1.ints
                obtain ⟨j1, _, jq, _⟩ := ja
                (go_at_call 81; (with_reducible refine (rsub_at (jq.ci kq0) (j1.ci k1) hn5 hm1).mono ?_); rw [HQ1.out]; rintro e wb ⟨B2, m2, e2, rfl, d2, u2, v2, g2⟩)
                (try go_wp2_with fail)
                have L2 := (L1.call g2).add (CanAt.mk_ d2 u2 v2)
                clear p0 p1 p2 p3 p4 p5
                obtain ⟨⟨p4, p5⟩, ⟨p2, p3⟩, _, _, ⟨p0, p1⟩, _⟩ := L2.facts
                refine hK.out _ _ ?_ (fun hHeld4 => ?_)
                · ((try dsimp only); first | go_keep | (trace_state; fail))
                clear hK K hHeld3
                (try simp only [Act.put, List.setIfInBounds_toArray, List.set_cons_zero, List.set_cons_succ])
                refine wpAnyH_ready (rs := [5]) (by kernel_rfl) (by simp) ?_
                refine AllReadyH.cons (o := ⟨some 56, _, _, _, _, _⟩) rfl (fun K hK => ?_) AllReadyH.nil
                go_simp
                have jb := L2.ints
                obtain ⟨_, _, jr, _, jy, _⟩ := jb
                (go_at_call 82; (with_reducible refine (radd_at (jr.ci kr0) (jy.ci ky) hn6 hn2).mono ?_); rw [HR1.out]; rintro e wc ⟨B3, m3, e3, rfl, d3, u3, v3, g3⟩)
                (try go_wp2_with fail)
                have L3 := (L2.call g3).add (CanAt.mk_ d3 u3 v3)
                clear p0 p1 p2 p3 p4 p5
                obtain ⟨⟨p4, p5⟩, ⟨p2, p3⟩, _, _, ⟨p0, p1⟩, _⟩ := L3.facts
                obtain ⟨f0, f1⟩ := L3.free (i := 0) rfl
                obtain ⟨f2, f3⟩ := L3.free (i := 1) rfl
                refine hK.out _ _ ?_ (fun hHeld5 => ?_)
                · ((try dsimp only); first | go_keep | (trace_state; fail))
                clear hK K hHeld4
                (try simp only [Act.put, List.setIfInBounds_toArray, List.set_cons_zero, List.set_cons_succ])
                refine wpAnyH_ready (rs := [6]) (by kernel_rfl) (by simp) ?_
                refine AllReadyH.cons (o := ⟨none, _, _, _, _, _⟩) rfl (fun K hK => ?_) AllReadyH.nil
                go_simp
                refine hK.out _ _ ?_ (fun hHeld6 => ?_)
                · ((try dsimp only); first | go_keep | (trace_state; fail))
                clear hK K hHeld5
                (try simp only [Act.put, List.setIfInBounds_toArray, List.set_cons_zero, List.set_cons_succ])
                refine wpAnyH_ready (rs := [7]) (by kernel_rfl) (by simp) ?_
                refine AllReadyH.cons (o := ⟨none, _, _, _, _, _⟩) rfl (fun K hK => ?_) AllReadyH.nil
                go_simp
                refine hK.out _ _ ?_ (fun hHeld7 => ?_)
                · ((try dsimp only); first | go_keep | (trace_state; fail))
                clear hK K hHeld6
                (try simp only [Act.put, List.setIfInBounds_toArray, List.set_cons_zero, List.set_cons_succ])
                refine wpAnyH_done (by kernel_rfl) ?_ _
                go_wp2_with fail
                go_meet
                have KF := (L3.put 1 rfl (decide (q1 < 0)) B2 m2 e2).put 0 rfl (decide (r1 < 0)) B3 m3 e3
                simp only [List.set] at KF
                exact ⟨B2, m2, e2, B3, m3, e3, KF.ints_ ⟨KF.ints.1, KF.ints.2.1, trivial⟩⟩
              refine AllReadyH.cons (o := ⟨some 52, _, _, _, _, _⟩) rfl (fun K hK => ?_) AllReadyH.nil
              go_simp
              (go_at_call 60; (with_reducible refine (rfromInt64_any 1 (by decide) (by decide) _).mono ?_); rintro e wa ⟨B1, m1, e1, rfl, d1, u1, v1, g1⟩)
              (try go_wp2_with fail)
              have L1 := (Kd.call g1).add (show CanAt wa false B1 m1 e1 1 from CanAt.mk_ d1 u1 v1)
              have hm1 : m1 ≤ 100000 := by rw [← d1.len]; exact Nat.le_trans (digs_length_le (k := 1) (by rw [BB_eq]; decide)) (by decide)
              clear p0 p1 p2 p3 p4 p5
              obtain ⟨⟨p4, p5⟩, ⟨p2, p3⟩, _, _, ⟨p0, p1⟩, _⟩ := L1.facts
              refine hK.out _ _ ?_ (fun hHeld2 => ?_)
              · ((try dsimp only); first | go_keep | (trace_state; fail))
              clear hK K hHeld1
              (try simp only [Act.put, List.setIfInBounds_toArray, List.set_cons_zero, List.set_cons_succ])
              refine wpAnyH_ready (rs := [0]) (by kernel_rfl) (by simp) ?_
              refine AllReadyH.cons (o := ⟨some 51, _, _, _, _, _⟩) rfl (fun K hK => ?_) AllReadyH.nil
              go_simp
              refine hK.out _ _ ?_ (fun hHeld3 => ?_)
              · ((try dsimp only); first | go_keep | (trace_state; fail))
              clear hK K hHeld2
              (try simp only [Act.put, List.setIfInBounds_toArray, List.set_cons_zero, List.set_cons_succ])
              refine wpAnyH_ready (rs := [2]) (by kernel_rfl) (by simp) ?_
              refine AllReadyH.cons (o := ⟨some 53, _, _, _, _, _⟩) rfl (fun K hK => ?_) AllReadyH.nil
              go_simp
              have ja := L1.ints
              obtain ⟨j1, _, jq, _⟩ := ja
              (go_at_call 81; (with_reducible refine (rsub_at (jq.ci kq0) (j1.ci k1) hn5 hm1).mono ?_); rw [HQ1.out]; rintro e wb ⟨B2, m2, e2, rfl, d2, u2, v2, g2⟩)
              (try go_wp2_with fail)
              have L2 := (L1.call g2).add (CanAt.mk_ d2 u2 v2)
              clear p0 p1 p2 p3 p4 p5
              obtain ⟨⟨p4, p5⟩, ⟨p2, p3⟩, _, _, ⟨p0, p1⟩, _⟩ := L2.facts
              refine hK.out _ _ ?_ (fun hHeld4 => ?_)
              · ((try dsimp only); first | go_keep | (trace_state; fail))
              clear hK K hHeld3
              (try simp only [Act.put, List.setIfInBounds_toArray, List.set_cons_zero, List.set_cons_succ])
              refine wpAnyH_ready (rs := [5]) (by kernel_rfl) (by simp) ?_
              refine AllReadyH.cons (o := ⟨some 56, _, _, _, _, _⟩) rfl (fun K hK => ?_) AllReadyH.nil
              go_simp
              have jb := L2.ints
              obtain ⟨_, _, jr, _, jy, _⟩ := jb
              (go_at_call 82; (with_reducible refine (radd_at (jr.ci kr0) (jy.ci ky) hn6 hn2).mono ?_); rw [HR1.out]; rintro e wc ⟨B3, m3, e3, rfl, d3, u3, v3, g3⟩)
              (try go_wp2_with fail)
              have L3 := (L2.call g3).add (CanAt.mk_ d3 u3 v3)
              clear p0 p1 p2 p3 p4 p5
              obtain ⟨⟨p4, p5⟩, ⟨p2, p3⟩, _, _, ⟨p0, p1⟩, _⟩ := L3.facts
              obtain ⟨f0, f1⟩ := L3.free (i := 0) rfl
              obtain ⟨f2, f3⟩ := L3.free (i := 1) rfl
              refine hK.out _ _ ?_ (fun hHeld5 => ?_)
              · ((try dsimp only); first | go_keep | (trace_state; fail))
              clear hK K hHeld4
              (try simp only [Act.put, List.setIfInBounds_toArray, List.set_cons_zero, List.set_cons_succ])
              refine wpAnyH_ready (rs := [6]) (by kernel_rfl) (by simp) ?_
              refine AllReadyH.cons (o := ⟨none, _, _, _, _, _⟩) rfl (fun K hK => ?_) AllReadyH.nil
              go_simp
              refine hK.out _ _ ?_ (fun hHeld6 => ?_)
              · ((try dsimp only); first | go_keep | (trace_state; fail))
              clear hK K hHeld5
              (try simp only [Act.put, List.setIfInBounds_toArray, List.set_cons_zero, List.set_cons_succ])
              refine wpAnyH_ready (rs := [7]) (by kernel_rfl) (by simp) ?_
              refine AllReadyH.cons (o := ⟨none, _, _, _, _, _⟩) rfl (fun K hK => ?_) AllReadyH.nil
              go_simp
              refine hK.out _ _ ?_ (fun hHeld7 => ?_)
              · ((try dsimp only); first | go_keep | (trace_state; fail))
              clear hK K hHeld6
              (try simp only [Act.put, List.setIfInBounds_toArray, List.set_cons_zero, List.set_cons_succ])
              refine wpAnyH_done (by kernel_rfl) ?_ _
              go_wp2_with fail
              go_meet
              have KF := (L3.put 1 rfl (decide (q1 < 0)) B2 m2 e2).put 0 rfl (decide (r1 < 0)) B3 m3 e3
              simp only [List.set] at KF
              exact ⟨B2, m2, e2, B3, m3, e3, KF.ints_ ⟨KF.ints.1, KF.ints.2.1, trivial⟩⟩
            case rest =>
              clear Kd
              obtain ⟨A5, n5, c5, A6, n6, c6, K⟩ := hcut
              go_upto_region 8 with fail
              obtain ⟨y1, y2⟩ := K.ne 0 2 rfl rfl (by decide)
              obtain ⟨y3, y4⟩ := K.ne 0 3 rfl rfl (by decide)
              obtain ⟨y5, y6⟩ := K.ne 1 2 rfl rfl (by decide)
              obtain ⟨y7, y8⟩ := K.ne 1 3 rfl rfl (by decide)
              have HX := Lib.hid K
              clear K
              have KQ := HX.out
              skip
              obtain ⟨⟨t0, t1⟩, ⟨t2, t3⟩, ⟨t4, t5⟩, ⟨t6, t7⟩, _⟩ := KQ.facts
              obtain ⟨f0, f1⟩ := KQ.free (i := 2) rfl
              obtain ⟨f2, f3⟩ := KQ.free (i := 3) rfl
              have KF := ((KQ.put 3 rfl (decide (q1 < 0)) A5 n5 c5).put 2 rfl (decide (r1 < 0)) A6 n6 c6).drew
              simp only [List.set] at KF
              go_region
              all_goals
                go_wp2_with fail
              all_goals
                generalize (((((wc.setCell ⟨w.heap.size + 1 + 1, 0, none⟩ (.bool (decide (q1 < 0)))).setCell ⟨w.heap.size + 1 + 1, 1, none⟩ (.slice A5 n5 c5)).setCell ⟨w.heap.size + 1 + 1 + 1, 0, none⟩ (.bool (decide (r1 < 0)))).setCell ⟨w.heap.size + 1 + 1 + 1, 1, none⟩ (.slice A6 n6 c6))).drew = WF at KF ⊢
                obtain ⟨_, _, ⟨r2, r3⟩, ⟨r0', r1'⟩, _⟩ := KF.facts
                refine bodyPost_ret (v := .tuple #[.agg #[.bool (decide (q1 < 0)), .slice A5 n5 c5], .agg #[.bool (decide (r1 < 0)), .slice A6 n6 c6], .int .i64 0]) (by simp [results, Try.results55, go_sem, r0', r1', r2, r3]) rfl ?_
                rw [HM.out.1, HM.out.2, HE.out]
                exact RetM.of_st (KF.ints_ (k' := [(decide (r1 < 0), A6, n6, c6, r1, true), (decide (q1 < 0), A5, n5, c5, q1, true)]) ⟨KF.ints.1, KF.ints.2.1, trivial⟩)

end Go.Proofs.Ytgjkgmlcfieodaa

