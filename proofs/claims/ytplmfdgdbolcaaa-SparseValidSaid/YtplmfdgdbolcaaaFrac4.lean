/-
  The canonical form of a fraction, and how fractions are made, by the program.
-/
import Derived.Test.YtplmfdgdbolcaaaFrac3
set_option linter.unusedVariables false
set_option linter.unusedSimpArgs false
namespace Go.Proofs.Ytplmfdgdbolcaaa
open Go.RowKit

theorem RetFr.of_st {w0 w : World} {l : List (Nat × TypeId × List Value)} {k : List (Bool × Option Addr × Nat × Nat × Int × Bool)} {A A' : Option Addr} {n c n' c' : Nat} {x y : Int}
    (h : St w0 w l ((decide (x < 0), A, n, c, x, true) :: (decide (y < 0), A', n', c', y, true) :: k)) : RetFr w0 x y (.returned (.agg #[.bool (decide (x < 0)), .slice A n c, .bool (decide (y < 0)), .slice A' n' c'])) w :=
  ⟨A, n, c, A', n', c', rfl, h.ints.1.c, h.ints.2.1.c, h.below⟩

set_option maxHeartbeats 8000000 in
set_option maxRecDepth 100000 in
theorem canonFrac_at {w : World} {s s' : Bool} {A A' : Option Addr} {n c n' c' : Nat} {z d : Int} (h : IntAt w s A n c z) (h' : IntAt w s' A' n' c' d) (zz : Sz z 2000) (zd : Sz d 2000) :
    Calls Try.prog 121 #[.agg #[.bool s, .slice A n c, .bool s', .slice A' n' c']] w (RetFr w (rn z d) (rd z d)) := by
  have H0 := ((((St.start w).addI h).addI h').new 42 (Plains.four s A n c s' A' n' c')).new 42 (Plains.four false none 0 0 false none 0 0)
  simp only [World.size_alloc] at H0
  have HH := Lib.hid H0
  clear H0 h h'
  obtain ⟨x, HX⟩ : ∃ v, Hid (rn z d = v) := ⟨_, rfl⟩
  obtain ⟨y, HY⟩ : ∃ v, Hid (rd z d = v) := ⟨_, rfl⟩
  by_cases hw : (-9223372036854775807 ≤ z ∧ z ≤ 9223372036854775807) ∧ (-9223372036854775807 ≤ d ∧ d ≤ 9223372036854775807)
  · obtain ⟨⟨hz1, hz2⟩, hd1, hd2⟩ := hw
    obtain ⟨u, HU⟩ : ∃ v, Hid (un z d = v) := ⟨_, rfl⟩
    obtain ⟨t, HT⟩ : ∃ v, Hid (ud z d = v) := ⟨_, rfl⟩
    obtain ⟨G, HG⟩ : ∃ v, Hid (((Int.gcd u t : Nat) : Int) = v) := ⟨_, rfl⟩
    have HX2 : Hid (u / G = x) := by unfold Hid; rw [← HX.out, ← HG.out, ← HU.out, ← HT.out]; rfl
    have HY2 : Hid (t / G = y) := by unfold Hid; rw [← HY.out, ← HG.out, ← HU.out, ← HT.out]; rfl
    have ht : 0 < t := by rw [← HT.out]; exact ud_pos z d
    have hu1 : -9223372036854775807 ≤ u ∧ u ≤ 9223372036854775807 := by have := un_abs z d; rw [HU.out] at this; omega
    have ht1 : t ≤ 9223372036854775807 := by
      rw [← HT.out]; unfold ud; split <;> (try split) <;> omega
    rw [HX.out, HY.out]
    go_enter Try.func121, Try.ntmps121
    go_upto_region 3 with (first
      | (go_at_call 158; have K := HH.out; clear HH; have ib := K.ints.1.i; have ia := K.ints.2.1.i; (with_reducible refine (words_yes ia ib (by decide) (by decide) hz1 hz2 hd1 hd2).mono ?_); rw [HU.out, HT.out]; rintro e w1 ⟨rfl, g1⟩; have K1 := K.call g1; clear ia ib)
      | fail)
    clear K
    go_wp2_with (first
      | (go_at_call 159; (with_reducible refine (fromWords_any u t G ht hu1.1 hu1.2 ht1 HG.out _).mono ?_); rw [HX2.out, HY2.out]; rintro e w2 ⟨A2, n2, c2, A3, n3, c3, rfl, d2, d3, g2⟩; have K2 := ((K1.call g2).add d3).add d2; obtain ⟨⟨q0, q1, q2, q3⟩, _⟩ := K2.facts; obtain ⟨f0, f1, f2, f3⟩ := K2.free (i := 0) rfl)
      | fail)
    have K4 := K2.put4 0 rfl (decide (x < 0)) A2 n2 c2 (decide (y < 0)) A3 n3 c3
    simp only [List.set] at K4
    obtain ⟨⟨r0, r1, r2, r3⟩, _⟩ := K4.facts
    exact bodyPost_ret (v := .agg #[.bool (decide (x < 0)), .slice A2 n2 c2, .bool (decide (y < 0)), .slice A3 n3 c3]) (by simp [results, Try.results121, go_sem, r0, r1, r2, r3]) rfl (RetFr.of_st K4)
  · have hn : Out z 9223372036854775807 ∨ Out d 9223372036854775807 := by unfold Out; omega
    clear hw
    obtain ⟨u, HU⟩ : ∃ v, Hid (un z d = v) := ⟨_, rfl⟩
    obtain ⟨t, HT⟩ : ∃ v, Hid (ud z d = v) := ⟨_, rfl⟩
    obtain ⟨G, HG⟩ : ∃ v, Hid (((Int.gcd u t : Nat) : Int) = v) := ⟨_, rfl⟩
    have HX2 : Hid (dmQ u G = x) := by unfold Hid; rw [← HX.out, ← HG.out, ← HU.out, ← HT.out]; exact rn_dm z d
    have HY2 : Hid (dmQ t G = y) := by unfold Hid; rw [← HY.out, ← HG.out, ← HU.out, ← HT.out]; exact rd_dm z d
    rw [HX.out, HY.out]
    have kz := zz.ok
    have kd := zd.ok
    have kg : (digs G.natAbs).length ≤ 1000000 := by
      rw [← HG.out, Int.natAbs_natCast, ← HT.out]
      have h1 : Int.gcd u (ud z d) ≤ (ud z d).natAbs := Nat.le_of_dvd (by have := ud_pos z d; omega) (Int.gcd_dvd_natAbs_right ..)
      have h2 : Sz (ud z d) 2001 := by
        have h3 := ud_abs z d
        have h4 : Sz ((d.natAbs : Int) + 1) 2001 := Sz.add (x := (d.natAbs : Int)) (by show (d.natAbs : Int).natAbs < _; rw [Int.natAbs_natCast]; exact zd) (Sz.mono (k := 1) (by show (1 : Int).natAbs < BB ^ 1; rw [BB_eq]; decide) (by decide))
        exact h4.le (by omega)
      have h3 : Sz ((Int.gcd u (ud z d) : Nat) : Int) 2001 := h2.le (by rw [Int.natAbs_natCast]; exact h1)
      have := h3.ok
      rwa [Int.natAbs_natCast] at this
    go_enter Try.func121, Try.ntmps121
    go_upto_region 4 with (first
      | (go_at_call 158; have K := HH.out; clear HH; have ib := K.ints.1.i; have ia := K.ints.2.1.i; (with_reducible refine (words_no ia ib (by decide) (by decide) hn).mono ?_); rintro e w1 ⟨rfl, g1⟩; have K1 := K.call g1; clear ia ib)
      | fail)
    clear K
    obtain ⟨_, ⟨p0, p1, p2, p3⟩, _⟩ := K1.facts
    have ib := K1.ints.1.i
    have ia := K1.ints.2.1.i
    go_upto_region 5 with (first
      | (go_at_call 119; (with_reducible refine (upright_at ia ib kz kd).mono ?_); rw [HU.out, HT.out]; rintro e w2 ⟨s2, A2, n2, c2, s3, A3, n3, c3, rfl, d2, d3, g2⟩; have K2 := ((K1.call g2).addI d3).addI d2; clear p0 p1 p2 p3; obtain ⟨_, ⟨p0, p1, p2, p3⟩, _⟩ := K2.facts; obtain ⟨f0, f1, f2, f3⟩ := K2.free (i := 1) rfl)
      | fail)
    have K4 := K2.put4 1 rfl s2 A2 n2 c2 s3 A3 n3 c3
    simp only [List.set] at K4
    clear K1 K2 p0 p1 p2 p3 f0 f1 f2 f3 ia ib d2 d3 g2 g1
    generalize ((((w2.setCell ⟨w.heap.size, 0, none⟩ (.bool s2)).setCell ⟨w.heap.size, 1, none⟩ (.slice A2 n2 c2)).setCell ⟨w.heap.size, 2, none⟩ (.bool s3)).setCell ⟨w.heap.size, 3, none⟩ (.slice A3 n3 c3)) = W4 at K4 ⊢
    obtain ⟨_, ⟨p0, p1, p2, p3⟩, _⟩ := K4.facts
    have ia := K4.ints.1.i
    have ib := K4.ints.2.1.i
    go_upto_region 6 with (first
      | (go_at_call 19; (with_reducible refine (gcd_at ia ib).mono ?_); rw [HG.out]; rintro e w5 ⟨A5, n5, c5, rfl, d5, u5, v5, g5⟩; have K5 := ((K4.call g5).add (CanAt.mk_ d5 u5 v5)).new 24 (Plains.two (decide (G < 0)) A5 n5 c5))
      | fail)
    clear K4 ia ib p0 p1 p2 p3 d5 g5
    generalize w5.alloc (.cells #[.bool (decide (G < 0)), .slice A5 n5 c5] 24) = W5 at K5 ⊢
    generalize w5.heap.size = h6 at K5 ⊢
    have Kd := K5.drew
    clear K5
    obtain ⟨⟨q0, q1⟩, _, ⟨p0, p1, p2, p3⟩, _⟩ := Kd.facts
    have ig := Kd.ints.1.ci kg
    have ia := Kd.ints.2.1.i
    obtain ⟨z1, z2⟩ := Kd.ne 0 1 rfl rfl (by decide)
    obtain ⟨z3, z4⟩ := Kd.ne 1 2 rfl rfl (by decide)
    go_region_held3 (fun w' => w'.cell? ⟨h6, 0, none⟩ = some (.bool (decide (G < 0))) ∧ w'.cell? ⟨h6, 1, none⟩ = some (.slice A5 n5 c5) ∧ w'.cell? ⟨w.heap.size, 0, none⟩ = some (.bool s2) ∧ w'.cell? ⟨w.heap.size, 1, none⟩ = some (.slice A2 n2 c2) ∧ w'.cell? ⟨w.heap.size, 2, none⟩ = some (.bool s3) ∧ w'.cell? ⟨w.heap.size, 3, none⟩ = some (.slice A3 n3 c3))
      (go_keep)
      (first
        | (go_at_call_of 127 (Value.agg #[Value.bool s2, Value.slice A2 n2 c2]); (with_reducible refine (quotient_at ia ig).mono ?_); rw [HX2.out]; rintro e w7 ⟨A7, n7, c7, rfl, d7, u7, v7, g7⟩; have K7 := (Kd.call g7).add (CanAt.mk_ d7 u7 v7); clear p0 p1 p2 p3 q0 q1; obtain ⟨⟨q0, q1⟩, _, ⟨p0, p1, p2, p3⟩, _⟩ := K7.facts; have jg := K7.ints.2.1.ci kg; have jb := K7.ints.2.2.2.1.i)
        | (go_at_call_of 127 (Value.agg #[Value.bool s3, Value.slice A3 n3 c3]); (with_reducible refine (quotient_at jb jg).mono ?_); rw [HY2.out]; rintro e w8 ⟨A8, n8, c8, rfl, d8, u8, v8, g8⟩; have K8 := (K7.call g8).add (CanAt.mk_ d8 u8 v8); clear p0 p1 p2 p3 q0 q1; obtain ⟨⟨q0, q1⟩, ⟨r0, r1, r2, r3⟩, ⟨p0, p1, p2, p3⟩, _⟩ := K8.facts; obtain ⟨f0, f1, f2, f3⟩ := K8.free (i := 1) rfl)
        | fail)
    have K9 := K8.put4 1 rfl (decide (x < 0)) A7 n7 c7 (decide (y < 0)) A8 n8 c8
    simp only [List.set] at K9
    clear r0 r1 r2 r3
    obtain ⟨_, ⟨r0, r1, r2, r3⟩, _⟩ := K9.facts
    go_wp2_with fail
    refine bodyPost_ret (v := .agg #[.bool (decide (x < 0)), .slice A7 n7 c7, .bool (decide (y < 0)), .slice A8 n8 c8]) (by simp [results, Try.results121, go_sem, r0, r1, r2, r3]) rfl ?_
    exact ⟨A7, n7, c7, A8, n8, c8, rfl, K9.ints.2.1.c, K9.ints.1.c, K9.below⟩
end Go.Proofs.Ytplmfdgdbolcaaa
