/-
  How fractions are made, by the program.
-/
import Derived.Test.YtplmfdgdbolcaaaFrac4
set_option linter.unusedVariables false
set_option linter.unusedSimpArgs false
namespace Go.Proofs.Ytplmfdgdbolcaaa
open Go.RowKit

/-- A canonical pair and an error number. -/
def RetFE (w : World) (x y err : Int) (e : Ending) (w' : World) : Prop :=
  ∃ A n c A' n' c', e = .returned (.tuple #[.agg #[.bool (decide (x < 0)), .slice A n c, .bool (decide (y < 0)), .slice A' n' c'], .int .i64 err]) ∧
    CanAt w' (decide (x < 0)) A n c x ∧ CanAt w' (decide (y < 0)) A' n' c' y ∧ Below w.heap.size w w'
theorem RetFE.of_st {w0 w : World} {l : List (Nat × TypeId × List Value)} {k : List (Bool × Option Addr × Nat × Nat × Int × Bool)} {A A' : Option Addr} {n c n' c' : Nat} {x y err : Int}
    (h : St w0 w l ((decide (x < 0), A, n, c, x, true) :: (decide (y < 0), A', n', c', y, true) :: k)) : RetFE w0 x y err (.returned (.tuple #[.agg #[.bool (decide (x < 0)), .slice A n c, .bool (decide (y < 0)), .slice A' n' c'], .int .i64 err])) w :=
  ⟨A, n, c, A', n', c', rfl, h.ints.1.c, h.ints.2.1.c, h.below⟩
/-- What New returns: the zero value with the error 11 if the denominator is 0. -/
def nwN (z d : Int) : Int := if d = 0 then 0 else rn z d
def nwD (z d : Int) : Int := if d = 0 then 0 else rd z d
def nwE (d : Int) : Int := if d = 0 then 11 else 0

set_option maxHeartbeats 4000000 in
set_option maxRecDepth 100000 in
theorem new_at {w : World} {s s' : Bool} {A A' : Option Addr} {n c n' c' : Nat} {z d : Int} (h : IntAt w s A n c z) (h' : IntAt w s' A' n' c' d) (zz : Sz z 2000) (zd : Sz d 2000) :
    Calls Try.prog 50 #[.agg #[.bool s, .slice A n c], .agg #[.bool s', .slice A' n' c']] w (RetFE w (nwN z d) (nwD z d) (nwE d)) := by
  have H0 := (((((St.start w).addI h).addI h').new 24 (Plains.two s A n c)).new 24 (Plains.two s' A' n' c')).new 42 (Plains.four false none 0 0 false none 0 0)
  simp only [World.size_alloc] at H0
  have HH := Lib.hid H0
  clear H0 h h'
  obtain ⟨sg, HS⟩ : ∃ v, Hid (sgn d = v) := ⟨_, rfl⟩
  by_cases hd : d = 0
  · have HU : Hid (nwN z d = 0 ∧ nwD z d = 0 ∧ nwE d = 11) := by unfold Hid nwN nwD nwE; simp [hd]
    rw [HU.out.1, HU.out.2.1, HU.out.2.2]
    have hsg : Hid (sg = 0) := HS.out.symm.trans (cmpI_eq hd)
    clear hd
    go_enter Try.func50, Try.ntmps50
    go_upto_region 2 with (first
      | (go_at_call 84; have K := HH.out; clear HH; have ib := K.ints.1.i; (with_reducible refine (sign_at ib).mono ?_); rw [HS.out, hsg.out]; rintro e w1 ⟨rfl, g1⟩; have K1 := ((K.call g1).add (CanAt.zero_ _)).add (CanAt.zero_ _); clear ib K; obtain ⟨⟨q0, q1, q2, q3⟩, _⟩ := K1.facts; obtain ⟨f0, f1, f2, f3⟩ := K1.free (i := 0) rfl)
      | fail)
    have K4 := K1.put4 0 rfl false none 0 0 false none 0 0
    simp only [List.set] at K4
    obtain ⟨⟨r0, r1, r2, r3⟩, _⟩ := K4.facts
    go_wp2_with fail
    exact bodyPost_ret (v := .tuple #[.agg #[.bool (decide ((0 : Int) < 0)), .slice none 0 0, .bool (decide ((0 : Int) < 0)), .slice none 0 0], .int .i64 11]) (by simp [results, Try.results50, go_sem, r0, r1, r2, r3]) rfl (RetFE.of_st (x := 0) (y := 0) K4)
  · obtain ⟨x, HX⟩ : ∃ v, Hid (rn z d = v) := ⟨_, rfl⟩
    obtain ⟨y, HY⟩ : ∃ v, Hid (rd z d = v) := ⟨_, rfl⟩
    have HU : Hid (nwN z d = x ∧ nwD z d = y ∧ nwE d = 0) := by unfold Hid nwN nwD nwE; rw [if_neg hd, if_neg hd, if_neg hd]; exact ⟨HX.out, HY.out, rfl⟩
    rw [HU.out.1, HU.out.2.1, HU.out.2.2]
    have hsg : ((sg : Int) == 0) = false := by rw [← HS.out]; unfold sgn cmpI; simp; split <;> (try split) <;> omega
    clear hd
    go_enter Try.func50, Try.ntmps50
    go_upto_region 3 with (first
      | (go_at_call 84; have K := HH.out; clear HH; have ib := K.ints.1.i; (with_reducible refine (sign_at ib).mono ?_); rw [HS.out]; rintro e w1 ⟨rfl, g1⟩; have K1 := (K.call g1); clear ib K; obtain ⟨_, ⟨p0, p1⟩, ⟨p2, p3⟩, _⟩ := K1.facts; have ib := K1.ints.1.i; have ia := K1.ints.2.1.i)
      | fail)
    go_wp2_with (first
      | (go_at_call 121; (with_reducible refine (canonFrac_at ia ib zz zd).mono ?_); rw [HX.out, HY.out]; rintro e w2 ⟨A2, n2, c2, A3, n3, c3, rfl, d2, d3, g2⟩; have K2 := ((K1.call g2).add d3).add d2; obtain ⟨⟨q0, q1, q2, q3⟩, _⟩ := K2.facts; obtain ⟨f0, f1, f2, f3⟩ := K2.free (i := 0) rfl)
      | fail)
    have K4 := K2.put4 0 rfl (decide (x < 0)) A2 n2 c2 (decide (y < 0)) A3 n3 c3
    simp only [List.set] at K4
    obtain ⟨⟨r0, r1, r2, r3⟩, _⟩ := K4.facts
    exact bodyPost_ret (v := .tuple #[.agg #[.bool (decide (x < 0)), .slice A2 n2 c2, .bool (decide (y < 0)), .slice A3 n3 c3], .int .i64 0]) (by simp [results, Try.results50, go_sem, r0, r1, r2, r3]) rfl (RetFE.of_st K4)

theorem sz_i64 {x : Int} (h1 : -9223372036854775808 ≤ x) (h2 : x ≤ 9223372036854775807) : Sz x 2 := by
  unfold Sz
  rw [show BB ^ 2 = 18446744073709551616 from by rw [BB_eq]]
  omega
set_option maxHeartbeats 4000000 in
set_option maxRecDepth 100000 in
theorem fromInts_any (a b : Int) (ha1 : -9223372036854775808 ≤ a) (ha2 : a ≤ 9223372036854775807) (hb1 : -9223372036854775808 ≤ b) (hb2 : b ≤ 9223372036854775807) (w : World) :
    Calls Try.prog 52 #[.int .i64 a, .int .i64 b] w (RetFE w (nwN a b) (nwD a b) (nwE b)) := by
  have H0 := (St.start w).new 42 (Plains.four false none 0 0 false none 0 0)
  have HH := Lib.hid H0
  clear H0
  obtain ⟨x, HX⟩ : ∃ v, Hid (nwN a b = v) := ⟨_, rfl⟩
  obtain ⟨y, HY⟩ : ∃ v, Hid (nwD a b = v) := ⟨_, rfl⟩
  obtain ⟨er, HE⟩ : ∃ v, Hid (nwE b = v) := ⟨_, rfl⟩
  rw [HX.out, HY.out, HE.out]
  have za := (sz_i64 ha1 ha2).mono (show 2 ≤ 2000 by decide)
  have zb := (sz_i64 hb1 hb2).mono (show 2 ≤ 2000 by decide)
  have ka := za.ok
  have kb := zb.ok
  go_enter Try.func52, Try.ntmps52
  go_wp2_with (first
    | (go_at_call_of 81 (Value.int IntKind.i64 a); have K := HH.out; clear HH; (with_reducible refine (fromInt64_any a ha1 ha2 _).mono ?_); rintro e w1 ⟨A1, n1, c1, rfl, d1, u1, v1, g1⟩; have K1 := (K.call g1).add (CanAt.mk_ d1 u1 v1))
    | (go_at_call_of 81 (Value.int IntKind.i64 b); (with_reducible refine (fromInt64_any b hb1 hb2 _).mono ?_); rintro e w2 ⟨A2, n2, c2, rfl, d2, u2, v2, g2⟩; have K2 := (K1.call g2).add (CanAt.mk_ d2 u2 v2); have ib := K2.ints.1.ci kb; have ia := K2.ints.2.1.ci ka)
    | (go_at_call 50; (with_reducible refine (new_at ia ib za zb).mono ?_); rw [HX.out, HY.out, HE.out]; rintro e w3 ⟨A3, n3, c3, A4, n4, c4, rfl, d3, d4, g3⟩; have K3 := ((K2.call g3).add d4).add d3; obtain ⟨⟨q0, q1, q2, q3⟩, _⟩ := K3.facts; obtain ⟨f0, f1, f2, f3⟩ := K3.free (i := 0) rfl)
    | fail)
  have K4 := K3.put4 0 rfl (decide (x < 0)) A3 n3 c3 (decide (y < 0)) A4 n4 c4
  simp only [List.set] at K4
  obtain ⟨⟨r0, r1, r2, r3⟩, _⟩ := K4.facts
  exact bodyPost_ret (v := .tuple #[.agg #[.bool (decide (x < 0)), .slice A3 n3 c3, .bool (decide (y < 0)), .slice A4 n4 c4], .int .i64 er]) (by simp [results, Try.results52, go_sem, r0, r1, r2, r3]) rfl (RetFE.of_st K4)

set_option maxHeartbeats 4000000 in
set_option maxRecDepth 100000 in
theorem fromInt_at {w : World} {s : Bool} {A : Option Addr} {n c : Nat} {z : Int} (h : IntAt w s A n c z) (zz : Sz z 2000) :
    Calls Try.prog 54 #[.agg #[.bool s, .slice A n c]] w (RetFr w (rn z 1) (rd z 1)) := by
  have H0 := (((St.start w).addI h).new 24 (Plains.two s A n c)).new 42 (Plains.four false none 0 0 false none 0 0)
  simp only [World.size_alloc] at H0
  have HH := Lib.hid H0
  clear H0 h
  obtain ⟨x, HX⟩ : ∃ v, Hid (rn z 1 = v) := ⟨_, rfl⟩
  obtain ⟨y, HY⟩ : ∃ v, Hid (rd z 1 = v) := ⟨_, rfl⟩
  rw [HX.out, HY.out]
  have z1 : Sz 1 2000 := (sz_i64 (x := 1) (by decide) (by decide)).mono (by decide)
  have k1 := z1.ok
  go_enter Try.func54, Try.ntmps54
  go_upto_region 1 with fail
  have Kd := HH.out.drew
  clear HH
  obtain ⟨_, ⟨p0, p1⟩, _⟩ := Kd.facts
  go_region_held3 (fun w' => w'.cell? ⟨w.heap.size, 0, none⟩ = some (.bool s) ∧ w'.cell? ⟨w.heap.size, 1, none⟩ = some (.slice A n c))
    (go_keep)
    (first
      | (go_at_call 81; (with_reducible refine (fromInt64_any 1 (by decide) (by decide) _).mono ?_); rintro e w3 ⟨A3, n3, c3, rfl, d3, u3, v3, g3⟩; have K3 := (Kd.call g3).add (show CanAt w3 false A3 n3 c3 1 from CanAt.mk_ d3 u3 v3); clear p0 p1; obtain ⟨_, ⟨p0, p1⟩, _⟩ := K3.facts; have ib := K3.ints.1.ci k1; have ia := K3.ints.2.1.i)
      | (go_at_call 121; (with_reducible refine (canonFrac_at ia ib zz z1).mono ?_); rw [HX.out, HY.out]; rintro e w4 ⟨A4, n4, c4, A5, n5, c5, rfl, d4, d5, g4⟩; have K4 := ((K3.call g4).add d5).add d4; clear p0 p1; obtain ⟨⟨q0, q1, q2, q3⟩, ⟨p0, p1⟩, _⟩ := K4.facts; obtain ⟨f0, f1, f2, f3⟩ := K4.free (i := 0) rfl)
      | fail)
  have K5 := K4.put4 0 rfl (decide (x < 0)) A4 n4 c4 (decide (y < 0)) A5 n5 c5
  simp only [List.set] at K5
  obtain ⟨⟨r0, r1, r2, r3⟩, _⟩ := K5.facts
  go_wp2_with fail
  exact bodyPost_ret (v := .agg #[.bool (decide (x < 0)), .slice A4 n4 c4, .bool (decide (y < 0)), .slice A5 n5 c5]) (by simp [results, Try.results54, go_sem, r0, r1, r2, r3]) rfl (RetFr.of_st K5)
end Go.Proofs.Ytplmfdgdbolcaaa
