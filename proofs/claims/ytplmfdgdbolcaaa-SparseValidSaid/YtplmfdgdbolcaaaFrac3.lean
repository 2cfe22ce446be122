/-
  Positive denominators, and the canonical form of a fraction, by the program.
-/
import Derived.Test.YtplmfdgdbolcaaaFrac2
set_option linter.unusedVariables false
set_option linter.unusedSimpArgs false
namespace Go.Proofs.Ytplmfdgdbolcaaa
open Go.RowKit

/-- A fraction with a positive denominator of the same value, which may share memory. -/
def RetUp (w : World) (x y : Int) (e : Ending) (w' : World) : Prop :=
  ∃ s A n c s' A' n' c', e = .returned (.agg #[.bool s, .slice A n c, .bool s', .slice A' n' c']) ∧ IntAt w' s A n c x ∧ IntAt w' s' A' n' c' y ∧ Below w.heap.size w w'
theorem IntAt.nul (w : World) : IntAt w false none 0 0 0 := IntAt.zero (by simp [digs_zero]; exact Dgs.none_) (Nat.le_refl _) (Nat.zero_le _)
set_option maxHeartbeats 4000000 in
set_option maxRecDepth 100000 in
theorem upright_at {w : World} {s s' : Bool} {A A' : Option Addr} {n c n' c' : Nat} {z d : Int} (h : IntAt w s A n c z) (h' : IntAt w s' A' n' c' d) (kz : (digs z.natAbs).length ≤ 1000000) (kd : (digs d.natAbs).length ≤ 1000000) :
    Calls Try.prog 119 #[.agg #[.bool s, .slice A n c, .bool s', .slice A' n' c']] w (RetUp w (un z d) (ud z d)) := by
  have H0 := ((((St.start w).addI h).addI h').new 42 (Plains.four s A n c s' A' n' c')).new 42 (Plains.four false none 0 0 false none 0 0)
  simp only [World.size_alloc] at H0
  have HH := Lib.hid H0
  clear H0 h h'
  obtain ⟨sg, HS⟩ : ∃ v, Hid (sgn d = v) := ⟨_, rfl⟩
  rcases Int.lt_trichotomy d 0 with hd | hd | hd
  · have HU : Hid (un z d = -z ∧ ud z d = -d) := ⟨un_neg hd, ud_neg hd⟩
    rw [HU.out.1, HU.out.2]
    have hsg : Hid (sg = -1) := HS.out.symm.trans (cmpI_lt hd)
    have HZ : Hid ((digs (-z).natAbs).length ≤ 1000000) := by unfold Hid; rw [Int.natAbs_neg]; exact kz
    have HD : Hid ((digs (-d).natAbs).length ≤ 1000000) := by unfold Hid; rw [Int.natAbs_neg]; exact kd
    obtain ⟨z', HZ'⟩ : ∃ v, Hid (-z = v) := ⟨_, rfl⟩
    obtain ⟨d', HD'⟩ : ∃ v, Hid (-d = v) := ⟨_, rfl⟩
    rw [HZ'.out, HD'.out]
    rw [HZ'.out] at HZ
    rw [HD'.out] at HD
    clear hd
    go_enter Try.func119, Try.ntmps119
    go_upto_region 5 with (first
      | (go_at_call 84; have K := HH.out; clear HH; obtain ⟨ib, ia, _⟩ := K.ints; (with_reducible refine (sign_at ib.i).mono ?_); rw [HS.out, hsg.out]; rintro e w1 ⟨rfl, g1⟩; have K1 := K.call g1; obtain ⟨_, ⟨p0, p1, p2, p3⟩, _⟩ := K1.facts)
      | fail)
    have Kd := K1.drew
    clear K K1 ia ib p0 p1 p2 p3 g1
    obtain ⟨_, ⟨p0, p1, p2, p3⟩, _⟩ := Kd.facts
    obtain ⟨ib, ia, _⟩ := Kd.ints
    obtain ⟨z1, z2⟩ := Kd.ne 0 1 rfl rfl (by decide)
    go_region_held3 (fun w' => w'.cell? ⟨w.heap.size, 0, none⟩ = some (.bool s) ∧ w'.cell? ⟨w.heap.size, 1, none⟩ = some (.slice A n c) ∧ w'.cell? ⟨w.heap.size, 2, none⟩ = some (.bool s') ∧ w'.cell? ⟨w.heap.size, 3, none⟩ = some (.slice A' n' c'))
      (go_keep)
      (first
        | (go_at_call_of 122 (Value.agg #[Value.bool s, Value.slice A n c]); (with_reducible refine (negate_at ia.i).mono ?_); rw [HZ'.out]; rintro e w2 ⟨A2, n2, c2, rfl, d2, u2, v2, g2⟩; have K2 := (Kd.call g2).add (CanAt.mk_ d2 u2 v2); clear p0 p1 p2 p3; obtain ⟨_, ⟨p0, p1, p2, p3⟩, _⟩ := K2.facts; obtain ⟨_, jb, _⟩ := K2.ints)
        | (go_at_call_of 122 (Value.agg #[Value.bool s', Value.slice A' n' c']); (with_reducible refine (negate_at jb.i).mono ?_); rw [HD'.out]; rintro e w3 ⟨A3, n3, c3, rfl, d3, u3, v3, g3⟩; have K3 := (K2.call g3).add (CanAt.mk_ d3 u3 v3); clear p0 p1 p2 p3; obtain ⟨⟨q0, q1, q2, q3⟩, ⟨p0, p1, p2, p3⟩, _⟩ := K3.facts; obtain ⟨f0, f1, f2, f3⟩ := K3.free (i := 0) rfl)
        | fail)
    have K4 := K3.put4 0 rfl (decide (z' < 0)) A2 n2 c2 (decide (d' < 0)) A3 n3 c3
    simp only [List.set] at K4
    obtain ⟨⟨r0, r1, r2, r3⟩, _⟩ := K4.facts
    go_wp2_with fail
    refine bodyPost_ret (v := .agg #[.bool (decide (z' < 0)), .slice A2 n2 c2, .bool (decide (d' < 0)), .slice A3 n3 c3]) (by simp [results, Try.results119, go_sem, r0, r1, r2, r3]) rfl ?_
    exact ⟨_, A2, n2, c2, _, A3, n3, c3, rfl, K4.ints.2.1.ci HZ.out, K4.ints.1.ci HD.out, K4.below⟩
  · have HU : Hid (un z d = 0 ∧ ud z d = 1) := by subst hd; exact ⟨un_zero z, ud_zero z⟩
    rw [HU.out.1, HU.out.2]
    have hsg : Hid (sg = 0) := HS.out.symm.trans (cmpI_eq hd)
    clear hd
    go_enter Try.func119, Try.ntmps119
    go_upto_region 3 with (first
      | (go_at_call 84; have K := HH.out; clear HH; obtain ⟨ib, ia, _⟩ := K.ints; (with_reducible refine (sign_at ib.i).mono ?_); rw [HS.out, hsg.out]; rintro e w1 ⟨rfl, g1⟩; have K1 := K.call g1; obtain ⟨_, ⟨p0, p1, p2, p3⟩, _⟩ := K1.facts)
      | fail)
    clear K ia ib p0 p1 p2 p3 g1
    go_wp2_with (first
      | (go_at_call 81; (with_reducible refine (fromInt64_any 1 (by decide) (by decide) _).mono ?_); rintro e w3 ⟨A3, n3, c3, rfl, d3, u3, v3, g3⟩; have K3 := (K1.call g3).add (show CanAt w3 false A3 n3 c3 1 from CanAt.mk_ d3 u3 v3); obtain ⟨⟨q0, q1, q2, q3⟩, _⟩ := K3.facts; obtain ⟨f0, f1, f2, f3⟩ := K3.free (i := 0) rfl)
      | fail)
    have K4 := K3.put4 0 rfl false none 0 0 false A3 n3 c3
    simp only [List.set] at K4
    obtain ⟨⟨r0, r1, r2, r3⟩, _⟩ := K4.facts
    refine bodyPost_ret (v := .agg #[.bool false, .slice none 0 0, .bool false, .slice A3 n3 c3]) (by simp [results, Try.results119, go_sem, r0, r1, r2, r3]) rfl ?_
    exact ⟨_, none, 0, 0, _, A3, n3, c3, rfl, IntAt.nul _, K4.ints.1.ci (by rw [digs_pos (by decide)]; simp [digs_zero, BB_eq]), K4.below⟩
  · have HU : Hid (un z d = z ∧ ud z d = d) := ⟨un_pos hd, ud_pos_ hd⟩
    rw [HU.out.1, HU.out.2]
    have hsg : Hid (sg = 1) := HS.out.symm.trans (cmpI_gt hd)
    clear hd
    go_enter Try.func119, Try.ntmps119
    go_upto_region 6 with (first
      | (go_at_call 84; have K := HH.out; clear HH; obtain ⟨ib, ia, _⟩ := K.ints; (with_reducible refine (sign_at ib.i).mono ?_); rw [HS.out, hsg.out]; rintro e w1 ⟨rfl, g1⟩; have K1 := K.call g1; obtain ⟨⟨q0, q1, q2, q3⟩, ⟨p0, p1, p2, p3⟩, _⟩ := K1.facts; obtain ⟨f0, f1, f2, f3⟩ := K1.free (i := 0) rfl)
      | fail)
    have K4 := K1.put4 0 rfl s A n c s' A' n' c'
    simp only [List.set] at K4
    obtain ⟨⟨r0, r1, r2, r3⟩, _⟩ := K4.facts
    go_wp2_with fail
    refine bodyPost_ret (v := .agg #[.bool s, .slice A n c, .bool s', .slice A' n' c']) (by simp [results, Try.results119, go_sem, r0, r1, r2, r3]) rfl ?_
    exact ⟨_, A, n, c, _, A', n', c', rfl, K4.ints.2.1.i, K4.ints.1.i, K4.below⟩
end Go.Proofs.Ytplmfdgdbolcaaa
