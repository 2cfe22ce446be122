/-
  The sum of two fractions, by the program.
-/
import Derived.Test.YtplmfdgdbolcaaaFrac6
set_option linter.unusedVariables false
set_option linter.unusedSimpArgs false
namespace Go.Proofs.Ytplmfdgdbolcaaa
open Go.RowKit

def okB (z d M : Int) : Bool := decide ((-M ≤ z ∧ z ≤ M) ∧ (-M ≤ d ∧ d ≤ M))
def wX (z d M : Int) : Int := if okB z d M then un z d else 0
def wY (z d M : Int) : Int := if okB z d M then ud z d else 0
theorem words_at {w : World} {s s' : Bool} {A A' : Option Addr} {n c n' c' : Nat} {z d M : Int} (h : IntAt w s A n c z) (h' : IntAt w s' A' n' c' d) (h0 : 0 ≤ M) (h1 : M ≤ 9223372036854775807) :
    Calls Try.prog 158 #[.agg #[.bool s, .slice A n c, .bool s', .slice A' n' c'], .int .i64 M] w (RetWd w (wX z d M) (wY z d M) (okB z d M)) := by
  by_cases hk : (-M ≤ z ∧ z ≤ M) ∧ (-M ≤ d ∧ d ≤ M)
  · have e : okB z d M = true := by unfold okB; simpa using hk
    unfold wX wY
    rw [e, if_pos rfl, if_pos rfl]
    exact words_yes h h' h0 h1 hk.1.1 hk.1.2 hk.2.1 hk.2.2
  · have e : okB z d M = false := by unfold okB; simpa using hk
    unfold wX wY
    rw [e, if_neg (by decide), if_neg (by decide)]
    exact words_no h h' h0 h1 (by unfold Out; omega)

/-- What addWords returns. -/
def RetAW (w : World) (x y : Int) (b : Bool) (e : Ending) (w' : World) : Prop :=
  ∃ A n c A' n' c', e = .returned (.tuple #[.agg #[.bool (decide (x < 0)), .slice A n c, .bool (decide (y < 0)), .slice A' n' c'], .bool b]) ∧
    CanAt w' (decide (x < 0)) A n c x ∧ CanAt w' (decide (y < 0)) A' n' c' y ∧ Below w.heap.size w w'
theorem RetAW.of_st {w0 w : World} {l : List (Nat × TypeId × List Value)} {k : List (Bool × Option Addr × Nat × Nat × Int × Bool)} {A A' : Option Addr} {n c n' c' : Nat} {x y : Int} {b : Bool}
    (h : St w0 w l ((decide (x < 0), A, n, c, x, true) :: (decide (y < 0), A', n', c', y, true) :: k)) : RetAW w0 x y b (.returned (.tuple #[.agg #[.bool (decide (x < 0)), .slice A n c, .bool (decide (y < 0)), .slice A' n' c'], .bool b])) w :=
  ⟨A, n, c, A', n', c', rfl, h.ints.1.c, h.ints.2.1.c, h.below⟩

theorem mul_in {a b M : Int} (h1 : -M ≤ a) (h2 : a ≤ M) (h3 : -M ≤ b) (h4 : b ≤ M) (h0 : 0 ≤ M) : -(M * M) ≤ a * b ∧ a * b ≤ M * M := by
  have h5 : a.natAbs ≤ M.natAbs := by omega
  have h6 : b.natAbs ≤ M.natAbs := by omega
  have h7 := Nat.mul_le_mul h5 h6
  rw [← Int.natAbs_mul, ← Int.natAbs_mul] at h7
  have h8 : 0 ≤ M * M := Int.mul_nonneg h0 h0
  omega
theorem rn_of_pos {z d : Int} (h : 0 < d) : rn z d = z / (Int.gcd z d : Nat) ∧ rd z d = d / (Int.gcd z d : Nat) := by
  unfold rn rd; rw [un_pos h, ud_pos_ h]; exact ⟨rfl, rfl⟩
theorem okB_in {z d M : Int} (h : okB z d M = true) : (-M ≤ un z d ∧ un z d ≤ M) ∧ 0 < ud z d ∧ (d = 0 ∨ ud z d ≤ M) := by
  have h' : (-M ≤ z ∧ z ≤ M) ∧ (-M ≤ d ∧ d ≤ M) := by unfold okB at h; simpa using h
  have h1 := un_abs z d
  refine ⟨by omega, ud_pos z d, ?_⟩
  by_cases hd : d = 0
  · exact Or.inl hd
  · right; unfold ud; rw [if_neg hd]; split <;> omega

set_option maxHeartbeats 8000000 in
set_option maxRecDepth 100000 in
theorem addWords_at {w : World} {s1 s2 s3 s4 : Bool} {A1 A2 A3 A4 : Option Addr} {n1 c1 n2 c2 n3 c3 n4 c4 : Nat} {a b c d : Int} (h1 : IntAt w s1 A1 n1 c1 a) (h2 : IntAt w s2 A2 n2 c2 b) (h3 : IntAt w s3 A3 n3 c3 c) (h4 : IntAt w s4 A4 n4 c4 d) :
    Calls Try.prog 124 #[.agg #[.bool s1, .slice A1 n1 c1, .bool s2, .slice A2 n2 c2], .agg #[.bool s3, .slice A3 n3 c3, .bool s4, .slice A4 n4 c4]] w
      fun e w' => ∃ x y ok, (ok = true → x = aN a b c d ∧ y = aD a b c d) ∧ RetAW w x y ok e w' := by
  have H0 := (((((((St.start w).addI h1).addI h2).addI h3).addI h4).new 42 (Plains.four s1 A1 n1 c1 s2 A2 n2 c2)).new 42 (Plains.four s3 A3 n3 c3 s4 A4 n4 c4)).new 42 (Plains.four false none 0 0 false none 0 0)
  simp only [World.size_alloc] at H0
  have HH := Lib.hid H0
  clear H0 h1 h2 h3 h4
  obtain ⟨o1, HO1⟩ : ∃ v, Hid (okB a b 2147483647 = v) := ⟨_, rfl⟩
  obtain ⟨o2, HO2⟩ : ∃ v, Hid (okB c d 2147483647 = v) := ⟨_, rfl⟩
  obtain ⟨x1, HX1⟩ : ∃ v, Hid (wX a b 2147483647 = v) := ⟨_, rfl⟩
  obtain ⟨x2, HX2⟩ : ∃ v, Hid (wX c d 2147483647 = v) := ⟨_, rfl⟩
  obtain ⟨y1, HY1⟩ : ∃ v, Hid (wY a b 2147483647 = v) := ⟨_, rfl⟩
  obtain ⟨y2, HY2⟩ : ∃ v, Hid (wY c d 2147483647 = v) := ⟨_, rfl⟩
  by_cases hok : o1 = true ∧ o2 = true
  · obtain ⟨rfl, rfl⟩ := hok
    have b1 := okB_in HO1.out
    have b2 := okB_in HO2.out
    have e1 : un a b = x1 := by rw [← HX1.out]; unfold wX; rw [HO1.out, if_pos rfl]
    have e2 : un c d = x2 := by rw [← HX2.out]; unfold wX; rw [HO2.out, if_pos rfl]
    have e3 : ud a b = y1 := by rw [← HY1.out]; unfold wY; rw [HO1.out, if_pos rfl]
    have e4 : ud c d = y2 := by rw [← HY2.out]; unfold wY; rw [HO2.out, if_pos rfl]
    have f1 : y1 ≤ 2147483647 := by rw [← e3]; rcases b1.2.2 with h | h; · rw [h, ud_zero]; decide
                                    · exact h
    have f2 : y2 ≤ 2147483647 := by rw [← e4]; rcases b2.2.2 with h | h; · rw [h, ud_zero]; decide
                                    · exact h
    have HADD := Lib.hid (add_u a b c d)
    rw [e1, e2, e3, e4] at HADD
    rw [e1, e3] at b1
    rw [e2, e4] at b2
    obtain ⟨⟨b3, b4⟩, b5, -⟩ := b1
    obtain ⟨⟨b6, b7⟩, b8, -⟩ := b2
    have m1 := mul_in b3 b4 (show -2147483647 ≤ y2 by omega) f2 (by decide)
    have m2 := mul_in b6 b7 (show -2147483647 ≤ y1 by omega) f1 (by decide)
    have m3 := mul_in (show -2147483647 ≤ y1 by omega) f1 (show -2147483647 ≤ y2 by omega) f2 (by decide)
    have m4 : 0 < y1 * y2 := Int.mul_pos b5 b8
    clear e1 e2 e3 e4
    obtain ⟨p1, P1⟩ : ∃ v, Hid (x1 * y2 = v) := ⟨_, rfl⟩
    obtain ⟨p2, P2⟩ : ∃ v, Hid (x2 * y1 = v) := ⟨_, rfl⟩
    obtain ⟨p3, P3⟩ : ∃ v, Hid (y1 * y2 = v) := ⟨_, rfl⟩
    obtain ⟨p4, P4⟩ : ∃ v, Hid (p1 + p2 = v) := ⟨_, rfl⟩
    rw [P1.out] at m1
    rw [P2.out] at m2
    rw [P3.out] at m3 m4
    have j1 : -9223372036854775807 ≤ p4 := by rw [← P4.out]; omega
    have j2 : p4 ≤ 9223372036854775807 := by rw [← P4.out]; omega
    have j3 : p3 ≤ 9223372036854775807 := by omega
    obtain ⟨G, HG⟩ : ∃ v, Hid (((Int.gcd p4 p3 : Nat) : Int) = v) := ⟨_, rfl⟩
    obtain ⟨x, HX⟩ : ∃ v, Hid (p4 / G = v) := ⟨_, rfl⟩
    obtain ⟨y, HY⟩ : ∃ v, Hid (p3 / G = v) := ⟨_, rfl⟩
    have HEND : Hid (x = aN a b c d ∧ y = aD a b c d) := by
      skip
      have h5 := rn_of_pos (z := p4) m4
      rw [HG.out, HX.out, HY.out] at h5
      have h6 := HADD.out
      rw [P1.out, P2.out, P3.out, P4.out] at h6
      exact ⟨h5.1.symm.trans h6.1, h5.2.symm.trans h6.2⟩
    have iw1 : IntKind.i64.wrap p1 = p1 := IntWalk.i64_in _ (by omega)
    have iw2 : IntKind.i64.wrap p2 = p2 := IntWalk.i64_in _ (by omega)
    have iw3 : IntKind.i64.wrap p3 = p3 := IntWalk.i64_in _ (by omega)
    have iw4 : IntKind.i64.wrap p4 = p4 := IntWalk.i64_in _ (by omega)
    have I1 := Lib.hid iw1
    have I2 := Lib.hid iw2
    have I3 := Lib.hid iw3
    have I4 := Lib.hid iw4
    clear iw1 iw2 iw3 iw4 m1 m2 m3 b3 b4 b5 b6 b7 b8 f1 f2
    go_enter Try.func124, Try.ntmps124
    go_upto_region 5 with (first
      | (go_at_call_of 158 (Value.agg #[Value.bool s1, Value.slice A1 n1 c1, Value.bool s2, Value.slice A2 n2 c2]); have K := HH.out; clear HH; have i1 := K.ints.2.2.2.1.i; have i2 := K.ints.2.2.1.i; (with_reducible refine (words_at i1 i2 (by decide) (by decide)).mono ?_); rw [HX1.out, HY1.out, HO1.out]; rintro e w1 ⟨rfl, g1⟩; have K1 := K.call g1; obtain ⟨_, ⟨p0, p1', p2', p3'⟩, _⟩ := K1.facts)
      | (go_at_call_of 158 (Value.agg #[Value.bool s3, Value.slice A3 n3 c3, Value.bool s4, Value.slice A4 n4 c4]); have i3 := K1.ints.2.1.i; have i4 := K1.ints.1.i; (with_reducible refine (words_at i3 i4 (by decide) (by decide)).mono ?_); rw [HX2.out, HY2.out, HO2.out]; rintro e w2 ⟨rfl, g2⟩; have K2 := K1.call g2)
      | fail)
    have iw1 := I1.out
    have iw2 := I2.out
    have iw3 := I3.out
    have iw4 := I4.out
    have kw1 : x1 * y2 = p1 := P1.out
    have kw2 : x2 * y1 = p2 := P2.out
    have kw3 : y1 * y2 = p3 := P3.out
    have kw4 : p1 + p2 = p4 := P4.out
    go_wp2_with (first
      | (go_at_call 159; (with_reducible refine (fromWords_any p4 p3 G m4 j1 j2 j3 HG.out _).mono ?_); rw [HX.out, HY.out]; rintro e w3 ⟨B3, m3, k3, B4, m4', k4, rfl, d3, d4, g3⟩; have K3 := ((K2.call g3).add d4).add d3; obtain ⟨⟨q0, q1, q2, q3⟩, _⟩ := K3.facts; obtain ⟨f0, f1, f2, f3⟩ := K3.free (i := 0) rfl)
      | fail)
    have K4 := K3.put4 0 rfl (decide (x < 0)) B3 m3 k3 (decide (y < 0)) B4 m4' k4
    simp only [List.set] at K4
    obtain ⟨⟨r0, r1, r2, r3⟩, _⟩ := K4.facts
    exact bodyPost_ret (v := .tuple #[.agg #[.bool (decide (x < 0)), .slice B3 m3 k3, .bool (decide (y < 0)), .slice B4 m4' k4], .bool true]) (by simp [results, Try.results124, go_sem, r0, r1, r2, r3]) rfl ⟨x, y, true, fun _ => HEND.out, RetAW.of_st K4⟩
  · have hc : (o1 = false ∧ o2 = false) ∨ (o1 = false ∧ o2 = true) ∨ (o1 = true ∧ o2 = false) := by
      cases o1 <;> cases o2 <;> simp_all
    clear hok
    rcases hc with ⟨rfl, rfl⟩ | ⟨rfl, rfl⟩ | ⟨rfl, rfl⟩
    all_goals
      go_enter Try.func124, Try.ntmps124
      go_wp2_with (first
        | (go_at_call_of 158 (Value.agg #[Value.bool s1, Value.slice A1 n1 c1, Value.bool s2, Value.slice A2 n2 c2]); have K := HH.out; clear HH; have i1 := K.ints.2.2.2.1.i; have i2 := K.ints.2.2.1.i; (with_reducible refine (words_at i1 i2 (by decide) (by decide)).mono ?_); rw [HX1.out, HY1.out, HO1.out]; rintro e w1 ⟨rfl, g1⟩; have K1 := K.call g1; obtain ⟨_, ⟨p0, p1', p2', p3'⟩, _⟩ := K1.facts)
        | (go_at_call_of 158 (Value.agg #[Value.bool s3, Value.slice A3 n3 c3, Value.bool s4, Value.slice A4 n4 c4]); have i3 := K1.ints.2.1.i; have i4 := K1.ints.1.i; (with_reducible refine (words_at i3 i4 (by decide) (by decide)).mono ?_); rw [HX2.out, HY2.out, HO2.out]; rintro e w2 ⟨rfl, g2⟩; have K2 := K1.call g2; obtain ⟨⟨q0, q1, q2, q3⟩, _⟩ := K2.facts; obtain ⟨f0, f1, f2, f3⟩ := K2.free (i := 0) rfl)
        | fail)
      have K4 := ((K2.put4 0 rfl false none 0 0 false none 0 0).add (CanAt.zero_ _)).add (CanAt.zero_ _)
      simp only [List.set] at K4
      obtain ⟨⟨r0, r1, r2, r3⟩, _⟩ := K4.facts
      exact bodyPost_ret (v := .tuple #[.agg #[.bool (decide ((0 : Int) < 0)), .slice none 0 0, .bool (decide ((0 : Int) < 0)), .slice none 0 0], .bool false]) (by simp [results, Try.results124, go_sem, r0, r1, r2, r3]) rfl ⟨0, 0, false, (fun h => by cases h), RetAW.of_st (x := 0) (y := 0) K4⟩
end Go.Proofs.Ytplmfdgdbolcaaa
