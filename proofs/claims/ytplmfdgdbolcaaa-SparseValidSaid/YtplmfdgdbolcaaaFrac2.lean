/-
  The machine words of a fraction, quotients, positive denominators, and the canonical form of a fraction, by the program.
-/
import Derived.Test.YtplmfdgdbolcaaaFrac1
set_option linter.unusedVariables false
set_option linter.unusedSimpArgs false
namespace Go.Proofs.Ytplmfdgdbolcaaa
open Go.RowKit

def RetT2 (w : World) (f e0 : Int) (e : Ending) (w' : World) : Prop := e = .returned (.tuple #[.int .i64 f, .int .i64 e0]) ∧ Below w.heap.size w w'
theorem toInt64_yes {w : World} {s : Bool} {A : Option Addr} {n c : Nat} {x : Int} (h : IntAt w s A n c x) (h1 : -9223372036854775808 ≤ x) (h2 : x ≤ 9223372036854775807) :
    Calls Try.prog 173 #[.agg #[.bool s, .slice A n c]] w (RetT2 w x 0) := by
  have hf : fits x = true := by unfold fits; simp; omega
  refine (toInt64_at h).mono ?_
  rintro e w' ⟨he, hb⟩
  rw [if_pos hf, if_pos hf] at he
  exact ⟨he, hb⟩
theorem toInt64_no {w : World} {s : Bool} {A : Option Addr} {n c : Nat} {x : Int} (h : IntAt w s A n c x) (h1 : x < -9223372036854775808 ∨ 9223372036854775807 < x) :
    Calls Try.prog 173 #[.agg #[.bool s, .slice A n c]] w (RetT2 w 0 5) := by
  have hf : ¬ fits x = true := by unfold fits; simp; omega
  refine (toInt64_at h).mono ?_
  rintro e w' ⟨he, hb⟩
  rw [if_neg hf, if_neg hf] at he
  exact ⟨he, hb⟩
theorem within_yes {n M : Int} (h0 : 0 ≤ M) (h1 : M ≤ 9223372036854775807) (h2 : -M ≤ n) (h3 : n ≤ M) (w : World) :
    Calls Try.prog 174 #[.int .i64 n, .int .i64 M] w fun e w' => e = .returned (.bool true) ∧ w = w' := by
  have e : withinB n M = true := by unfold withinB; simp; omega
  have := isWithin_any n M h0 h1 w
  rwa [e] at this
/-- Beyond the bound. -/
def Out (x M : Int) : Prop := x < -M ∨ M < x
theorem within_no {n M : Int} (h0 : 0 ≤ M) (h1 : M ≤ 9223372036854775807) (h2 : Out n M) (w : World) :
    Calls Try.prog 174 #[.int .i64 n, .int .i64 M] w fun e w' => e = .returned (.bool false) ∧ w = w' := by
  have e : withinB n M = false := by unfold Out at h2; unfold withinB; simp; omega
  have := isWithin_any n M h0 h1 w
  rwa [e] at this

/-- What words returns. -/
def RetWd (w : World) (x y : Int) (b : Bool) (e : Ending) (w' : World) : Prop := e = .returned (.tuple #[.int .i64 x, .int .i64 y, .bool b]) ∧ Below w.heap.size w w'
set_option maxHeartbeats 4000000 in
set_option maxRecDepth 100000 in
theorem words_yes {w : World} {s s' : Bool} {A A' : Option Addr} {n c n' c' : Nat} {z d M : Int} (h : IntAt w s A n c z) (h' : IntAt w s' A' n' c' d) (h0 : 0 ≤ M) (h1 : M ≤ 9223372036854775807)
    (hz1 : -M ≤ z) (hz2 : z ≤ M) (hd1 : -M ≤ d) (hd2 : d ≤ M) :
    Calls Try.prog 158 #[.agg #[.bool s, .slice A n c, .bool s', .slice A' n' c'], .int .i64 M] w (RetWd w (un z d) (ud z d) true) := by
  have H0 := ((((St.start w).addI h).addI h').new 42 (Plains.four s A n c s' A' n' c'))
  have HH := Lib.hid H0
  clear H0 h h'
  have iw1 : IntKind.i64.wrap (-z) = -z := IntWalk.i64_in _ (by omega)
  have iw2 : IntKind.i64.wrap (-d) = -d := IntWalk.i64_in _ (by omega)
  rcases Int.lt_trichotomy d 0 with hd | hd | hd
  · have HU : Hid (un z d = -z ∧ ud z d = -d) := ⟨un_neg hd, ud_neg hd⟩
    rw [HU.out.1, HU.out.2]
    have hne : ¬ d = 0 := by omega
    go_enter Try.func158, Try.ntmps158
    go_wp2_with (first
      | (go_at_call_of 173 (Value.agg #[Value.bool s, Value.slice A n c]); have K0 := HH.out; have i1 := K0.ints.2.1.i; (with_reducible refine (toInt64_yes i1 (by omega) (by omega)).mono ?_); rintro e w1 ⟨rfl, g1⟩; have K1 := K0.call g1; obtain ⟨⟨p0, p1, p2, p3⟩, _⟩ := K1.facts)
      | (go_at_call_of 173 (Value.agg #[Value.bool s', Value.slice A' n' c']); have i2 := K1.ints.1.i; (with_reducible refine (toInt64_yes i2 (by omega) (by omega)).mono ?_); rintro e w2 ⟨rfl, g2⟩; have K2 := K1.call g2)
      | (go_at_call_of 174 (Value.int IntKind.i64 z); (with_reducible refine (within_yes h0 h1 hz1 hz2 _).mono ?_); rintro e w' ⟨rfl, rfl⟩)
      | (go_at_call_of 174 (Value.int IntKind.i64 d); (with_reducible refine (within_yes h0 h1 hd1 hd2 _).mono ?_); rintro e w' ⟨rfl, rfl⟩)
      | fail)
    refine bodyPost_ret (v := .tuple #[.int .i64 (-z), .int .i64 (-d), .bool true]) (by simp [results, Try.results158, go_sem]) rfl ?_
    exact ⟨rfl, K2.below⟩
  · have HU : Hid (un z d = 0 ∧ ud z d = 1) := by subst hd; exact ⟨un_zero z, ud_zero z⟩
    rw [HU.out.1, HU.out.2]
    subst hd
    go_enter Try.func158, Try.ntmps158
    go_wp2_with (first
      | (go_at_call_of 173 (Value.agg #[Value.bool s, Value.slice A n c]); have K0 := HH.out; have i1 := K0.ints.2.1.i; (with_reducible refine (toInt64_yes i1 (by omega) (by omega)).mono ?_); rintro e w1 ⟨rfl, g1⟩; have K1 := K0.call g1; obtain ⟨⟨p0, p1, p2, p3⟩, _⟩ := K1.facts)
      | (go_at_call_of 173 (Value.agg #[Value.bool s', Value.slice A' n' c']); have i2 := K1.ints.1.i; (with_reducible refine (toInt64_yes i2 (by omega) (by omega)).mono ?_); rintro e w2 ⟨rfl, g2⟩; have K2 := K1.call g2)
      | (go_at_call_of 174 (Value.int IntKind.i64 z); (with_reducible refine (within_yes h0 h1 hz1 hz2 _).mono ?_); rintro e w' ⟨rfl, rfl⟩)
      | (go_at_call 174; (with_reducible refine (within_yes h0 h1 hd1 hd2 _).mono ?_); rintro e w' ⟨rfl, rfl⟩)
      | fail)
    refine bodyPost_ret (v := .tuple #[.int .i64 0, .int .i64 1, .bool true]) (by simp [results, Try.results158, go_sem]) rfl ?_
    exact ⟨rfl, K2.below⟩
  · have HU : Hid (un z d = z ∧ ud z d = d) := ⟨un_pos hd, ud_pos_ hd⟩
    rw [HU.out.1, HU.out.2]
    have hne : ¬ d = 0 := by omega
    have hnl : ¬ d < 0 := by omega
    go_enter Try.func158, Try.ntmps158
    go_wp2_with (first
      | (go_at_call_of 173 (Value.agg #[Value.bool s, Value.slice A n c]); have K0 := HH.out; have i1 := K0.ints.2.1.i; (with_reducible refine (toInt64_yes i1 (by omega) (by omega)).mono ?_); rintro e w1 ⟨rfl, g1⟩; have K1 := K0.call g1; obtain ⟨⟨p0, p1, p2, p3⟩, _⟩ := K1.facts)
      | (go_at_call_of 173 (Value.agg #[Value.bool s', Value.slice A' n' c']); have i2 := K1.ints.1.i; (with_reducible refine (toInt64_yes i2 (by omega) (by omega)).mono ?_); rintro e w2 ⟨rfl, g2⟩; have K2 := K1.call g2)
      | (go_at_call_of 174 (Value.int IntKind.i64 z); (with_reducible refine (within_yes h0 h1 hz1 hz2 _).mono ?_); rintro e w' ⟨rfl, rfl⟩)
      | (go_at_call_of 174 (Value.int IntKind.i64 d); (with_reducible refine (within_yes h0 h1 hd1 hd2 _).mono ?_); rintro e w' ⟨rfl, rfl⟩)
      | fail)
    refine bodyPost_ret (v := .tuple #[.int .i64 z, .int .i64 d, .bool true]) (by simp [results, Try.results158, go_sem]) rfl ?_
    exact ⟨rfl, K2.below⟩

set_option maxHeartbeats 4000000 in
set_option maxRecDepth 100000 in
theorem words_no {w : World} {s s' : Bool} {A A' : Option Addr} {n c n' c' : Nat} {z d M : Int} (h : IntAt w s A n c z) (h' : IntAt w s' A' n' c' d) (h0 : 0 ≤ M) (h1 : M ≤ 9223372036854775807)
    (hn : Out z M ∨ Out d M) :
    Calls Try.prog 158 #[.agg #[.bool s, .slice A n c, .bool s', .slice A' n' c'], .int .i64 M] w (RetWd w 0 0 false) := by
  have H0 := ((((St.start w).addI h).addI h').new 42 (Plains.four s A n c s' A' n' c'))
  have HH := Lib.hid H0
  clear H0 h h'
  by_cases hz : -9223372036854775808 ≤ z ∧ z ≤ 9223372036854775807
  · obtain ⟨hz1, hz2⟩ := hz
    by_cases hd : -9223372036854775808 ≤ d ∧ d ≤ 9223372036854775807
    · obtain ⟨hd1, hd2⟩ := hd
      by_cases hzm : Out z M
      · clear hn
        go_enter Try.func158, Try.ntmps158
        go_wp2_with (first
          | (go_at_call_of 173 (Value.agg #[Value.bool s, Value.slice A n c]); have K0 := HH.out; have i1 := K0.ints.2.1.i; (with_reducible refine (toInt64_yes i1 (by omega) (by omega)).mono ?_); rintro e w1 ⟨rfl, g1⟩; have K1 := K0.call g1; obtain ⟨⟨p0, p1, p2, p3⟩, _⟩ := K1.facts)
          | (go_at_call_of 173 (Value.agg #[Value.bool s', Value.slice A' n' c']); have i2 := K1.ints.1.i; (with_reducible refine (toInt64_yes i2 (by omega) (by omega)).mono ?_); rintro e w2 ⟨rfl, g2⟩; have K2 := K1.call g2)
          | (go_at_call_of 174 (Value.int IntKind.i64 z); (with_reducible refine (within_no h0 h1 hzm _).mono ?_); rintro e w' ⟨rfl, rfl⟩)
          | fail)
        refine bodyPost_ret (v := .tuple #[.int .i64 0, .int .i64 0, .bool false]) (by simp [results, Try.results158, go_sem]) rfl ?_
        exact ⟨rfl, K2.below⟩
      · have hdm : Out d M := hn.resolve_left hzm
        have hz3 : -M ≤ z := by unfold Out at hzm; omega
        have hz4 : z ≤ M := by unfold Out at hzm; omega
        clear hn hzm
        go_enter Try.func158, Try.ntmps158
        go_wp2_with (first
          | (go_at_call_of 173 (Value.agg #[Value.bool s, Value.slice A n c]); have K0 := HH.out; have i1 := K0.ints.2.1.i; (with_reducible refine (toInt64_yes i1 (by omega) (by omega)).mono ?_); rintro e w1 ⟨rfl, g1⟩; have K1 := K0.call g1; obtain ⟨⟨p0, p1, p2, p3⟩, _⟩ := K1.facts)
          | (go_at_call_of 173 (Value.agg #[Value.bool s', Value.slice A' n' c']); have i2 := K1.ints.1.i; (with_reducible refine (toInt64_yes i2 (by omega) (by omega)).mono ?_); rintro e w2 ⟨rfl, g2⟩; have K2 := K1.call g2)
          | (go_at_call_of 174 (Value.int IntKind.i64 z); (with_reducible refine (within_yes h0 h1 hz3 hz4 _).mono ?_); rintro e w' ⟨rfl, rfl⟩)
          | (go_at_call_of 174 (Value.int IntKind.i64 d); (with_reducible refine (within_no h0 h1 hdm _).mono ?_); rintro e w' ⟨rfl, rfl⟩)
          | fail)
        refine bodyPost_ret (v := .tuple #[.int .i64 0, .int .i64 0, .bool false]) (by simp [results, Try.results158, go_sem]) rfl ?_
        exact ⟨rfl, K2.below⟩
    · have hd3 : d < -9223372036854775808 ∨ 9223372036854775807 < d := by omega
      clear hd hn
      go_enter Try.func158, Try.ntmps158
      go_wp2_with (first
        | (go_at_call_of 173 (Value.agg #[Value.bool s, Value.slice A n c]); have K0 := HH.out; have i1 := K0.ints.2.1.i; (with_reducible refine (toInt64_yes i1 (by omega) (by omega)).mono ?_); rintro e w1 ⟨rfl, g1⟩; have K1 := K0.call g1; obtain ⟨⟨p0, p1, p2, p3⟩, _⟩ := K1.facts)
        | (go_at_call_of 173 (Value.agg #[Value.bool s', Value.slice A' n' c']); have i2 := K1.ints.1.i; (with_reducible refine (toInt64_no i2 hd3).mono ?_); rintro e w2 ⟨rfl, g2⟩; have K2 := K1.call g2)
        | fail)
      refine bodyPost_ret (v := .tuple #[.int .i64 0, .int .i64 0, .bool false]) (by simp [results, Try.results158, go_sem]) rfl ?_
      exact ⟨rfl, K2.below⟩
  · have hz3 : z < -9223372036854775808 ∨ 9223372036854775807 < z := by omega
    clear hz hn
    by_cases hd : -9223372036854775808 ≤ d ∧ d ≤ 9223372036854775807
    · obtain ⟨hd1, hd2⟩ := hd
      go_enter Try.func158, Try.ntmps158
      go_wp2_with (first
        | (go_at_call_of 173 (Value.agg #[Value.bool s, Value.slice A n c]); have K0 := HH.out; have i1 := K0.ints.2.1.i; (with_reducible refine (toInt64_no i1 hz3).mono ?_); rintro e w1 ⟨rfl, g1⟩; have K1 := K0.call g1; obtain ⟨⟨p0, p1, p2, p3⟩, _⟩ := K1.facts)
        | (go_at_call_of 173 (Value.agg #[Value.bool s', Value.slice A' n' c']); have i2 := K1.ints.1.i; (with_reducible refine (toInt64_yes i2 hd1 hd2).mono ?_); rintro e w2 ⟨rfl, g2⟩; have K2 := K1.call g2)
        | fail)
      refine bodyPost_ret (v := .tuple #[.int .i64 0, .int .i64 0, .bool false]) (by simp [results, Try.results158, go_sem]) rfl ?_
      exact ⟨rfl, K2.below⟩
    · have hd3 : d < -9223372036854775808 ∨ 9223372036854775807 < d := by omega
      clear hd
      go_enter Try.func158, Try.ntmps158
      go_wp2_with (first
        | (go_at_call_of 173 (Value.agg #[Value.bool s, Value.slice A n c]); have K0 := HH.out; have i1 := K0.ints.2.1.i; (with_reducible refine (toInt64_no i1 hz3).mono ?_); rintro e w1 ⟨rfl, g1⟩; have K1 := K0.call g1; obtain ⟨⟨p0, p1, p2, p3⟩, _⟩ := K1.facts)
        | (go_at_call_of 173 (Value.agg #[Value.bool s', Value.slice A' n' c']); have i2 := K1.ints.1.i; (with_reducible refine (toInt64_no i2 hd3).mono ?_); rintro e w2 ⟨rfl, g2⟩; have K2 := K1.call g2)
        | fail)
      refine bodyPost_ret (v := .tuple #[.int .i64 0, .int .i64 0, .bool false]) (by simp [results, Try.results158, go_sem]) rfl ?_
      exact ⟨rfl, K2.below⟩

set_option maxHeartbeats 4000000 in
set_option maxRecDepth 100000 in
theorem quotient_at {w : World} {s s' : Bool} {A A' : Option Addr} {n c n' c' : Nat} {a b : Int} (h : IntAt w s A n c a) (h' : IntAt w s' A' n' c' b) :
    Calls Try.prog 127 #[.agg #[.bool s, .slice A n c], .agg #[.bool s', .slice A' n' c']] w (RetZ w (dmQ a b)) := by
  have H0 := ((((((St.start w).addI h).addI h').new 24 (Plains.two s A n c))).new 24 (Plains.two s' A' n' c')).new 24 (Plains.two false none 0 0)
  simp only [World.size_alloc] at H0
  have HH := Lib.hid H0
  clear H0 h h'
  obtain ⟨q, HQ⟩ : ∃ v, Hid (dmQ a b = v) := ⟨_, rfl⟩
  obtain ⟨r, HR⟩ : ∃ v, Hid (dmR a b = v) := ⟨_, rfl⟩
  obtain ⟨er, HE⟩ : ∃ v, Hid (dmE b = v) := ⟨_, rfl⟩
  rw [HQ.out]
  go_enter Try.func127, Try.ntmps127
  go_upto_region 2 with (first
    | (go_at_call 80; have K := HH.out; clear HH; obtain ⟨ib, ia, _⟩ := K.ints; (with_reducible refine (divMod_at ia.i ib.i).mono ?_); rw [HQ.out, HR.out, HE.out]; rintro e w1 ⟨A1, n1, c1, A2, n2, c2, rfl, d1, u1, v1, d2, u2, v2, g1⟩; have K1 := ((((K.call g1).add (CanAt.mk_ d2 u2 v2)).add (CanAt.mk_ d1 u1 v1)).new 24 (Plains.two (decide (q < 0)) A1 n1 c1)).new 24 (Plains.two (decide (r < 0)) A2 n2 c2))
    | fail)
  simp only [World.size_alloc] at K1
  obtain ⟨_, ⟨p0, p1⟩, ⟨p2, p3⟩, _⟩ := K1.facts
  obtain ⟨f0, f1⟩ := K1.free (i := 2) rfl
  have K2 := K1.put 2 rfl (decide (q < 0)) A1 n1 c1
  simp only [List.set] at K2
  obtain ⟨_, _, ⟨r0, r1⟩, _⟩ := K2.facts
  go_wp2_with fail
  exact bodyPost_ret (v := .agg #[.bool (decide (q < 0)), .slice A1 n1 c1]) (by simp [results, Try.results127, go_sem, r0, r1]) rfl (RetZ.of_st K2)
end Go.Proofs.Ytplmfdgdbolcaaa
