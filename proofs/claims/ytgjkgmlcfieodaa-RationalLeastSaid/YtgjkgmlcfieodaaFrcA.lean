/-
  Fractions in memory, of machine words, canonical, made by New, FromInts and FromInt.
-/
import Derived.Test.YtgjkgmlcfieodaaFrM
import Derived.Test.YtgjkgmlcfieodaaGcd
import Derived.Deep.RegionWith
import Derived.Deep.RegionHeld3
set_option linter.unusedVariables false
set_option linter.unusedSimpArgs false
namespace Go.Proofs.Ytgjkgmlcfieodaa
section
open Go.RowKit

/-- A fraction in a variable of four cells. -/
abbrev vf (g : Nat) (s : Bool) (A : Option Addr) (n c : Nat) (s' : Bool) (A' : Option Addr) (n' c' : Nat) : Nat × TypeId × List Value := (g, 26, [.bool s, .slice A n c, .bool s', .slice A' n' c'])
/-- A canonical pair is returned, in new memory. -/
def RetFr (w : World) (x y : Int) (e : Ending) (w' : World) : Prop :=
  ∃ A n c A' n' c', e = .returned (.agg #[.bool (decide (x < 0)), .slice A n c, .bool (decide (y < 0)), .slice A' n' c']) ∧
    CanAt w' (decide (x < 0)) A n c x ∧ CanAt w' (decide (y < 0)) A' n' c' y ∧ Below w.heap.size w w'
section
variable {w0 w : World} {l : List (Nat × TypeId × List Value)} {k : List (Bool × Option Addr × Nat × Nat × Int × Bool)}
theorem St.putA (h : St w0 w l k) (i : Nat) {g : Nat} {t : TypeId} {a b x y : Value} (hi : l[i]? = some (g, t, [a, b, x, y])) (s : Bool) (A : Option Addr) (n c : Nat) :
    St w0 ((w.setCell ⟨g, 0, none⟩ (.bool s)).setCell ⟨g, 1, none⟩ (.slice A n c)) (l.set i (g, t, [.bool s, .slice A n c, x, y])) k := by
  have hlt : i < l.length := by
    rcases Nat.lt_or_ge i l.length with h2 | h2
    · exact h2
    · rw [List.getElem?_eq_none h2] at hi; cases hi
  have h1 := h.set hi 0 (Plain.bool s)
  have h2 := h1.set (i := i) (g := g) (t := t) (vs := [.bool s, b, x, y]) (by simp [hlt]) 1 (Plain.slice A n c)
  simpa using h2
theorem St.putB (h : St w0 w l k) (i : Nat) {g : Nat} {t : TypeId} {a b x y : Value} (hi : l[i]? = some (g, t, [a, b, x, y])) (s : Bool) (A : Option Addr) (n c : Nat) :
    St w0 ((w.setCell ⟨g, 2, none⟩ (.bool s)).setCell ⟨g, 3, none⟩ (.slice A n c)) (l.set i (g, t, [a, b, .bool s, .slice A n c])) k := by
  have hlt : i < l.length := by
    rcases Nat.lt_or_ge i l.length with h2 | h2
    · exact h2
    · rw [List.getElem?_eq_none h2] at hi; cases hi
  have h1 := h.set hi 2 (Plain.bool s)
  have h2 := h1.set (i := i) (g := g) (t := t) (vs := [a, b, .bool s, y]) (by simp [hlt]) 3 (Plain.slice A n c)
  simpa using h2
/-- A fraction is stored into a variable of four cells. -/
theorem St.put4 (h : St w0 w l k) (i : Nat) {g : Nat} {t : TypeId} {a b x y : Value} (hi : l[i]? = some (g, t, [a, b, x, y])) (s : Bool) (A : Option Addr) (n c : Nat) (s' : Bool) (A' : Option Addr) (n' c' : Nat) :
    St w0 ((((w.setCell ⟨g, 0, none⟩ (.bool s)).setCell ⟨g, 1, none⟩ (.slice A n c)).setCell ⟨g, 2, none⟩ (.bool s')).setCell ⟨g, 3, none⟩ (.slice A' n' c')) (l.set i (g, t, [.bool s, .slice A n c, .bool s', .slice A' n' c'])) k := by
  have hlt : i < l.length := by
    rcases Nat.lt_or_ge i l.length with h2 | h2
    · exact h2
    · rw [List.getElem?_eq_none h2] at hi; cases hi
  have h1 := h.putA i hi s A n c
  have h2 := h1.putB i (g := g) (t := t) (a := .bool s) (b := .slice A n c) (x := x) (y := y) (by simp [hlt]) s' A' n' c'
  simpa using h2
end
theorem toInt64_at {w : World} {s : Bool} {A : Option Addr} {n c : Nat} {x : Int} (h : IntAt w s A n c x) : Calls Try.prog 75 #[.agg #[.bool s, .slice A n c]] w (RetI w x) := by
  obtain ⟨ds, h1, h2, h3, rfl, h5⟩ := h
  exact toInt64_any s A n c ds w h1 h2 h3
def withinB (n M : Int) : Bool := decide (-M ≤ n ∧ n ≤ M)
theorem isWithin_any (n M : Int) (h0 : 0 ≤ M) (h1 : M ≤ 9223372036854775807) (w : World) :
    Calls Try.prog 76 #[.int .i64 n, .int .i64 M] w fun e w' => e = .returned (.bool (withinB n M)) ∧ w = w' := by
  have hw := IntWalk.i64_in (-M) (by omega)
  by_cases h2 : -M ≤ n
  · by_cases h3 : n ≤ M
    · have HB : Hid (withinB n M = true) := by unfold Hid withinB; simp; omega
      rw [HB.out]
      go_enter Try.func76, Try.ntmps76
      go_wp2
      go_ret
      exact ⟨rfl, rfl⟩
    · have HB : Hid (withinB n M = false) := by unfold Hid withinB; simp; omega
      rw [HB.out]
      go_enter Try.func76, Try.ntmps76
      go_wp2
      go_ret
      exact ⟨rfl, rfl⟩
  · have HB : Hid (withinB n M = false) := by unfold Hid withinB; simp; omega
    rw [HB.out]
    go_enter Try.func76, Try.ntmps76
    go_wp2
    go_ret
    exact ⟨rfl, rfl⟩

theorem tmod_lt {a b : Int} (hb : b ≠ 0) : (a.tmod b).natAbs < b.natAbs := by
  rw [Int.natAbs_tmod]; exact Nat.mod_lt _ (by omega)
theorem tmod_in {a b M : Int} (hb : b ≠ 0) (h1 : -M ≤ b) (h2 : b ≤ M) : -M ≤ a.tmod b ∧ a.tmod b ≤ M := by
  have := tmod_lt (a := a) hb; omega
theorem tdiv_dvd {a g : Int} (hg : g ∣ a) : a.tdiv g = a / g := by
  by_cases h0 : g = 0
  · simp [h0]
  · obtain ⟨k, rfl⟩ := hg
    rw [Int.mul_tdiv_cancel_left _ h0, Int.mul_ediv_cancel_left _ h0]
theorem ediv_abs_le {a g : Int} (hg : 0 < g) (hd : g ∣ a) : (a / g).natAbs ≤ a.natAbs := by
  obtain ⟨k, rfl⟩ := hd
  rw [Int.mul_ediv_cancel_left _ (by omega), Int.natAbs_mul]
  exact Nat.le_mul_of_pos_left _ (by omega)

set_option maxHeartbeats 4000000 in
set_option maxRecDepth 100000 in
theorem fromWords_any (a b G : Int) (hb : 0 < b) (ha1 : -9223372036854775807 ≤ a) (ha2 : a ≤ 9223372036854775807) (hb2 : b ≤ 9223372036854775807) (hG : ((Int.gcd a b : Nat) : Int) = G) (w : World) :
    Calls Try.prog 49 #[.int .i64 a, .int .i64 b] w (RetFr w (a / G) (b / G)) := by
  obtain ⟨r, HR⟩ : ∃ v, Hid (a.tmod b = v) := ⟨_, rfl⟩
  have hG0 : 0 < G := by rw [← hG]; have := Int.gcd_pos_iff.2 (Or.inr (show b ≠ 0 by omega) : a ≠ 0 ∨ b ≠ 0); omega
  have hGa : G ∣ a := by rw [← hG]; exact Int.gcd_dvd_left ..
  have hGb : G ∣ b := by rw [← hG]; exact Int.gcd_dvd_right ..
  have HGG := Lib.hid hG
  have hrb := tmod_in (a := a) (b := b) (M := 9223372036854775807) (by omega) (by omega) hb2
  rw [HR.out] at hrb
  obtain ⟨n', HN⟩ : ∃ v, Hid (a / G = v) := ⟨_, rfl⟩
  obtain ⟨d', HD⟩ : ∃ v, Hid (b / G = v) := ⟨_, rfl⟩
  have hn1 := ediv_abs_le hG0 hGa
  have hd1 := ediv_abs_le hG0 hGb
  rw [HN.out] at hn1
  rw [HD.out] at hd1
  have HTN : Hid (a.tdiv G = n') := by unfold Hid; rw [tdiv_dvd hGa]; exact HN.out
  have HTD : Hid (b.tdiv G = d') := by unfold Hid; rw [tdiv_dvd hGb]; exact HD.out
  rw [HN.out, HD.out]
  clear hG hGa hGb
  have H0 := (St.start w).new 26 (Plains.four false none 0 0 false none 0 0)
  have HH := Lib.hid H0
  clear H0
  have h0 : ¬ b = 0 := by omega
  go_enter Try.func49, Try.ntmps49
  go_upto_region 1 with fail
  have K := HH.out
  clear HH
  go_cut [5, 6] (fun x y wx => x = .int .i64 b ∧ y = .int .i64 r ∧ St w wx [vf w.heap.size false none 0 0 false none 0 0] [])
  case first =>
    have K1 := K.drew
    go_region
    go_wp2_with fail
    rw [HR.out]
    go_meet
    exact ⟨rfl, rfl, K1⟩
  case rest =>
    clear K
    obtain ⟨rfl, rfl, K⟩ := hcut
    have HS : Hid (Int.gcd b r = Int.gcd a b) := by unfold Hid; rw [← HR.out]; exact gcd_tmod a b
    go_wp2_with fail
    go_loopg [5, 6] r.natAbs (fun k x y wr => ∃ g q : Int, x = .int .i64 g ∧ y = .int .i64 q ∧ q.natAbs = k ∧ Int.gcd g q = Int.gcd a b ∧ -9223372036854775807 ≤ g ∧ g ≤ 9223372036854775807 ∧ -9223372036854775807 ≤ q ∧ q ≤ 9223372036854775807 ∧ St w wr [vf w.heap.size false none 0 0 false none 0 0] [])
    case atStart => exact ⟨b, r, rfl, rfl, rfl, HS.out, by omega, hb2, hrb.1, hrb.2, K⟩
    case round =>
      clear K HS
      obtain ⟨g, q, rfl, rfl, hk, hg, b1, b2, b3, b4, K⟩ := hrel
      by_cases hq : q = 0
      · subst hq
        have hgG : (g.natAbs : Int) = G := by rw [← HGG.out, ← hg, Int.gcd_zero_right]
        have h1 : ¬ G < 0 := by omega
        have h2 : ¬ G = 0 := by omega
        clear hg hk
        have hgc : G = g ∨ g = -G := by omega
        clear hgG
        rcases hgc with e | e
        all_goals
          subst e
          go_upto_region 6 with fail
          have Kd := K.drew
          clear K
          have iw1 : IntKind.i64.wrap n' = n' := IntWalk.i64_in _ (by omega)
          have iw2 : IntKind.i64.wrap d' = d' := IntWalk.i64_in _ (by omega)
          have iw3 : a.tdiv G = n' := HTN.out
          have iw4 : b.tdiv G = d' := HTD.out
          go_region_with (first
            | (go_at_call_of 12 (Value.int IntKind.i64 n'); (with_reducible refine (fromInt64_any n' (by omega) (by omega) _).mono ?_); rintro e w1 ⟨A1, n1, c1, rfl, d1, u1, v1, g1⟩; have K1 := (Kd.call g1).add (CanAt.mk_ d1 u1 v1))
            | (go_at_call_of 12 (Value.int IntKind.i64 d'); (with_reducible refine (fromInt64_any d' (by omega) (by omega) _).mono ?_); rintro e w2 ⟨A2, n2, c2, rfl, d2, u2, v2, g2⟩; have K2 := (K1.call g2).add (CanAt.mk_ d2 u2 v2); obtain ⟨⟨r0, r1, r2, r3⟩, _⟩ := K2.facts; obtain ⟨f0, f1, f2, f3⟩ := K2.free (i := 0) rfl)
            | fail)
          have K3 := K2.put4 0 rfl (decide (n' < 0)) A1 n1 c1 (decide (d' < 0)) A2 n2 c2
          simp only [List.set] at K3
          obtain ⟨⟨q0, q1, q2, q3⟩, _⟩ := K3.facts
          go_wp2_with fail
          refine bodyPost_ret (v := .agg #[.bool (decide (n' < 0)), .slice A1 n1 c1, .bool (decide (d' < 0)), .slice A2 n2 c2]) (by simp [results, Try.results49, go_sem, q0, q1, q2, q3]) rfl ?_
          exact ⟨A1, n1, c1, A2, n2, c2, rfl, K3.ints.2.1.c, K3.ints.1.c, K3.below⟩
      · obtain ⟨t, HT⟩ : ∃ v, Hid (g.tmod q = v) := ⟨_, rfl⟩
        have ht := tmod_in (a := g) (b := q) (M := 9223372036854775807) hq b3 b4
        have HL := Lib.hid (tmod_lt (a := g) hq)
        rw [HT.out] at ht HL
        have HG2 : Hid (Int.gcd q t = Int.gcd a b) := by unfold Hid; rw [← HT.out, gcd_tmod]; exact hg
        have HK := Lib.hid hk
        clear hk hg
        go_upto_region 3 with fail
        have K1 := K.drew
        go_region
        go_wp2_with fail
        rw [HT.out]
        go_roundg t.natAbs
        case rel => exact ⟨q, t, rfl, rfl, rfl, HG2.out, b3, b4, ht.1, ht.2, K1⟩
        case measure => have := HK.out; have := HL.out; omega
end
section
open Go.RowKit

def RetT2 (w : World) (f e0 : Int) (e : Ending) (w' : World) : Prop := e = .returned (.tuple #[.int .i64 f, .int .i64 e0]) ∧ Below w.heap.size w w'
theorem toInt64_yes {w : World} {s : Bool} {A : Option Addr} {n c : Nat} {x : Int} (h : IntAt w s A n c x) (h1 : -9223372036854775808 ≤ x) (h2 : x ≤ 9223372036854775807) :
    Calls Try.prog 75 #[.agg #[.bool s, .slice A n c]] w (RetT2 w x 0) := by
  have hf : fits x = true := by unfold fits; simp; omega
  refine (toInt64_at h).mono ?_
  rintro e w' ⟨he, hb⟩
  rw [if_pos hf, if_pos hf] at he
  exact ⟨he, hb⟩
theorem toInt64_no {w : World} {s : Bool} {A : Option Addr} {n c : Nat} {x : Int} (h : IntAt w s A n c x) (h1 : x < -9223372036854775808 ∨ 9223372036854775807 < x) :
    Calls Try.prog 75 #[.agg #[.bool s, .slice A n c]] w (RetT2 w 0 5) := by
  have hf : ¬ fits x = true := by unfold fits; simp; omega
  refine (toInt64_at h).mono ?_
  rintro e w' ⟨he, hb⟩
  rw [if_neg hf, if_neg hf] at he
  exact ⟨he, hb⟩
theorem within_yes {n M : Int} (h0 : 0 ≤ M) (h1 : M ≤ 9223372036854775807) (h2 : -M ≤ n) (h3 : n ≤ M) (w : World) :
    Calls Try.prog 76 #[.int .i64 n, .int .i64 M] w fun e w' => e = .returned (.bool true) ∧ w = w' := by
  have e : withinB n M = true := by unfold withinB; simp; omega
  have := isWithin_any n M h0 h1 w
  rwa [e] at this
/-- Beyond the bound. -/
def Out (x M : Int) : Prop := x < -M ∨ M < x
theorem within_no {n M : Int} (h0 : 0 ≤ M) (h1 : M ≤ 9223372036854775807) (h2 : Out n M) (w : World) :
    Calls Try.prog 76 #[.int .i64 n, .int .i64 M] w fun e w' => e = .returned (.bool false) ∧ w = w' := by
  have e : withinB n M = false := by unfold Out at h2; unfold withinB; simp; omega
  have := isWithin_any n M h0 h1 w
  rwa [e] at this

/-- What words returns. -/
def RetWd (w : World) (x y : Int) (b : Bool) (e : Ending) (w' : World) : Prop := e = .returned (.tuple #[.int .i64 x, .int .i64 y, .bool b]) ∧ Below w.heap.size w w'
set_option maxHeartbeats 4000000 in
set_option maxRecDepth 100000 in
theorem words_yes {w : World} {s s' : Bool} {A A' : Option Addr} {n c n' c' : Nat} {z d M : Int} (h : IntAt w s A n c z) (h' : IntAt w s' A' n' c' d) (h0 : 0 ≤ M) (h1 : M ≤ 9223372036854775807)
    (hz1 : -M ≤ z) (hz2 : z ≤ M) (hd1 : -M ≤ d) (hd2 : d ≤ M) :
    Calls Try.prog 48 #[.agg #[.bool s, .slice A n c, .bool s', .slice A' n' c'], .int .i64 M] w (RetWd w (un z d) (ud z d) true) := by
  have H0 := ((((St.start w).addI h).addI h').new 26 (Plains.four s A n c s' A' n' c'))
  have HH := Lib.hid H0
  clear H0 h h'
  have iw1 : IntKind.i64.wrap (-z) = -z := IntWalk.i64_in _ (by omega)
  have iw2 : IntKind.i64.wrap (-d) = -d := IntWalk.i64_in _ (by omega)
  rcases Int.lt_trichotomy d 0 with hd | hd | hd
  · have HU : Hid (un z d = -z ∧ ud z d = -d) := ⟨un_neg hd, ud_neg hd⟩
    rw [HU.out.1, HU.out.2]
    have hne : ¬ d = 0 := by omega
    go_enter Try.func48, Try.ntmps48
    go_wp2_with (first
      | (go_at_call_of 75 (Value.agg #[Value.bool s, Value.slice A n c]); have K0 := HH.out; have i1 := K0.ints.2.1.i; (with_reducible refine (toInt64_yes i1 (by omega) (by omega)).mono ?_); rintro e w1 ⟨rfl, g1⟩; have K1 := K0.call g1; obtain ⟨⟨p0, p1, p2, p3⟩, _⟩ := K1.facts)
      | (go_at_call_of 75 (Value.agg #[Value.bool s', Value.slice A' n' c']); have i2 := K1.ints.1.i; (with_reducible refine (toInt64_yes i2 (by omega) (by omega)).mono ?_); rintro e w2 ⟨rfl, g2⟩; have K2 := K1.call g2)
      | (go_at_call_of 76 (Value.int IntKind.i64 z); (with_reducible refine (within_yes h0 h1 hz1 hz2 _).mono ?_); rintro e w' ⟨rfl, rfl⟩)
      | (go_at_call_of 76 (Value.int IntKind.i64 d); (with_reducible refine (within_yes h0 h1 hd1 hd2 _).mono ?_); rintro e w' ⟨rfl, rfl⟩)
      | fail)
    refine bodyPost_ret (v := .tuple #[.int .i64 (-z), .int .i64 (-d), .bool true]) (by simp [results, Try.results48, go_sem]) rfl ?_
    exact ⟨rfl, K2.below⟩
  · have HU : Hid (un z d = 0 ∧ ud z d = 1) := by subst hd; exact ⟨un_zero z, ud_zero z⟩
    rw [HU.out.1, HU.out.2]
    subst hd
    go_enter Try.func48, Try.ntmps48
    go_wp2_with (first
      | (go_at_call_of 75 (Value.agg #[Value.bool s, Value.slice A n c]); have K0 := HH.out; have i1 := K0.ints.2.1.i; (with_reducible refine (toInt64_yes i1 (by omega) (by omega)).mono ?_); rintro e w1 ⟨rfl, g1⟩; have K1 := K0.call g1; obtain ⟨⟨p0, p1, p2, p3⟩, _⟩ := K1.facts)
      | (go_at_call_of 75 (Value.agg #[Value.bool s', Value.slice A' n' c']); have i2 := K1.ints.1.i; (with_reducible refine (toInt64_yes i2 (by omega) (by omega)).mono ?_); rintro e w2 ⟨rfl, g2⟩; have K2 := K1.call g2)
      | (go_at_call_of 76 (Value.int IntKind.i64 z); (with_reducible refine (within_yes h0 h1 hz1 hz2 _).mono ?_); rintro e w' ⟨rfl, rfl⟩)
      | (go_at_call 76; (with_reducible refine (within_yes h0 h1 hd1 hd2 _).mono ?_); rintro e w' ⟨rfl, rfl⟩)
      | fail)
    refine bodyPost_ret (v := .tuple #[.int .i64 0, .int .i64 1, .bool true]) (by simp [results, Try.results48, go_sem]) rfl ?_
    exact ⟨rfl, K2.below⟩
  · have HU : Hid (un z d = z ∧ ud z d = d) := ⟨un_pos hd, ud_pos_ hd⟩
    rw [HU.out.1, HU.out.2]
    have hne : ¬ d = 0 := by omega
    have hnl : ¬ d < 0 := by omega
    go_enter Try.func48, Try.ntmps48
    go_wp2_with (first
      | (go_at_call_of 75 (Value.agg #[Value.bool s, Value.slice A n c]); have K0 := HH.out; have i1 := K0.ints.2.1.i; (with_reducible refine (toInt64_yes i1 (by omega) (by omega)).mono ?_); rintro e w1 ⟨rfl, g1⟩; have K1 := K0.call g1; obtain ⟨⟨p0, p1, p2, p3⟩, _⟩ := K1.facts)
      | (go_at_call_of 75 (Value.agg #[Value.bool s', Value.slice A' n' c']); have i2 := K1.ints.1.i; (with_reducible refine (toInt64_yes i2 (by omega) (by omega)).mono ?_); rintro e w2 ⟨rfl, g2⟩; have K2 := K1.call g2)
      | (go_at_call_of 76 (Value.int IntKind.i64 z); (with_reducible refine (within_yes h0 h1 hz1 hz2 _).mono ?_); rintro e w' ⟨rfl, rfl⟩)
      | (go_at_call_of 76 (Value.int IntKind.i64 d); (with_reducible refine (within_yes h0 h1 hd1 hd2 _).mono ?_); rintro e w' ⟨rfl, rfl⟩)
      | fail)
    refine bodyPost_ret (v := .tuple #[.int .i64 z, .int .i64 d, .bool true]) (by simp [results, Try.results48, go_sem]) rfl ?_
    exact ⟨rfl, K2.below⟩

set_option maxHeartbeats 4000000 in
set_option maxRecDepth 100000 in
theorem words_no {w : World} {s s' : Bool} {A A' : Option Addr} {n c n' c' : Nat} {z d M : Int} (h : IntAt w s A n c z) (h' : IntAt w s' A' n' c' d) (h0 : 0 ≤ M) (h1 : M ≤ 9223372036854775807)
    (hn : Out z M ∨ Out d M) :
    Calls Try.prog 48 #[.agg #[.bool s, .slice A n c, .bool s', .slice A' n' c'], .int .i64 M] w (RetWd w 0 0 false) := by
  have H0 := ((((St.start w).addI h).addI h').new 26 (Plains.four s A n c s' A' n' c'))
  have HH := Lib.hid H0
  clear H0 h h'
  by_cases hz : -9223372036854775808 ≤ z ∧ z ≤ 9223372036854775807
  · obtain ⟨hz1, hz2⟩ := hz
    by_cases hd : -9223372036854775808 ≤ d ∧ d ≤ 9223372036854775807
    · obtain ⟨hd1, hd2⟩ := hd
      by_cases hzm : Out z M
      · clear hn
        go_enter Try.func48, Try.ntmps48
        go_wp2_with (first
          | (go_at_call_of 75 (Value.agg #[Value.bool s, Value.slice A n c]); have K0 := HH.out; have i1 := K0.ints.2.1.i; (with_reducible refine (toInt64_yes i1 (by omega) (by omega)).mono ?_); rintro e w1 ⟨rfl, g1⟩; have K1 := K0.call g1; obtain ⟨⟨p0, p1, p2, p3⟩, _⟩ := K1.facts)
          | (go_at_call_of 75 (Value.agg #[Value.bool s', Value.slice A' n' c']); have i2 := K1.ints.1.i; (with_reducible refine (toInt64_yes i2 (by omega) (by omega)).mono ?_); rintro e w2 ⟨rfl, g2⟩; have K2 := K1.call g2)
          | (go_at_call_of 76 (Value.int IntKind.i64 z); (with_reducible refine (within_no h0 h1 hzm _).mono ?_); rintro e w' ⟨rfl, rfl⟩)
          | fail)
        refine bodyPost_ret (v := .tuple #[.int .i64 0, .int .i64 0, .bool false]) (by simp [results, Try.results48, go_sem]) rfl ?_
        exact ⟨rfl, K2.below⟩
      · have hdm : Out d M := hn.resolve_left hzm
        have hz3 : -M ≤ z := by unfold Out at hzm; omega
        have hz4 : z ≤ M := by unfold Out at hzm; omega
        clear hn hzm
        go_enter Try.func48, Try.ntmps48
        go_wp2_with (first
          | (go_at_call_of 75 (Value.agg #[Value.bool s, Value.slice A n c]); have K0 := HH.out; have i1 := K0.ints.2.1.i; (with_reducible refine (toInt64_yes i1 (by omega) (by omega)).mono ?_); rintro e w1 ⟨rfl, g1⟩; have K1 := K0.call g1; obtain ⟨⟨p0, p1, p2, p3⟩, _⟩ := K1.facts)
          | (go_at_call_of 75 (Value.agg #[Value.bool s', Value.slice A' n' c']); have i2 := K1.ints.1.i; (with_reducible refine (toInt64_yes i2 (by omega) (by omega)).mono ?_); rintro e w2 ⟨rfl, g2⟩; have K2 := K1.call g2)
          | (go_at_call_of 76 (Value.int IntKind.i64 z); (with_reducible refine (within_yes h0 h1 hz3 hz4 _).mono ?_); rintro e w' ⟨rfl, rfl⟩)
          | (go_at_call_of 76 (Value.int IntKind.i64 d); (with_reducible refine (within_no h0 h1 hdm _).mono ?_); rintro e w' ⟨rfl, rfl⟩)
          | fail)
        refine bodyPost_ret (v := .tuple #[.int .i64 0, .int .i64 0, .bool false]) (by simp [results, Try.results48, go_sem]) rfl ?_
        exact ⟨rfl, K2.below⟩
    · have hd3 : d < -9223372036854775808 ∨ 9223372036854775807 < d := by omega
      clear hd hn
      go_enter Try.func48, Try.ntmps48
      go_wp2_with (first
        | (go_at_call_of 75 (Value.agg #[Value.bool s, Value.slice A n c]); have K0 := HH.out; have i1 := K0.ints.2.1.i; (with_reducible refine (toInt64_yes i1 (by omega) (by omega)).mono ?_); rintro e w1 ⟨rfl, g1⟩; have K1 := K0.call g1; obtain ⟨⟨p0, p1, p2, p3⟩, _⟩ := K1.facts)
        | (go_at_call_of 75 (Value.agg #[Value.bool s', Value.slice A' n' c']); have i2 := K1.ints.1.i; (with_reducible refine (toInt64_no i2 hd3).mono ?_); rintro e w2 ⟨rfl, g2⟩; have K2 := K1.call g2)
        | fail)
      refine bodyPost_ret (v := .tuple #[.int .i64 0, .int .i64 0, .bool false]) (by simp [results, Try.results48, go_sem]) rfl ?_
      exact ⟨rfl, K2.below⟩
  · have hz3 : z < -9223372036854775808 ∨ 9223372036854775807 < z := by omega
    clear hz hn
    by_cases hd : -9223372036854775808 ≤ d ∧ d ≤ 9223372036854775807
    · obtain ⟨hd1, hd2⟩ := hd
      go_enter Try.func48, Try.ntmps48
      go_wp2_with (first
        | (go_at_call_of 75 (Value.agg #[Value.bool s, Value.slice A n c]); have K0 := HH.out; have i1 := K0.ints.2.1.i; (with_reducible refine (toInt64_no i1 hz3).mono ?_); rintro e w1 ⟨rfl, g1⟩; have K1 := K0.call g1; obtain ⟨⟨p0, p1, p2, p3⟩, _⟩ := K1.facts)
        | (go_at_call_of 75 (Value.agg #[Value.bool s', Value.slice A' n' c']); have i2 := K1.ints.1.i; (with_reducible refine (toInt64_yes i2 hd1 hd2).mono ?_); rintro e w2 ⟨rfl, g2⟩; have K2 := K1.call g2)
        | fail)
      refine bodyPost_ret (v := .tuple #[.int .i64 0, .int .i64 0, .bool false]) (by simp [results, Try.results48, go_sem]) rfl ?_
      exact ⟨rfl, K2.below⟩
    · have hd3 : d < -9223372036854775808 ∨ 9223372036854775807 < d := by omega
      clear hd
      go_enter Try.func48, Try.ntmps48
      go_wp2_with (first
        | (go_at_call_of 75 (Value.agg #[Value.bool s, Value.slice A n c]); have K0 := HH.out; have i1 := K0.ints.2.1.i; (with_reducible refine (toInt64_no i1 hz3).mono ?_); rintro e w1 ⟨rfl, g1⟩; have K1 := K0.call g1; obtain ⟨⟨p0, p1, p2, p3⟩, _⟩ := K1.facts)
        | (go_at_call_of 75 (Value.agg #[Value.bool s', Value.slice A' n' c']); have i2 := K1.ints.1.i; (with_reducible refine (toInt64_no i2 hd3).mono ?_); rintro e w2 ⟨rfl, g2⟩; have K2 := K1.call g2)
        | fail)
      refine bodyPost_ret (v := .tuple #[.int .i64 0, .int .i64 0, .bool false]) (by simp [results, Try.results48, go_sem]) rfl ?_
      exact ⟨rfl, K2.below⟩

set_option maxHeartbeats 4000000 in
set_option maxRecDepth 100000 in
theorem quotient_at {w : World} {s s' : Bool} {A A' : Option Addr} {n c n' c' : Nat} {a b : Int} (h : IntAt w s A n c a) (h' : IntAt w s' A' n' c' b) :
    Calls Try.prog 40 #[.agg #[.bool s, .slice A n c], .agg #[.bool s', .slice A' n' c']] w (RetZ w (dmQ a b)) := by
  have H0 := ((((((St.start w).addI h).addI h').new 24 (Plains.two s A n c))).new 24 (Plains.two s' A' n' c')).new 24 (Plains.two false none 0 0)
  simp only [World.size_alloc] at H0
  have HH := Lib.hid H0
  clear H0 h h'
  obtain ⟨q, HQ⟩ : ∃ v, Hid (dmQ a b = v) := ⟨_, rfl⟩
  obtain ⟨r, HR⟩ : ∃ v, Hid (dmR a b = v) := ⟨_, rfl⟩
  obtain ⟨er, HE⟩ : ∃ v, Hid (dmE b = v) := ⟨_, rfl⟩
  rw [HQ.out]
  go_enter Try.func40, Try.ntmps40
  go_upto_region 2 with (first
    | (go_at_call 47; have K := HH.out; clear HH; obtain ⟨ib, ia, _⟩ := K.ints; (with_reducible refine (divMod_at ia.i ib.i).mono ?_); rw [HQ.out, HR.out, HE.out]; rintro e w1 ⟨A1, n1, c1, A2, n2, c2, rfl, d1, u1, v1, d2, u2, v2, g1⟩; have K1 := ((((K.call g1).add (CanAt.mk_ d2 u2 v2)).add (CanAt.mk_ d1 u1 v1)).new 24 (Plains.two (decide (q < 0)) A1 n1 c1)).new 24 (Plains.two (decide (r < 0)) A2 n2 c2))
    | fail)
  simp only [World.size_alloc] at K1
  obtain ⟨_, ⟨p0, p1⟩, ⟨p2, p3⟩, _⟩ := K1.facts
  obtain ⟨f0, f1⟩ := K1.free (i := 2) rfl
  have K2 := K1.put 2 rfl (decide (q < 0)) A1 n1 c1
  simp only [List.set] at K2
  obtain ⟨_, _, ⟨r0, r1⟩, _⟩ := K2.facts
  go_wp2_with fail
  exact bodyPost_ret (v := .agg #[.bool (decide (q < 0)), .slice A1 n1 c1]) (by simp [results, Try.results40, go_sem, r0, r1]) rfl (RetZ.of_st K2)
end
section
open Go.RowKit

/-- A fraction with a positive denominator of the same value, which may share memory. -/
def RetUp (w : World) (x y : Int) (e : Ending) (w' : World) : Prop :=
  ∃ s A n c s' A' n' c', e = .returned (.agg #[.bool s, .slice A n c, .bool s', .slice A' n' c']) ∧ IntAt w' s A n c x ∧ IntAt w' s' A' n' c' y ∧ Below w.heap.size w w'
theorem IntAt.nul (w : World) : IntAt w false none 0 0 0 := IntAt.zero (by simp [digs_zero]; exact Dgs.none_) (Nat.le_refl _) (Nat.zero_le _)
set_option maxHeartbeats 4000000 in
set_option maxRecDepth 100000 in
theorem upright_at {w : World} {s s' : Bool} {A A' : Option Addr} {n c n' c' : Nat} {z d : Int} (h : IntAt w s A n c z) (h' : IntAt w s' A' n' c' d) (kz : (digs z.natAbs).length ≤ 1000000) (kd : (digs d.natAbs).length ≤ 1000000) :
    Calls Try.prog 24 #[.agg #[.bool s, .slice A n c, .bool s', .slice A' n' c']] w (RetUp w (un z d) (ud z d)) := by
  have H0 := ((((St.start w).addI h).addI h').new 26 (Plains.four s A n c s' A' n' c')).new 26 (Plains.four false none 0 0 false none 0 0)
  simp only [World.size_alloc] at H0
  have HH := Lib.hid H0
  clear H0 h h'
  obtain ⟨sg, HS⟩ : ∃ v, Hid (sgn d = v) := ⟨_, rfl⟩
  rcases Int.lt_trichotomy d 0 with hd | hd | hd
  · have HU : Hid (un z d = -z ∧ ud z d = -d) := ⟨un_neg hd, ud_neg hd⟩
    rw [HU.out.1, HU.out.2]
    have hsg : Hid (sg = -1) := HS.out.symm.trans (cmpI_lt hd)
    have HZ : Hid ((digs (-z).natAbs).length ≤ 1000000) := by unfold Hid; rw [Int.natAbs_neg]; exact kz
    have HD : Hid ((digs (-d).natAbs).length ≤ 1000000) := by unfold Hid; rw [Int.natAbs_neg]; exact kd
    obtain ⟨z', HZ'⟩ : ∃ v, Hid (-z = v) := ⟨_, rfl⟩
    obtain ⟨d', HD'⟩ : ∃ v, Hid (-d = v) := ⟨_, rfl⟩
    rw [HZ'.out, HD'.out]
    rw [HZ'.out] at HZ
    rw [HD'.out] at HD
    clear hd
    go_enter Try.func24, Try.ntmps24
    go_upto_region 5 with (first
      | (go_at_call 45; have K := HH.out; clear HH; obtain ⟨ib, ia, _⟩ := K.ints; (with_reducible refine (sign_at ib.i).mono ?_); rw [HS.out, hsg.out]; rintro e w1 ⟨rfl, g1⟩; have K1 := K.call g1; obtain ⟨_, ⟨p0, p1, p2, p3⟩, _⟩ := K1.facts)
      | fail)
    have Kd := K1.drew
    clear K K1 ia ib p0 p1 p2 p3 g1
    obtain ⟨_, ⟨p0, p1, p2, p3⟩, _⟩ := Kd.facts
    obtain ⟨ib, ia, _⟩ := Kd.ints
    obtain ⟨z1, z2⟩ := Kd.ne 0 1 rfl rfl (by decide)
    go_region_held3 (fun w' => w'.cell? ⟨w.heap.size, 0, none⟩ = some (.bool s) ∧ w'.cell? ⟨w.heap.size, 1, none⟩ = some (.slice A n c) ∧ w'.cell? ⟨w.heap.size, 2, none⟩ = some (.bool s') ∧ w'.cell? ⟨w.heap.size, 3, none⟩ = some (.slice A' n' c'))
      (go_keep)
      (first
        | (go_at_call_of 39 (Value.agg #[Value.bool s, Value.slice A n c]); (with_reducible refine (negate_at ia.i).mono ?_); rw [HZ'.out]; rintro e w2 ⟨A2, n2, c2, rfl, d2, u2, v2, g2⟩; have K2 := (Kd.call g2).add (CanAt.mk_ d2 u2 v2); clear p0 p1 p2 p3; obtain ⟨_, ⟨p0, p1, p2, p3⟩, _⟩ := K2.facts; obtain ⟨_, jb, _⟩ := K2.ints)
        | (go_at_call_of 39 (Value.agg #[Value.bool s', Value.slice A' n' c']); (with_reducible refine (negate_at jb.i).mono ?_); rw [HD'.out]; rintro e w3 ⟨A3, n3, c3, rfl, d3, u3, v3, g3⟩; have K3 := (K2.call g3).add (CanAt.mk_ d3 u3 v3); clear p0 p1 p2 p3; obtain ⟨⟨q0, q1, q2, q3⟩, ⟨p0, p1, p2, p3⟩, _⟩ := K3.facts; obtain ⟨f0, f1, f2, f3⟩ := K3.free (i := 0) rfl)
        | fail)
    have K4 := K3.put4 0 rfl (decide (z' < 0)) A2 n2 c2 (decide (d' < 0)) A3 n3 c3
    simp only [List.set] at K4
    obtain ⟨⟨r0, r1, r2, r3⟩, _⟩ := K4.facts
    go_wp2_with fail
    refine bodyPost_ret (v := .agg #[.bool (decide (z' < 0)), .slice A2 n2 c2, .bool (decide (d' < 0)), .slice A3 n3 c3]) (by simp [results, Try.results24, go_sem, r0, r1, r2, r3]) rfl ?_
    exact ⟨_, A2, n2, c2, _, A3, n3, c3, rfl, K4.ints.2.1.ci HZ.out, K4.ints.1.ci HD.out, K4.below⟩
  · have HU : Hid (un z d = 0 ∧ ud z d = 1) := by subst hd; exact ⟨un_zero z, ud_zero z⟩
    rw [HU.out.1, HU.out.2]
    have hsg : Hid (sg = 0) := HS.out.symm.trans (cmpI_eq hd)
    clear hd
    go_enter Try.func24, Try.ntmps24
    go_upto_region 3 with (first
      | (go_at_call 45; have K := HH.out; clear HH; obtain ⟨ib, ia, _⟩ := K.ints; (with_reducible refine (sign_at ib.i).mono ?_); rw [HS.out, hsg.out]; rintro e w1 ⟨rfl, g1⟩; have K1 := K.call g1; obtain ⟨_, ⟨p0, p1, p2, p3⟩, _⟩ := K1.facts)
      | fail)
    clear K ia ib p0 p1 p2 p3 g1
    go_wp2_with (first
      | (go_at_call 12; (with_reducible refine (fromInt64_any 1 (by decide) (by decide) _).mono ?_); rintro e w3 ⟨A3, n3, c3, rfl, d3, u3, v3, g3⟩; have K3 := (K1.call g3).add (show CanAt w3 false A3 n3 c3 1 from CanAt.mk_ d3 u3 v3); obtain ⟨⟨q0, q1, q2, q3⟩, _⟩ := K3.facts; obtain ⟨f0, f1, f2, f3⟩ := K3.free (i := 0) rfl)
      | fail)
    have K4 := K3.put4 0 rfl false none 0 0 false A3 n3 c3
    simp only [List.set] at K4
    obtain ⟨⟨r0, r1, r2, r3⟩, _⟩ := K4.facts
    refine bodyPost_ret (v := .agg #[.bool false, .slice none 0 0, .bool false, .slice A3 n3 c3]) (by simp [results, Try.results24, go_sem, r0, r1, r2, r3]) rfl ?_
    exact ⟨_, none, 0, 0, _, A3, n3, c3, rfl, IntAt.nul _, K4.ints.1.ci (by rw [digs_pos (by decide)]; simp [digs_zero, BB_eq]), K4.below⟩
  · have HU : Hid (un z d = z ∧ ud z d = d) := ⟨un_pos hd, ud_pos_ hd⟩
    rw [HU.out.1, HU.out.2]
    have hsg : Hid (sg = 1) := HS.out.symm.trans (cmpI_gt hd)
    clear hd
    go_enter Try.func24, Try.ntmps24
    go_upto_region 6 with (first
      | (go_at_call 45; have K := HH.out; clear HH; obtain ⟨ib, ia, _⟩ := K.ints; (with_reducible refine (sign_at ib.i).mono ?_); rw [HS.out, hsg.out]; rintro e w1 ⟨rfl, g1⟩; have K1 := K.call g1; obtain ⟨⟨q0, q1, q2, q3⟩, ⟨p0, p1, p2, p3⟩, _⟩ := K1.facts; obtain ⟨f0, f1, f2, f3⟩ := K1.free (i := 0) rfl)
      | fail)
    have K4 := K1.put4 0 rfl s A n c s' A' n' c'
    simp only [List.set] at K4
    obtain ⟨⟨r0, r1, r2, r3⟩, _⟩ := K4.facts
    go_wp2_with fail
    refine bodyPost_ret (v := .agg #[.bool s, .slice A n c, .bool s', .slice A' n' c']) (by simp [results, Try.results24, go_sem, r0, r1, r2, r3]) rfl ?_
    exact ⟨_, A, n, c, _, A', n', c', rfl, K4.ints.2.1.i, K4.ints.1.i, K4.below⟩
end
section
open Go.RowKit

theorem RetFr.of_st {w0 w : World} {l : List (Nat × TypeId × List Value)} {k : List (Bool × Option Addr × Nat × Nat × Int × Bool)} {A A' : Option Addr} {n c n' c' : Nat} {x y : Int}
    (h : St w0 w l ((decide (x < 0), A, n, c, x, true) :: (decide (y < 0), A', n', c', y, true) :: k)) : RetFr w0 x y (.returned (.agg #[.bool (decide (x < 0)), .slice A n c, .bool (decide (y < 0)), .slice A' n' c'])) w :=
  ⟨A, n, c, A', n', c', rfl, h.ints.1.c, h.ints.2.1.c, h.below⟩

set_option maxHeartbeats 8000000 in
set_option maxRecDepth 100000 in
theorem canonFrac_at {w : World} {s s' : Bool} {A A' : Option Addr} {n c n' c' : Nat} {z d : Int} (h : IntAt w s A n c z) (h' : IntAt w s' A' n' c' d) (zz : Sz z 2000) (zd : Sz d 2000) :
    Calls Try.prog 26 #[.agg #[.bool s, .slice A n c, .bool s', .slice A' n' c']] w (RetFr w (rn z d) (rd z d)) := by
  have H0 := ((((St.start w).addI h).addI h').new 26 (Plains.four s A n c s' A' n' c')).new 26 (Plains.four false none 0 0 false none 0 0)
  simp only [World.size_alloc] at H0
  have HH := Lib.hid H0
  clear H0 h h'
  obtain ⟨x, HX⟩ : ∃ v, Hid (rn z d = v) := ⟨_, rfl⟩
  obtain ⟨y, HY⟩ : ∃ v, Hid (rd z d = v) := ⟨_, rfl⟩
  by_cases hw : (-9223372036854775807 ≤ z ∧ z ≤ 9223372036854775807) ∧ (-9223372036854775807 ≤ d ∧ d ≤ 9223372036854775807)
  · obtain ⟨⟨hz1, hz2⟩, hd1, hd2⟩ := hw
    obtain ⟨u, HU⟩ : ∃ v, Hid (un z d = v) := ⟨_, rfl⟩
    obtain ⟨t, HT⟩ : ∃ v, Hid (ud z d = v) := ⟨_, rfl⟩
    obtain ⟨G, HG⟩ : ∃ v, Hid (((Int.gcd u t : Nat) : Int) = v) := ⟨_, rfl⟩
    have HX2 : Hid (u / G = x) := by unfold Hid; rw [← HX.out, ← HG.out, ← HU.out, ← HT.out]; rfl
    have HY2 : Hid (t / G = y) := by unfold Hid; rw [← HY.out, ← HG.out, ← HU.out, ← HT.out]; rfl
    have ht : 0 < t := by rw [← HT.out]; exact ud_pos z d
    have hu1 : -9223372036854775807 ≤ u ∧ u ≤ 9223372036854775807 := by have := un_abs z d; rw [HU.out] at this; omega
    have ht1 : t ≤ 9223372036854775807 := by
      rw [← HT.out]; unfold ud; split <;> (try split) <;> omega
    rw [HX.out, HY.out]
    go_enter Try.func26, Try.ntmps26
    go_upto_region 3 with (first
      | (go_at_call 48; have K := HH.out; clear HH; have ib := K.ints.1.i; have ia := K.ints.2.1.i; (with_reducible refine (words_yes ia ib (by decide) (by decide) hz1 hz2 hd1 hd2).mono ?_); rw [HU.out, HT.out]; rintro e w1 ⟨rfl, g1⟩; have K1 := K.call g1; clear ia ib)
      | fail)
    clear K
    go_wp2_with (first
      | (go_at_call 49; (with_reducible refine (fromWords_any u t G ht hu1.1 hu1.2 ht1 HG.out _).mono ?_); rw [HX2.out, HY2.out]; rintro e w2 ⟨A2, n2, c2, A3, n3, c3, rfl, d2, d3, g2⟩; have K2 := ((K1.call g2).add d3).add d2; obtain ⟨⟨q0, q1, q2, q3⟩, _⟩ := K2.facts; obtain ⟨f0, f1, f2, f3⟩ := K2.free (i := 0) rfl)
      | fail)
    have K4 := K2.put4 0 rfl (decide (x < 0)) A2 n2 c2 (decide (y < 0)) A3 n3 c3
    simp only [List.set] at K4
    obtain ⟨⟨r0, r1, r2, r3⟩, _⟩ := K4.facts
    exact bodyPost_ret (v := .agg #[.bool (decide (x < 0)), .slice A2 n2 c2, .bool (decide (y < 0)), .slice A3 n3 c3]) (by simp [results, Try.results26, go_sem, r0, r1, r2, r3]) rfl (RetFr.of_st K4)
  · have hn : Out z 9223372036854775807 ∨ Out d 9223372036854775807 := by unfold Out; omega
    clear hw
    obtain ⟨u, HU⟩ : ∃ v, Hid (un z d = v) := ⟨_, rfl⟩
    obtain ⟨t, HT⟩ : ∃ v, Hid (ud z d = v) := ⟨_, rfl⟩
    obtain ⟨G, HG⟩ : ∃ v, Hid (((Int.gcd u t : Nat) : Int) = v) := ⟨_, rfl⟩
    have HX2 : Hid (dmQ u G = x) := by unfold Hid; rw [← HX.out, ← HG.out, ← HU.out, ← HT.out]; exact rn_dm z d
    have HY2 : Hid (dmQ t G = y) := by unfold Hid; rw [← HY.out, ← HG.out, ← HU.out, ← HT.out]; exact rd_dm z d
    rw [HX.out, HY.out]
    have kz := zz.ok
    have kd := zd.ok
    have kg : (digs G.natAbs).length ≤ 1000000 := by
      rw [← HG.out, Int.natAbs_natCast, ← HT.out]
      have h1 : Int.gcd u (ud z d) ≤ (ud z d).natAbs := Nat.le_of_dvd (by have := ud_pos z d; omega) (Int.gcd_dvd_natAbs_right ..)
      have h2 : Sz (ud z d) 2001 := by
        have h3 := ud_abs z d
        have h4 : Sz ((d.natAbs : Int) + 1) 2001 := Sz.add (x := (d.natAbs : Int)) (by show (d.natAbs : Int).natAbs < _; rw [Int.natAbs_natCast]; exact zd) (Sz.mono (k := 1) (by show (1 : Int).natAbs < BB ^ 1; rw [BB_eq]; decide) (by decide))
        exact h4.le (by omega)
      have h3 : Sz ((Int.gcd u (ud z d) : Nat) : Int) 2001 := h2.le (by rw [Int.natAbs_natCast]; exact h1)
      have := h3.ok
      rwa [Int.natAbs_natCast] at this
    go_enter Try.func26, Try.ntmps26
    go_upto_region 4 with (first
      | (go_at_call 48; have K := HH.out; clear HH; have ib := K.ints.1.i; have ia := K.ints.2.1.i; (with_reducible refine (words_no ia ib (by decide) (by decide) hn).mono ?_); rintro e w1 ⟨rfl, g1⟩; have K1 := K.call g1; clear ia ib)
      | fail)
    clear K
    obtain ⟨_, ⟨p0, p1, p2, p3⟩, _⟩ := K1.facts
    have ib := K1.ints.1.i
    have ia := K1.ints.2.1.i
    go_upto_region 5 with (first
      | (go_at_call 24; (with_reducible refine (upright_at ia ib kz kd).mono ?_); rw [HU.out, HT.out]; rintro e w2 ⟨s2, A2, n2, c2, s3, A3, n3, c3, rfl, d2, d3, g2⟩; have K2 := ((K1.call g2).addI d3).addI d2; clear p0 p1 p2 p3; obtain ⟨_, ⟨p0, p1, p2, p3⟩, _⟩ := K2.facts; obtain ⟨f0, f1, f2, f3⟩ := K2.free (i := 1) rfl)
      | fail)
    have K4 := K2.put4 1 rfl s2 A2 n2 c2 s3 A3 n3 c3
    simp only [List.set] at K4
    clear K1 K2 p0 p1 p2 p3 f0 f1 f2 f3 ia ib d2 d3 g2 g1
    generalize ((((w2.setCell ⟨w.heap.size, 0, none⟩ (.bool s2)).setCell ⟨w.heap.size, 1, none⟩ (.slice A2 n2 c2)).setCell ⟨w.heap.size, 2, none⟩ (.bool s3)).setCell ⟨w.heap.size, 3, none⟩ (.slice A3 n3 c3)) = W4 at K4 ⊢
    obtain ⟨_, ⟨p0, p1, p2, p3⟩, _⟩ := K4.facts
    have ia := K4.ints.1.i
    have ib := K4.ints.2.1.i
    go_upto_region 6 with (first
      | (go_at_call 50; (with_reducible refine (gcd_at ia ib).mono ?_); rw [HG.out]; rintro e w5 ⟨A5, n5, c5, rfl, d5, u5, v5, g5⟩; have K5 := ((K4.call g5).add (CanAt.mk_ d5 u5 v5)).new 24 (Plains.two (decide (G < 0)) A5 n5 c5))
      | fail)
    clear K4 ia ib p0 p1 p2 p3 d5 g5
    generalize w5.alloc (.cells #[.bool (decide (G < 0)), .slice A5 n5 c5] 24) = W5 at K5 ⊢
    generalize w5.heap.size = h6 at K5 ⊢
    have Kd := K5.drew
    clear K5
    obtain ⟨⟨q0, q1⟩, _, ⟨p0, p1, p2, p3⟩, _⟩ := Kd.facts
    have ig := Kd.ints.1.ci kg
    have ia := Kd.ints.2.1.i
    obtain ⟨z1, z2⟩ := Kd.ne 0 1 rfl rfl (by decide)
    obtain ⟨z3, z4⟩ := Kd.ne 1 2 rfl rfl (by decide)
    go_region_held3 (fun w' => w'.cell? ⟨h6, 0, none⟩ = some (.bool (decide (G < 0))) ∧ w'.cell? ⟨h6, 1, none⟩ = some (.slice A5 n5 c5) ∧ w'.cell? ⟨w.heap.size, 0, none⟩ = some (.bool s2) ∧ w'.cell? ⟨w.heap.size, 1, none⟩ = some (.slice A2 n2 c2) ∧ w'.cell? ⟨w.heap.size, 2, none⟩ = some (.bool s3) ∧ w'.cell? ⟨w.heap.size, 3, none⟩ = some (.slice A3 n3 c3))
      (go_keep)
      (first
        | (go_at_call_of 40 (Value.agg #[Value.bool s2, Value.slice A2 n2 c2]); (with_reducible refine (quotient_at ia ig).mono ?_); rw [HX2.out]; rintro e w7 ⟨A7, n7, c7, rfl, d7, u7, v7, g7⟩; have K7 := (Kd.call g7).add (CanAt.mk_ d7 u7 v7); clear p0 p1 p2 p3 q0 q1; obtain ⟨⟨q0, q1⟩, _, ⟨p0, p1, p2, p3⟩, _⟩ := K7.facts; have jg := K7.ints.2.1.ci kg; have jb := K7.ints.2.2.2.1.i)
        | (go_at_call_of 40 (Value.agg #[Value.bool s3, Value.slice A3 n3 c3]); (with_reducible refine (quotient_at jb jg).mono ?_); rw [HY2.out]; rintro e w8 ⟨A8, n8, c8, rfl, d8, u8, v8, g8⟩; have K8 := (K7.call g8).add (CanAt.mk_ d8 u8 v8); clear p0 p1 p2 p3 q0 q1; obtain ⟨⟨q0, q1⟩, ⟨r0, r1, r2, r3⟩, ⟨p0, p1, p2, p3⟩, _⟩ := K8.facts; obtain ⟨f0, f1, f2, f3⟩ := K8.free (i := 1) rfl)
        | fail)
    have K9 := K8.put4 1 rfl (decide (x < 0)) A7 n7 c7 (decide (y < 0)) A8 n8 c8
    simp only [List.set] at K9
    clear r0 r1 r2 r3
    obtain ⟨_, ⟨r0, r1, r2, r3⟩, _⟩ := K9.facts
    go_wp2_with fail
    refine bodyPost_ret (v := .agg #[.bool (decide (x < 0)), .slice A7 n7 c7, .bool (decide (y < 0)), .slice A8 n8 c8]) (by simp [results, Try.results26, go_sem, r0, r1, r2, r3]) rfl ?_
    exact ⟨A7, n7, c7, A8, n8, c8, rfl, K9.ints.2.1.c, K9.ints.1.c, K9.below⟩
end
section
open Go.RowKit

/-- A canonical pair and an error number. -/
def RetFE (w : World) (x y err : Int) (e : Ending) (w' : World) : Prop :=
  ∃ A n c A' n' c', e = .returned (.tuple #[.agg #[.bool (decide (x < 0)), .slice A n c, .bool (decide (y < 0)), .slice A' n' c'], .int .i64 err]) ∧
    CanAt w' (decide (x < 0)) A n c x ∧ CanAt w' (decide (y < 0)) A' n' c' y ∧ Below w.heap.size w w'
theorem RetFE.of_st {w0 w : World} {l : List (Nat × TypeId × List Value)} {k : List (Bool × Option Addr × Nat × Nat × Int × Bool)} {A A' : Option Addr} {n c n' c' : Nat} {x y err : Int}
    (h : St w0 w l ((decide (x < 0), A, n, c, x, true) :: (decide (y < 0), A', n', c', y, true) :: k)) : RetFE w0 x y err (.returned (.tuple #[.agg #[.bool (decide (x < 0)), .slice A n c, .bool (decide (y < 0)), .slice A' n' c'], .int .i64 err])) w :=
  ⟨A, n, c, A', n', c', rfl, h.ints.1.c, h.ints.2.1.c, h.below⟩
/-- What New returns: the zero value with the error 11 if the denominator is 0. -/
def nwN (z d : Int) : Int := if d = 0 then 0 else rn z d
def nwD (z d : Int) : Int := if d = 0 then 0 else rd z d
def nwE (d : Int) : Int := if d = 0 then 11 else 0

set_option maxHeartbeats 4000000 in
set_option maxRecDepth 100000 in
theorem new_at {w : World} {s s' : Bool} {A A' : Option Addr} {n c n' c' : Nat} {z d : Int} (h : IntAt w s A n c z) (h' : IntAt w s' A' n' c' d) (zz : Sz z 2000) (zd : Sz d 2000) :
    Calls Try.prog 41 #[.agg #[.bool s, .slice A n c], .agg #[.bool s', .slice A' n' c']] w (RetFE w (nwN z d) (nwD z d) (nwE d)) := by
  have H0 := (((((St.start w).addI h).addI h').new 24 (Plains.two s A n c)).new 24 (Plains.two s' A' n' c')).new 26 (Plains.four false none 0 0 false none 0 0)
  simp only [World.size_alloc] at H0
  have HH := Lib.hid H0
  clear H0 h h'
  obtain ⟨sg, HS⟩ : ∃ v, Hid (sgn d = v) := ⟨_, rfl⟩
  by_cases hd : d = 0
  · have HU : Hid (nwN z d = 0 ∧ nwD z d = 0 ∧ nwE d = 11) := by unfold Hid nwN nwD nwE; simp [hd]
    rw [HU.out.1, HU.out.2.1, HU.out.2.2]
    have hsg : Hid (sg = 0) := HS.out.symm.trans (cmpI_eq hd)
    clear hd
    go_enter Try.func41, Try.ntmps41
    go_upto_region 2 with (first
      | (go_at_call 45; have K := HH.out; clear HH; have ib := K.ints.1.i; (with_reducible refine (sign_at ib).mono ?_); rw [HS.out, hsg.out]; rintro e w1 ⟨rfl, g1⟩; have K1 := ((K.call g1).add (CanAt.zero_ _)).add (CanAt.zero_ _); clear ib K; obtain ⟨⟨q0, q1, q2, q3⟩, _⟩ := K1.facts; obtain ⟨f0, f1, f2, f3⟩ := K1.free (i := 0) rfl)
      | fail)
    have K4 := K1.put4 0 rfl false none 0 0 false none 0 0
    simp only [List.set] at K4
    obtain ⟨⟨r0, r1, r2, r3⟩, _⟩ := K4.facts
    go_wp2_with fail
    exact bodyPost_ret (v := .tuple #[.agg #[.bool (decide ((0 : Int) < 0)), .slice none 0 0, .bool (decide ((0 : Int) < 0)), .slice none 0 0], .int .i64 11]) (by simp [results, Try.results41, go_sem, r0, r1, r2, r3]) rfl (RetFE.of_st (x := 0) (y := 0) K4)
  · obtain ⟨x, HX⟩ : ∃ v, Hid (rn z d = v) := ⟨_, rfl⟩
    obtain ⟨y, HY⟩ : ∃ v, Hid (rd z d = v) := ⟨_, rfl⟩
    have HU : Hid (nwN z d = x ∧ nwD z d = y ∧ nwE d = 0) := by unfold Hid nwN nwD nwE; rw [if_neg hd, if_neg hd, if_neg hd]; exact ⟨HX.out, HY.out, rfl⟩
    rw [HU.out.1, HU.out.2.1, HU.out.2.2]
    have hsg : ((sg : Int) == 0) = false := by rw [← HS.out]; unfold sgn cmpI; simp; split <;> (try split) <;> omega
    clear hd
    go_enter Try.func41, Try.ntmps41
    go_upto_region 3 with (first
      | (go_at_call 45; have K := HH.out; clear HH; have ib := K.ints.1.i; (with_reducible refine (sign_at ib).mono ?_); rw [HS.out]; rintro e w1 ⟨rfl, g1⟩; have K1 := (K.call g1); clear ib K; obtain ⟨_, ⟨p0, p1⟩, ⟨p2, p3⟩, _⟩ := K1.facts; have ib := K1.ints.1.i; have ia := K1.ints.2.1.i)
      | fail)
    go_wp2_with (first
      | (go_at_call 26; (with_reducible refine (canonFrac_at ia ib zz zd).mono ?_); rw [HX.out, HY.out]; rintro e w2 ⟨A2, n2, c2, A3, n3, c3, rfl, d2, d3, g2⟩; have K2 := ((K1.call g2).add d3).add d2; obtain ⟨⟨q0, q1, q2, q3⟩, _⟩ := K2.facts; obtain ⟨f0, f1, f2, f3⟩ := K2.free (i := 0) rfl)
      | fail)
    have K4 := K2.put4 0 rfl (decide (x < 0)) A2 n2 c2 (decide (y < 0)) A3 n3 c3
    simp only [List.set] at K4
    obtain ⟨⟨r0, r1, r2, r3⟩, _⟩ := K4.facts
    exact bodyPost_ret (v := .tuple #[.agg #[.bool (decide (x < 0)), .slice A2 n2 c2, .bool (decide (y < 0)), .slice A3 n3 c3], .int .i64 0]) (by simp [results, Try.results41, go_sem, r0, r1, r2, r3]) rfl (RetFE.of_st K4)

theorem sz_i64 {x : Int} (h1 : -9223372036854775808 ≤ x) (h2 : x ≤ 9223372036854775807) : Sz x 2 := by
  unfold Sz
  rw [show BB ^ 2 = 18446744073709551616 from by rw [BB_eq]]
  omega
set_option maxHeartbeats 4000000 in
set_option maxRecDepth 100000 in
theorem fromInts_any (a b : Int) (ha1 : -9223372036854775808 ≤ a) (ha2 : a ≤ 9223372036854775807) (hb1 : -9223372036854775808 ≤ b) (hb2 : b ≤ 9223372036854775807) (w : World) :
    Calls Try.prog 18 #[.int .i64 a, .int .i64 b] w (RetFE w (nwN a b) (nwD a b) (nwE b)) := by
  have H0 := (St.start w).new 26 (Plains.four false none 0 0 false none 0 0)
  have HH := Lib.hid H0
  clear H0
  obtain ⟨x, HX⟩ : ∃ v, Hid (nwN a b = v) := ⟨_, rfl⟩
  obtain ⟨y, HY⟩ : ∃ v, Hid (nwD a b = v) := ⟨_, rfl⟩
  obtain ⟨er, HE⟩ : ∃ v, Hid (nwE b = v) := ⟨_, rfl⟩
  rw [HX.out, HY.out, HE.out]
  have za := (sz_i64 ha1 ha2).mono (show 2 ≤ 2000 by decide)
  have zb := (sz_i64 hb1 hb2).mono (show 2 ≤ 2000 by decide)
  have ka := za.ok
  have kb := zb.ok
  go_enter Try.func18, Try.ntmps18
  go_wp2_with (first
    | (go_at_call_of 12 (Value.int IntKind.i64 a); have K := HH.out; clear HH; (with_reducible refine (fromInt64_any a ha1 ha2 _).mono ?_); rintro e w1 ⟨A1, n1, c1, rfl, d1, u1, v1, g1⟩; have K1 := (K.call g1).add (CanAt.mk_ d1 u1 v1))
    | (go_at_call_of 12 (Value.int IntKind.i64 b); (with_reducible refine (fromInt64_any b hb1 hb2 _).mono ?_); rintro e w2 ⟨A2, n2, c2, rfl, d2, u2, v2, g2⟩; have K2 := (K1.call g2).add (CanAt.mk_ d2 u2 v2); have ib := K2.ints.1.ci kb; have ia := K2.ints.2.1.ci ka)
    | (go_at_call 41; (with_reducible refine (new_at ia ib za zb).mono ?_); rw [HX.out, HY.out, HE.out]; rintro e w3 ⟨A3, n3, c3, A4, n4, c4, rfl, d3, d4, g3⟩; have K3 := ((K2.call g3).add d4).add d3; obtain ⟨⟨q0, q1, q2, q3⟩, _⟩ := K3.facts; obtain ⟨f0, f1, f2, f3⟩ := K3.free (i := 0) rfl)
    | fail)
  have K4 := K3.put4 0 rfl (decide (x < 0)) A3 n3 c3 (decide (y < 0)) A4 n4 c4
  simp only [List.set] at K4
  obtain ⟨⟨r0, r1, r2, r3⟩, _⟩ := K4.facts
  exact bodyPost_ret (v := .tuple #[.agg #[.bool (decide (x < 0)), .slice A3 n3 c3, .bool (decide (y < 0)), .slice A4 n4 c4], .int .i64 er]) (by simp [results, Try.results18, go_sem, r0, r1, r2, r3]) rfl (RetFE.of_st K4)

set_option maxHeartbeats 4000000 in
set_option maxRecDepth 100000 in
theorem fromInt_at {w : World} {s : Bool} {A : Option Addr} {n c : Nat} {z : Int} (h : IntAt w s A n c z) (zz : Sz z 2000) :
    Calls Try.prog 13 #[.agg #[.bool s, .slice A n c]] w (RetFr w (rn z 1) (rd z 1)) := by
  have H0 := (((St.start w).addI h).new 24 (Plains.two s A n c)).new 26 (Plains.four false none 0 0 false none 0 0)
  simp only [World.size_alloc] at H0
  have HH := Lib.hid H0
  clear H0 h
  obtain ⟨x, HX⟩ : ∃ v, Hid (rn z 1 = v) := ⟨_, rfl⟩
  obtain ⟨y, HY⟩ : ∃ v, Hid (rd z 1 = v) := ⟨_, rfl⟩
  rw [HX.out, HY.out]
  have z1 : Sz 1 2000 := (sz_i64 (x := 1) (by decide) (by decide)).mono (by decide)
  have k1 := z1.ok
  go_enter Try.func13, Try.ntmps13
  go_upto_region 1 with fail
  have Kd := HH.out.drew
  clear HH
  obtain ⟨_, ⟨p0, p1⟩, _⟩ := Kd.facts
  go_region_held3 (fun w' => w'.cell? ⟨w.heap.size, 0, none⟩ = some (.bool s) ∧ w'.cell? ⟨w.heap.size, 1, none⟩ = some (.slice A n c))
    (go_keep)
    (first
      | (go_at_call 12; (with_reducible refine (fromInt64_any 1 (by decide) (by decide) _).mono ?_); rintro e w3 ⟨A3, n3, c3, rfl, d3, u3, v3, g3⟩; have K3 := (Kd.call g3).add (show CanAt w3 false A3 n3 c3 1 from CanAt.mk_ d3 u3 v3); clear p0 p1; obtain ⟨_, ⟨p0, p1⟩, _⟩ := K3.facts; have ib := K3.ints.1.ci k1; have ia := K3.ints.2.1.i)
      | (go_at_call 26; (with_reducible refine (canonFrac_at ia ib zz z1).mono ?_); rw [HX.out, HY.out]; rintro e w4 ⟨A4, n4, c4, A5, n5, c5, rfl, d4, d5, g4⟩; have K4 := ((K3.call g4).add d5).add d4; clear p0 p1; obtain ⟨⟨q0, q1, q2, q3⟩, ⟨p0, p1⟩, _⟩ := K4.facts; obtain ⟨f0, f1, f2, f3⟩ := K4.free (i := 0) rfl)
      | fail)
  have K5 := K4.put4 0 rfl (decide (x < 0)) A4 n4 c4 (decide (y < 0)) A5 n5 c5
  simp only [List.set] at K5
  obtain ⟨⟨r0, r1, r2, r3⟩, _⟩ := K5.facts
  go_wp2_with fail
  exact bodyPost_ret (v := .agg #[.bool (decide (x < 0)), .slice A4 n4 c4, .bool (decide (y < 0)), .slice A5 n5 c5]) (by simp [results, Try.results13, go_sem, r0, r1, r2, r3]) rfl (RetFr.of_st K5)
end
end Go.Proofs.Ytgjkgmlcfieodaa

