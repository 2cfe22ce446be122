/-
  Fractions in memory; fractions of machine words.
-/
import Derived.Test.YtplmfdgdbolcaaaFrMath
import Derived.Test.YtplmfdgdbolcaaaGcd
import Derived.Deep.RegionWith
import Derived.Deep.RegionHeld3
set_option linter.unusedVariables false
set_option linter.unusedSimpArgs false
namespace Go.Proofs.Ytplmfdgdbolcaaa
open Go.RowKit

/-- A fraction in a variable of four cells. -/
abbrev vf (g : Nat) (s : Bool) (A : Option Addr) (n c : Nat) (s' : Bool) (A' : Option Addr) (n' c' : Nat) : Nat × TypeId × List Value := (g, 42, [.bool s, .slice A n c, .bool s', .slice A' n' c'])
/-- A canonical pair is returned, in new memory. -/
def RetFr (w : World) (x y : Int) (e : Ending) (w' : World) : Prop :=
  ∃ A n c A' n' c', e = .returned (.agg #[.bool (decide (x < 0)), .slice A n c, .bool (decide (y < 0)), .slice A' n' c']) ∧
    CanAt w' (decide (x < 0)) A n c x ∧ CanAt w' (decide (y < 0)) A' n' c' y ∧ Below w.heap.size w w'
section
variable {w0 w : World} {l : List (Nat × TypeId × List Value)} {k : List (Bool × Option Addr × Nat × Nat × Int × Bool)}
theorem St.putA (h : St w0 w l k) (i : Nat) {g : Nat} {t : TypeId} {a b x y : Value} (hi : l[i]? = some (g, t, [a, b, x, y])) (s : Bool) (A : Option Addr) (n c : Nat) :
    St w0 ((w.setCell ⟨g, 0, none⟩ (.bool s)).setCell ⟨g, 1, none⟩ (.slice A n c)) (l.set i (g, t, [.bool s, .slice A n c, x, y])) k := by
  have hlt : i < l.length := by
    rcases Nat.lt_or_ge i l.length with h2 | h2
    · exact h2
    · rw [List.getElem?_eq_none h2] at hi; cases hi
  have h1 := h.set hi 0 (Plain.bool s)
  have h2 := h1.set (i := i) (g := g) (t := t) (vs := [.bool s, b, x, y]) (by simp [hlt]) 1 (Plain.slice A n c)
  simpa using h2
theorem St.putB (h : St w0 w l k) (i : Nat) {g : Nat} {t : TypeId} {a b x y : Value} (hi : l[i]? = some (g, t, [a, b, x, y])) (s : Bool) (A : Option Addr) (n c : Nat) :
    St w0 ((w.setCell ⟨g, 2, none⟩ (.bool s)).setCell ⟨g, 3, none⟩ (.slice A n c)) (l.set i (g, t, [a, b, .bool s, .slice A n c])) k := by
  have hlt : i < l.length := by
    rcases Nat.lt_or_ge i l.length with h2 | h2
    · exact h2
    · rw [List.getElem?_eq_none h2] at hi; cases hi
  have h1 := h.set hi 2 (Plain.bool s)
  have h2 := h1.set (i := i) (g := g) (t := t) (vs := [a, b, .bool s, y]) (by simp [hlt]) 3 (Plain.slice A n c)
  simpa using h2
/-- A fraction is stored into a variable of four cells. -/
theorem St.put4 (h : St w0 w l k) (i : Nat) {g : Nat} {t : TypeId} {a b x y : Value} (hi : l[i]? = some (g, t, [a, b, x, y])) (s : Bool) (A : Option Addr) (n c : Nat) (s' : Bool) (A' : Option Addr) (n' c' : Nat) :
    St w0 ((((w.setCell ⟨g, 0, none⟩ (.bool s)).setCell ⟨g, 1, none⟩ (.slice A n c)).setCell ⟨g, 2, none⟩ (.bool s')).setCell ⟨g, 3, none⟩ (.slice A' n' c')) (l.set i (g, t, [.bool s, .slice A n c, .bool s', .slice A' n' c'])) k := by
  have hlt : i < l.length := by
    rcases Nat.lt_or_ge i l.length with h2 | h2
    · exact h2
    · rw [List.getElem?_eq_none h2] at hi; cases hi
  have h1 := h.putA i hi s A n c
  have h2 := h1.putB i (g := g) (t := t) (a := .bool s) (b := .slice A n c) (x := x) (y := y) (by simp [hlt]) s' A' n' c'
  simpa using h2
end
theorem toInt64_at {w : World} {s : Bool} {A : Option Addr} {n c : Nat} {x : Int} (h : IntAt w s A n c x) : Calls Try.prog 173 #[.agg #[.bool s, .slice A n c]] w (RetI w x) := by
  obtain ⟨ds, h1, h2, h3, rfl, h5⟩ := h
  exact toInt64_any s A n c ds w h1 h2 h3
def withinB (n M : Int) : Bool := decide (-M ≤ n ∧ n ≤ M)
theorem isWithin_any (n M : Int) (h0 : 0 ≤ M) (h1 : M ≤ 9223372036854775807) (w : World) :
    Calls Try.prog 174 #[.int .i64 n, .int .i64 M] w fun e w' => e = .returned (.bool (withinB n M)) ∧ w = w' := by
  have hw := IntWalk.i64_in (-M) (by omega)
  by_cases h2 : -M ≤ n
  · by_cases h3 : n ≤ M
    · have HB : Hid (withinB n M = true) := by unfold Hid withinB; simp; omega
      rw [HB.out]
      go_enter Try.func174, Try.ntmps174
      go_wp2
      go_ret
      exact ⟨rfl, rfl⟩
    · have HB : Hid (withinB n M = false) := by unfold Hid withinB; simp; omega
      rw [HB.out]
      go_enter Try.func174, Try.ntmps174
      go_wp2
      go_ret
      exact ⟨rfl, rfl⟩
  · have HB : Hid (withinB n M = false) := by unfold Hid withinB; simp; omega
    rw [HB.out]
    go_enter Try.func174, Try.ntmps174
    go_wp2
    go_ret
    exact ⟨rfl, rfl⟩

theorem tmod_lt {a b : Int} (hb : b ≠ 0) : (a.tmod b).natAbs < b.natAbs := by
  rw [Int.natAbs_tmod]; exact Nat.mod_lt _ (by omega)
theorem tmod_in {a b M : Int} (hb : b ≠ 0) (h1 : -M ≤ b) (h2 : b ≤ M) : -M ≤ a.tmod b ∧ a.tmod b ≤ M := by
  have := tmod_lt (a := a) hb; omega
theorem tdiv_dvd {a g : Int} (hg : g ∣ a) : a.tdiv g = a / g := by
  by_cases h0 : g = 0
  · simp [h0]
  · obtain ⟨k, rfl⟩ := hg
    rw [Int.mul_tdiv_cancel_left _ h0, Int.mul_ediv_cancel_left _ h0]
theorem ediv_abs_le {a g : Int} (hg : 0 < g) (hd : g ∣ a) : (a / g).natAbs ≤ a.natAbs := by
  obtain ⟨k, rfl⟩ := hd
  rw [Int.mul_ediv_cancel_left _ (by omega), Int.natAbs_mul]
  exact Nat.le_mul_of_pos_left _ (by omega)

set_option maxHeartbeats 4000000 in
set_option maxRecDepth 100000 in
theorem fromWords_any (a b G : Int) (hb : 0 < b) (ha1 : -9223372036854775807 ≤ a) (ha2 : a ≤ 9223372036854775807) (hb2 : b ≤ 9223372036854775807) (hG : ((Int.gcd a b : Nat) : Int) = G) (w : World) :
    Calls Try.prog 159 #[.int .i64 a, .int .i64 b] w (RetFr w (a / G) (b / G)) := by
  obtain ⟨r, HR⟩ : ∃ v, Hid (a.tmod b = v) := ⟨_, rfl⟩
  have hG0 : 0 < G := by rw [← hG]; have := Int.gcd_pos_iff.2 (Or.inr (show b ≠ 0 by omega) : a ≠ 0 ∨ b ≠ 0); omega
  have hGa : G ∣ a := by rw [← hG]; exact Int.gcd_dvd_left ..
  have hGb : G ∣ b := by rw [← hG]; exact Int.gcd_dvd_right ..
  have HGG := Lib.hid hG
  have hrb := tmod_in (a := a) (b := b) (M := 9223372036854775807) (by omega) (by omega) hb2
  rw [HR.out] at hrb
  obtain ⟨n', HN⟩ : ∃ v, Hid (a / G = v) := ⟨_, rfl⟩
  obtain ⟨d', HD⟩ : ∃ v, Hid (b / G = v) := ⟨_, rfl⟩
  have hn1 := ediv_abs_le hG0 hGa
  have hd1 := ediv_abs_le hG0 hGb
  rw [HN.out] at hn1
  rw [HD.out] at hd1
  have HTN : Hid (a.tdiv G = n') := by unfold Hid; rw [tdiv_dvd hGa]; exact HN.out
  have HTD : Hid (b.tdiv G = d') := by unfold Hid; rw [tdiv_dvd hGb]; exact HD.out
  rw [HN.out, HD.out]
  clear hG hGa hGb
  have H0 := (St.start w).new 42 (Plains.four false none 0 0 false none 0 0)
  have HH := Lib.hid H0
  clear H0
  have h0 : ¬ b = 0 := by omega
  go_enter Try.func159, Try.ntmps159
  go_upto_region 1 with fail
  have K := HH.out
  clear HH
  go_cut [5, 6] (fun x y wx => x = .int .i64 b ∧ y = .int .i64 r ∧ St w wx [vf w.heap.size false none 0 0 false none 0 0] [])
  case first =>
    have K1 := K.drew
    go_region
    go_wp2_with fail
    rw [HR.out]
    go_meet
    exact ⟨rfl, rfl, K1⟩
  case rest =>
    clear K
    obtain ⟨rfl, rfl, K⟩ := hcut
    have HS : Hid (Int.gcd b r = Int.gcd a b) := by unfold Hid; rw [← HR.out]; exact gcd_tmod a b
    go_wp2_with fail
    go_loopg [5, 6] r.natAbs (fun k x y wr => ∃ g q : Int, x = .int .i64 g ∧ y = .int .i64 q ∧ q.natAbs = k ∧ Int.gcd g q = Int.gcd a b ∧ -9223372036854775807 ≤ g ∧ g ≤ 9223372036854775807 ∧ -9223372036854775807 ≤ q ∧ q ≤ 9223372036854775807 ∧ St w wr [vf w.heap.size false none 0 0 false none 0 0] [])
    case atStart => exact ⟨b, r, rfl, rfl, rfl, HS.out, by omega, hb2, hrb.1, hrb.2, K⟩
    case round =>
      clear K HS
      obtain ⟨g, q, rfl, rfl, hk, hg, b1, b2, b3, b4, K⟩ := hrel
      by_cases hq : q = 0
      · subst hq
        have hgG : (g.natAbs : Int) = G := by rw [← HGG.out, ← hg, Int.gcd_zero_right]
        have h1 : ¬ G < 0 := by omega
        have h2 : ¬ G = 0 := by omega
        clear hg hk
        have hgc : G = g ∨ g = -G := by omega
        clear hgG
        rcases hgc with e | e
        all_goals
          subst e
          go_upto_region 6 with fail
          have Kd := K.drew
          clear K
          have iw1 : IntKind.i64.wrap n' = n' := IntWalk.i64_in _ (by omega)
          have iw2 : IntKind.i64.wrap d' = d' := IntWalk.i64_in _ (by omega)
          have iw3 : a.tdiv G = n' := HTN.out
          have iw4 : b.tdiv G = d' := HTD.out
          go_region_with (first
            | (go_at_call_of 81 (Value.int IntKind.i64 n'); (with_reducible refine (fromInt64_any n' (by omega) (by omega) _).mono ?_); rintro e w1 ⟨A1, n1, c1, rfl, d1, u1, v1, g1⟩; have K1 := (Kd.call g1).add (CanAt.mk_ d1 u1 v1))
            | (go_at_call_of 81 (Value.int IntKind.i64 d'); (with_reducible refine (fromInt64_any d' (by omega) (by omega) _).mono ?_); rintro e w2 ⟨A2, n2, c2, rfl, d2, u2, v2, g2⟩; have K2 := (K1.call g2).add (CanAt.mk_ d2 u2 v2); obtain ⟨⟨r0, r1, r2, r3⟩, _⟩ := K2.facts; obtain ⟨f0, f1, f2, f3⟩ := K2.free (i := 0) rfl)
            | fail)
          have K3 := K2.put4 0 rfl (decide (n' < 0)) A1 n1 c1 (decide (d' < 0)) A2 n2 c2
          simp only [List.set] at K3
          obtain ⟨⟨q0, q1, q2, q3⟩, _⟩ := K3.facts
          go_wp2_with fail
          refine bodyPost_ret (v := .agg #[.bool (decide (n' < 0)), .slice A1 n1 c1, .bool (decide (d' < 0)), .slice A2 n2 c2]) (by simp [results, Try.results159, go_sem, q0, q1, q2, q3]) rfl ?_
          exact ⟨A1, n1, c1, A2, n2, c2, rfl, K3.ints.2.1.c, K3.ints.1.c, K3.below⟩
      · obtain ⟨t, HT⟩ : ∃ v, Hid (g.tmod q = v) := ⟨_, rfl⟩
        have ht := tmod_in (a := g) (b := q) (M := 9223372036854775807) hq b3 b4
        have HL := Lib.hid (tmod_lt (a := g) hq)
        rw [HT.out] at ht HL
        have HG2 : Hid (Int.gcd q t = Int.gcd a b) := by unfold Hid; rw [← HT.out, gcd_tmod]; exact hg
        have HK := Lib.hid hk
        clear hk hg
        go_upto_region 3 with fail
        have K1 := K.drew
        go_region
        go_wp2_with fail
        rw [HT.out]
        go_roundg t.natAbs
        case rel => exact ⟨q, t, rfl, rfl, rfl, HG2.out, b3, b4, ht.1, ht.2, K1⟩
        case measure => have := HK.out; have := HL.out; omega
end Go.Proofs.Ytplmfdgdbolcaaa
