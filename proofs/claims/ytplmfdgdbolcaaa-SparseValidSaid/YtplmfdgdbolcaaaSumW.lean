/-
  The walk of the law RationalSums.
-/
import Derived.Test.YtplmfdgdbolcaaaSum3
import Derived.Test.YtplmfdgdbolcaaaFrac9
import Derived.Test.YtplmfdgdbolcaaaInPs
set_option linter.unusedVariables false
set_option linter.unusedSimpArgs false
namespace Go.Proofs.Ytplmfdgdbolcaaa
open Go.RowKit

/-- Light of a list of fractions. -/
theorem lightL {w : World} {A : Option Addr} {c : Nat} {l : List FE} (hN : ∀ e ∈ l, e.n ≤ 140737488351232 ∧ e.m ≤ 140737488351232) (hl : l.length ≤ 140737488351232)
    (hc : 0 < l.length → ∃ g o, A = some ⟨g, o, none⟩ ∧ g < w.heap.size ∧ ∀ k e, l[k]? = some e → FE.In w g (o + k * 4) e) (b : Bool) (hb : b = true ↔ (∀ e ∈ l, e.n ≤ 12 ∧ e.m ≤ 12) ∧ l.length < 20) :
    Calls Try.prog 31 #[.slice A l.length c] w (RetB1 w b) := by
  rcases Nat.eq_zero_or_pos l.length with h0 | h0
  · rw [h0]
    have hbt : b = true := hb.2 ⟨fun e he => (by rw [List.length_eq_zero_iff.1 h0] at he; cases he), by omega⟩
    rw [hbt]
    exact lightF_nil A c w
  · obtain ⟨g, o, rfl, hg, hcell⟩ := hc h0
    let z : FE := ⟨false, none, 0, 0, false, none, 0, 0, 0, 0⟩
    have hget : ∀ i, i < l.length → l[i]? = some (l.getD i z) := fun i hi => by simp [List.getD, List.getElem?_eq_getElem hi]
    refine lightF_any g o l.length c (fun i => (l.getD i z).s) (fun i => (l.getD i z).t) (fun i => (l.getD i z).A) (fun i => (l.getD i z).B) (fun i => (l.getD i z).n) (fun i => (l.getD i z).c) (fun i => (l.getD i z).m) (fun i => (l.getD i z).d) w hg hl (fun i hi => hN _ (List.mem_of_getElem? (hget i hi))) (fun i hi => hcell i _ (hget i hi)) b (hb.trans ?_)
    refine ⟨fun ⟨h1, h2⟩ => ⟨fun i hi => h1 _ (List.mem_of_getElem? (hget i hi)), h2⟩, fun ⟨h1, h2⟩ => ⟨fun e he => ?_, h2⟩⟩
    obtain ⟨i, hi, rfl⟩ := List.mem_iff_getElem.1 he
    have := h1 i hi
    simpa [List.getD, List.getElem?_eq_getElem hi] using this

def revD (l : List FE) (m : Nat) : List FE := (l.drop m).reverse
theorem revD_len (l : List FE) (m : Nat) : (revD l m).length = l.length - m := by simp [revD]
theorem revD_snoc {l : List FE} {k : Nat} {e : FE} (h : l[k]? = some e) : revD l k = revD l (k + 1) ++ [e] := by
  unfold revD
  obtain ⟨hk, rfl⟩ := List.getElem?_eq_some_iff.1 h
  rw [List.drop_eq_getElem_cons hk, List.reverse_cons]

set_option maxHeartbeats 16000000 in
set_option maxRecDepth 100000 in
theorem sums_light {w : World} {A : Option Addr} {c : Nat} {l : List FE} (hF : FL w A l) (hl : l.length < 20) (hlight : Calls Try.prog 31 #[.slice A l.length c] w (RetB1 w true)) :
    Calls Try.prog 9 #[.slice A l.length c] w (RetT1 w) := by
  obtain ⟨i0, hi, hz0, hz1, hz2⟩ := info_parts frac_info
  have HF := Lib.hid hF
  clear hF
  obtain ⟨L, HL⟩ : ∃ v, Hid (l.length = v) := ⟨_, rfl⟩
  rw [HL.out] at hl hlight
  rw [HL.out]
  go_enter Try.func9, Try.ntmps9
  go_wp2_with (first
    | (go_at_call 31; (with_reducible refine hlight.mono ?_); rintro e w0 ⟨rfl, g0⟩)
    | fail)
  clear hlight
  have hb0 := g0
  have hwr : IntKind.i64.wrap ((L : Int) - 1) = (L : Int) - 1 := by rw [IntKind.wrap_i64]; omega
  go_loopg [3, 4] L (fun m v i wr => i = .int .i64 ((m : Int) - 1) ∧ m ≤ L ∧ wr.ownsRow w.heap.size 42 4 v (L - m) (flatF (revD l m)) ∧ Below w.heap.size w wr)
  case atStart => exact ⟨rfl, Nat.le_refl _, by rw [Nat.sub_self, show revD l L = [] by unfold revD; rw [← HL.out, List.drop_length]; rfl]; exact World.ownsRow_nil _ _ _ _, hb0⟩
  case round =>
    obtain ⟨rfl, hm, hown, hbw⟩ := hrel
    cases gk with
    | zero =>
      obtain ⟨x, HX⟩ : ∃ v, Hid ((sumF l).1 = v) := ⟨_, rfl⟩
      obtain ⟨y, HY⟩ : ∃ v, Hid ((sumF l).2 = v) := ⟨_, rfl⟩
      have hrv : revD l 0 = l.reverse := by unfold revD; rw [List.drop_zero]
      have hlr : l.reverse.length = L := by rw [List.length_reverse]; exact HL.out
      have hFl := HF.out.call hbw
      rw [Nat.sub_zero, hrv, ← hlr] at hown
      obtain ⟨A', c', rfl, hFb⟩ := own_FL hown (fun e he => hFl.1 e (List.mem_reverse.1 he))
      rw [hlr]
      have hs1 := fun w' h => rsumF_at (w := w') (A := A) (c := c) (l := l) h (by rw [HL.out]; omega)
      have hs2 := fun w' h => sumF_at (w := w') (A := A) (c := c) (l := l) h (by rw [HL.out]; omega)
      have hs3 := fun w' h => sumF_at (w := w') (A := A') (c := c') (l := l.reverse) h (by rw [hlr]; omega)
      rw [sum_reverse] at hs3
      simp only [HX.out, HY.out, HL.out, hlr] at hs1 hs2 hs3
      have hBW := Lib.hid hbw
      have H0 := Lib.hid (St.start wr)
      clear hown hbw hrv hi hz0 hz1 hz2 hb0 g0
      go_wp2_with (first
        | (go_at_call 63; have K0 := H0.out; clear H0; (with_reducible refine (hs2 _ hFl).mono ?_); rintro e w1 ⟨B1, m1, q1, B2, m2, q2, rfl, e1, e2, g1⟩; have K1 := (K0.call g1).add e2 |>.add e1; have F1 := hFl.call g1; have G1 := hFb.call g1)
        | (go_at_call 64; (with_reducible refine (hs1 _ F1).mono ?_); clear hFl; rintro e w2 ⟨B3, m3, q3, B4, m4, q4, rfl, e3, e4, g2⟩; have K2 := (K1.call g2).add e4 |>.add e3; have F2 := F1.call g2; have G2 := G1.call g2; clear F1)
        | (go_at_call 39; have K3 := K2; clear K2; have i1 := K3.ints.1.c; have i2 := K3.ints.2.1.c; have i3 := K3.ints.2.2.1.c; have i4 := K3.ints.2.2.2.1.c; (with_reducible refine (same2_at i3 i4 i1 i2).mono ?_); clear i1 i2 i3 i4; rintro e w3 ⟨rfl, g3⟩; have K4 := K3.call g3; have F3 := F2.call g3; have G3 := G2.call g3; clear F2 G2)
        | (go_at_call 63; have K5 := K4; clear K4; (with_reducible refine (hs3 _ G3).mono ?_); clear G3; rintro e w4 ⟨B5, m5, q5, B6, m6, q6, rfl, e5, e6, g4⟩; have K6 := (K5.call g4).add e6 |>.add e5; have F4 := F3.call g4; clear F3)
        | (go_at_call 64; (with_reducible refine (hs1 _ F4).mono ?_); clear F4; rintro e w5 ⟨B7, m7, q7, B8, m8, q8, rfl, e7, e8, g5⟩; have K7 := (K6.call g5).add e8 |>.add e7)
        | (go_at_call 39; have K8 := K7; clear K7; have i1 := K8.ints.1.c; have i2 := K8.ints.2.1.c; have i3 := K8.ints.2.2.1.c; have i4 := K8.ints.2.2.2.1.c; (with_reducible refine (same2_at i3 i4 i1 i2).mono ?_); clear i1 i2 i3 i4; rintro e w6 ⟨rfl, g6⟩; have K9 := K8.call g6)
        | (go_at_call 32; have K10 := K9; clear K9; (with_reducible refine (awake2_any _).mono ?_); rintro e w7 ⟨rfl, g7⟩; have K11 := K10.call g7)
        | fail)
      go_ret
      exact ⟨rfl, hBW.out.trans (K11.below.mono hBW.out.size)⟩
    | succ k =>
      rw [show (((k + 1 : Nat) : Int) - 1) = (k : Int) by omega]
      obtain ⟨e, he⟩ : ∃ e, l[k]? = some e := ⟨l[k]'(by rw [HL.out]; omega), List.getElem?_eq_getElem _⟩
      have hmem : e ∈ l := List.mem_of_getElem? he
      obtain ⟨g, o, hA, hg, hcell⟩ := HF.out.2 (by rw [HL.out]; omega)
      have hin := (hcell k e he).call hg hbw
      have hsn := revD_snoc he
      have hfl : flatF (revD l k) = flatF (revD l (k + 1)) ++ e.cells := by rw [hsn, flat_snoc]
      obtain ⟨c0, c1, c2, c3⟩ := hin
      have hgw : g < wr.heap.size := Nat.lt_of_lt_of_le hg hbw.size
      have hbs := hbw.size
      subst hA
      have j0 : (0 : Int) ≤ (k : Int) := by omega
      have j1 : (k : Int) < (L : Int) := by omega
      have hwk : IntKind.i64.wrap ((k : Int) - 1) = (k : Int) - 1 := by rw [IntKind.wrap_i64]; omega
      clear hcell hsn he hmem
      go_wp2_with (first
        | (at_builtin; refine wpList_append_own _ rfl _ _ 57 rfl w.heap.size 42 i0 (.agg #[.bool false, .slice none 0 0, .bool false, .slice none 0 0]) 4 64 Try.underlying57 hi hz0 hz1 hz2 rfl (by decide) _ _ _ rfl (hown.alloc _) ⟨wr.heap.size, 0, none⟩ 1 1 e.cells rfl rfl (cell_four_new _ _ _ _ _ _) (fun x hx => by simp [FE.cells] at hx; rcases hx with rfl | rfl | rfl | rfl <;> rfl) (by unfold maxLen; omega) (by omega) (by simp; omega) ?_; intro v' w3 hown' hgrow3 hnil3)
        | fail)
      have hbw3 : Below w.heap.size w w3 := Below.grown (hbw.alloc (by omega) _) hgrow3 (by simp; omega) (fun j hj => (hown.lt _ hj).1)
      go_roundg k
      case rel => exact ⟨rfl, by omega, by rw [hfl, show L - k = L - (k + 1) + 1 by omega]; exact hown', hbw3⟩
      case measure => omega

set_option maxHeartbeats 4000000 in
set_option maxRecDepth 100000 in
theorem sums_heavy {w : World} {A : Option Addr} {n c : Nat} (hlight : Calls Try.prog 31 #[.slice A n c] w (RetB1 w false)) :
    Calls Try.prog 9 #[.slice A n c] w (RetT1 w) := by
  go_enter Try.func9, Try.ntmps9
  go_wp2_with (first
    | (go_at_call 31; (with_reducible refine hlight.mono ?_); rintro e w0 ⟨rfl, g0⟩)
    | (go_at_call 32; (with_reducible refine (awake2_any _).mono ?_); rintro e w1 ⟨rfl, g1⟩)
    | fail)
  go_ret
  exact ⟨rfl, bcall g0 g1⟩

/-- A fraction of a parameter. -/
def FE.P (w : World) (e : FE) : Prop := ∃ da db, InP w e.A e.n e.c da ∧ InP w e.B e.m e.d db ∧ e.a = zOf e.s (val da) ∧ e.b = zOf e.t (val db)

theorem sums_law (A : Option Addr) (c : Nat) (l : List FE) (w : World) (hP : ∀ e ∈ l, FE.P w e) (hl : l.length ≤ 140737488351232)
    (hc : 0 < l.length → ∃ g o, A = some ⟨g, o, none⟩ ∧ g < w.heap.size ∧ ∀ k e, l[k]? = some e → FE.In w g (o + k * 4) e) :
    Calls Try.prog 9 #[.slice A l.length c] w (RetT1 w) := by
  have hN : ∀ e ∈ l, e.n ≤ 140737488351232 ∧ e.m ≤ 140737488351232 := fun e he => by
    obtain ⟨da, db, h1, h2, _, _⟩ := hP e he
    exact ⟨h1.2.2.2, h2.2.2.2⟩
  have hlight := fun b hb => lightL (c := c) hN hl hc b hb
  by_cases h : (∀ e ∈ l, e.n ≤ 12 ∧ e.m ≤ 12) ∧ l.length < 20
  · refine sums_light ⟨fun e he => ?_, hc⟩ h.2 (hlight true (by simpa using h))
    obtain ⟨da, db, h1, h2, e1, e2⟩ := hP e he
    obtain ⟨n1, n2⟩ := h.1 e he
    unfold FE.At FE.Sm
    rw [e1, e2]
    exact ⟨⟨h1.i _ n1, h2.i _ n2⟩, (h1.z _ n1).mono (by decide), (h2.z _ n2).mono (by decide)⟩
  · exact sums_heavy (hlight false ⟨fun h' => (by cases h'), fun h' => absurd h' h⟩)
end Go.Proofs.Ytplmfdgdbolcaaa
