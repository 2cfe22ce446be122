/-
  Vectors in memory; what Validate answers; the reference's Validate.
-/
import Derived.Test.YtplmfdgdbolcaaaSum2
import Derived.Test.YtplmfdgdbolcaaaLightF
import Derived.Test.YtplmfdgdbolcaaaFrAdd2
set_option linter.unusedVariables false
set_option linter.unusedSimpArgs false
namespace Go.Proofs.Ytplmfdgdbolcaaa
open Go.RowKit

/-- The numbers of a light fraction. -/
def FE.Sl (e : FE) : Prop := Sz e.a 12 ∧ Sz e.b 12
/-- An entry of a vector in memory. -/
structure VE where
  (k : Int) (e : FE)
def VE.In (w : World) (g o : Nat) (x : VE) : Prop := w.cell? ⟨g, o, none⟩ = some (.int .i64 x.k) ∧ FE.In w g (o + 1) x.e
/-- A slice that reads as a vector. -/
def VL (w : World) (A : Option Addr) (l : List VE) : Prop :=
  (∀ x ∈ l, FE.At w x.e ∧ FE.Sl x.e) ∧ (0 < l.length → ∃ g o, A = some ⟨g, o, none⟩ ∧ g < w.heap.size ∧ ∀ k x, l[k]? = some x → VE.In w g (o + k * 5) x)
theorem VE.In.call {w w' : World} {g o : Nat} {x : VE} (h : VE.In w g o x) (hg : g < w.heap.size) (hb : Below w.heap.size w w') : VE.In w' g o x :=
  ⟨((bcell hb).1 g _ hg).trans h.1, h.2.call hg hb⟩
theorem VL.call {w w' : World} {A : Option Addr} {l : List VE} (h : VL w A l) (hb : Below w.heap.size w w') : VL w' A l := by
  refine ⟨fun e he => ⟨(h.1 e he).1.call hb, (h.1 e he).2⟩, fun hl => ?_⟩
  obtain ⟨g, o, e1, e2, e4⟩ := h.2 hl
  exact ⟨g, o, e1, Nat.lt_of_lt_of_le e2 hb.size, fun k e hk => (e4 k e hk).call e2 hb⟩

/-- What Validate answers for the rest of a vector, behind an index. -/
def vrest (n : Int) : Int → List VE → Int
  | _, [] => 0
  | b, x :: l => if x.k < 0 ∨ n ≤ x.k then 5 else if x.k ≤ b then 8 else if sgn x.e.a * sgn x.e.b = 0 then 11 else vrest n x.k l
def valid (l : List VE) (n : Int) : Int := if n < 0 ∨ 4096 < n then 5 else vrest n (-1) l
/-- The index before the k-th. -/
def bef (l : List VE) : Nat → Int
  | 0 => -1
  | k + 1 => ((l[k]?).map VE.k).getD (-1)
theorem drop_get {l : List VE} {k : Nat} {x : VE} (h : l[k]? = some x) : l.drop k = x :: l.drop (k + 1) := by
  obtain ⟨hk, rfl⟩ := List.getElem?_eq_some_iff.1 h
  exact List.drop_eq_getElem_cons hk
theorem bef_succ {l : List VE} {k : Nat} {x : VE} (h : l[k]? = some x) : bef l (k + 1) = x.k := by show ((l[k]?).map VE.k).getD (-1) = x.k; rw [h]; rfl

set_option maxHeartbeats 8000000 in
set_option maxRecDepth 100000 in
theorem rvalid_at {w : World} {A : Option Addr} {c : Nat} {l : List VE} {n : Int} (hF : VL w A l) (hl : l.length ≤ 60) (hn1 : -9223372036854775808 ≤ n) (hn2 : n ≤ 9223372036854775807) :
    Calls Try.prog 68 #[.slice A l.length c, .int .i64 n] w (RetN w (valid l n)) := by
  have HF := Lib.hid hF
  clear hF
  obtain ⟨L, HL⟩ : ∃ v, Hid (l.length = v) := ⟨_, rfl⟩
  rw [HL.out] at hl
  rw [HL.out]
  obtain ⟨V, HV⟩ : ∃ v, Hid (valid l n = v) := ⟨_, rfl⟩
  rw [HV.out]
  go_enter Try.func68, Try.ntmps68
  by_cases hn3 : n < 0
  · obtain rfl : V = 5 := by rw [← HV.out]; unfold valid; rw [if_pos (Or.inl hn3)]
    go_wp2_with fail
    go_ret
    exact ⟨rfl, Below.refl _ _⟩
  by_cases hn4 : 4096 < n
  · obtain rfl : V = 5 := by rw [← HV.out]; unfold valid; rw [if_pos (Or.inr hn4)]
    go_wp2_with fail
    go_ret
    exact ⟨rfl, Below.refl _ _⟩
  have HV2 : Hid (vrest n (bef l 0) (l.drop 0) = V) := by unfold Hid; rw [← HV.out]; unfold valid; rw [if_neg (by omega)]; rfl
  clear HV
  go_upto_region 4 with fail
  go_loopg [5] L (fun r i wr => ∃ k : Nat, k + r = L ∧ i = .int .i64 k ∧ Below w.heap.size w wr ∧ vrest n (bef l k) (l.drop k) = V)
  case atStart => exact ⟨0, by omega, rfl, Below.refl _ _, HV2.out⟩
  case round =>
    obtain ⟨k, hk, rfl, hB, hV⟩ := hrel
    by_cases hlt : k < L
    · obtain ⟨x, hx⟩ : ∃ x, l[k]? = some x := ⟨l[k]'(by rw [HL.out]; exact hlt), List.getElem?_eq_getElem _⟩
      have hmem : x ∈ l := List.mem_of_getElem? hx
      obtain ⟨g, o, hA, hg, hcell⟩ := HF.out.2 (by rw [HL.out]; omega)
      have hin := (hcell k x hx).call hg hB
      have hprev : Hid (∀ j, k = j + 1 → wr.cell? ⟨g, o + j * 5, none⟩ = some (.int .i64 (bef l k))) := by
        intro j hj
        subst hj
        obtain ⟨y, hy⟩ : ∃ y, l[j]? = some y := ⟨l[j]'(by rw [HL.out]; omega), List.getElem?_eq_getElem _⟩
        have := ((hcell j y hy).call hg hB).1
        rw [this, bef_succ hy]
      have hat := (HF.out.1 x hmem).1.call hB
      have hsm := (HF.out.1 x hmem).2
      have hbs := bef_succ hx
      rw [drop_get hx] at hV
      obtain ⟨q, e⟩ := x
      obtain ⟨s, P, pn, pc, s', P', qn, qc, a, b⟩ := e
      obtain ⟨ck, c0, c1, c2, c3⟩ := hin
      obtain ⟨i1, i2⟩ := hat
      obtain ⟨za, zb⟩ := hsm
      simp only at ck c0 c1 c2 c3 i1 i2 za zb hbs
      clear hcell hx hmem
      unfold vrest at hV
      simp only at hV
      have za9 : Sz a 1900 := za.mono (by decide)
      have zb9 : Sz b 1900 := zb.mono (by decide)
      subst hA
      have j0 : (0 : Int) ≤ (k : Int) := by omega
      have j1 : (k : Int) < (L : Int) := by omega
      have HK := Lib.hid hk
      have HLT := Lib.hid hlt
      clear hk
      have HB := Lib.hid hB
      clear hB
      by_cases h1 : q < 0
      · obtain rfl : V = 5 := by rw [← hV, if_pos (Or.inl h1)]
        go_wp2_with fail
        go_ret
        exact ⟨rfl, HB.out⟩
      by_cases h2 : n ≤ q
      · obtain rfl : V = 5 := by rw [← hV, if_pos (Or.inr h2)]
        go_wp2_with fail
        go_ret
        exact ⟨rfl, HB.out⟩
      rw [if_neg (by omega)] at hV
      cases k with
      | zero =>
        clear hprev
        simp only [Nat.zero_mul, Nat.add_zero] at ck c0 c1 c2 c3
        have h3 : ¬ q ≤ bef l 0 := by show ¬ q ≤ (-1 : Int); omega
        rw [if_neg h3] at hV
        have HVV := Lib.hid hV
        clear hV
        obtain ⟨z, HZ⟩ : ∃ v, Hid (sgn a * sgn b = v) := ⟨_, rfl⟩
        rw [HZ.out] at HVV
        by_cases h4 : z = 0
        · subst h4
          obtain rfl : V = 11 := by rw [← HVV.out, if_pos rfl]
          go_upto_region 8 with fail
          go_quiet (fail)
          have I1 := i1.call (bdrewN (Below.refl _ wr) nq)
          have I2 := i2.call (bdrewN (Below.refl _ wr) nq)
          go_wp2_with (first
            | (go_at_call 38; (with_reducible refine (rsignF_at I1 I2 za9 zb9).mono ?_); rw [sgn_rn, HZ.out]; rintro ee w2 ⟨rfl, g2⟩)
            | fail)
          go_ret
          exact ⟨rfl, bcall HB.out (Below.trans (bdrewN (Below.refl _ wr) nq) g2)⟩
        · have HV3 : Hid (vrest n (bef l (0 + 1)) (l.drop (0 + 1)) = V) := by unfold Hid; rw [hbs, ← HVV.out, if_neg h4]
          go_upto_region 8 with fail
          go_quiet (fail)
          have I1 := i1.call (bdrewN (Below.refl _ wr) nq)
          have I2 := i2.call (bdrewN (Below.refl _ wr) nq)
          go_wp2_with (first
            | (go_at_call 38; (with_reducible refine (rsignF_at I1 I2 za9 zb9).mono ?_); rw [sgn_rn, HZ.out]; rintro ee w2 ⟨rfl, g2⟩)
            | fail)
          go_roundg (gk - 1)
          case rel => exact ⟨0 + 1, by have := HK.out; have := HLT.out; omega, by go_num, bcall HB.out (Below.trans (bdrewN (Below.refl _ wr) nq) g2), HV3.out⟩
          case measure => have := HK.out; have := HLT.out; omega
      | succ j =>
        have hp := hprev.out j rfl
        clear hprev
        obtain ⟨bv, HBV⟩ : ∃ v, Hid (bef l (j + 1) = v) := ⟨_, rfl⟩
        rw [HBV.out] at hp hV
        have hw1 : IntKind.i64.wrap (((j + 1 : Nat) : Int) - 1) = (j : Int) := by rw [IntKind.wrap_i64]; omega
        have hw2 : IntKind.i64.wrap (j : Int) = (j : Int) := by rw [IntKind.wrap_i64]; omega
        have j2 : (0 : Int) < ((j + 1 : Nat) : Int) := by omega
        have j3 : (0 : Int) ≤ (j : Int) := by omega
        have j4 : (j : Int) < (L : Int) := by omega
        by_cases h3 : q ≤ bv
        · obtain rfl : V = 8 := by rw [← hV, if_pos h3]
          go_upto_region 8 with fail
          go_quiet (fail)
          go_wp2_with fail
          go_ret
          exact ⟨rfl, bdrewN HB.out _⟩
        rw [if_neg h3] at hV
        have HVV := Lib.hid hV
        clear hV
        obtain ⟨z, HZ⟩ : ∃ v, Hid (sgn a * sgn b = v) := ⟨_, rfl⟩
        rw [HZ.out] at HVV
        by_cases h4 : z = 0
        · subst h4
          obtain rfl : V = 11 := by rw [← HVV.out, if_pos rfl]
          go_upto_region 8 with fail
          go_quiet (fail)
          have I1 := i1.call (bdrewN (Below.refl _ wr) nq)
          have I2 := i2.call (bdrewN (Below.refl _ wr) nq)
          go_wp2_with (first
            | (go_at_call 38; (with_reducible refine (rsignF_at I1 I2 za9 zb9).mono ?_); rw [sgn_rn, HZ.out]; rintro ee w2 ⟨rfl, g2⟩)
            | fail)
          go_ret
          exact ⟨rfl, bcall HB.out (Below.trans (bdrewN (Below.refl _ wr) nq) g2)⟩
        · have HV3 : Hid (vrest n (bef l (j + 1 + 1)) (l.drop (j + 1 + 1)) = V) := by unfold Hid; rw [hbs, ← HVV.out, if_neg h4]
          go_upto_region 8 with fail
          go_quiet (fail)
          have I1 := i1.call (bdrewN (Below.refl _ wr) nq)
          have I2 := i2.call (bdrewN (Below.refl _ wr) nq)
          go_wp2_with (first
            | (go_at_call 38; (with_reducible refine (rsignF_at I1 I2 za9 zb9).mono ?_); rw [sgn_rn, HZ.out]; rintro ee w2 ⟨rfl, g2⟩)
            | fail)
          go_roundg (gk - 1)
          case rel => exact ⟨j + 1 + 1, by have := HK.out; have := HLT.out; omega, by go_num, bcall HB.out (Below.trans (bdrewN (Below.refl _ wr) nq) g2), HV3.out⟩
          case measure => have := HK.out; have := HLT.out; omega
    · obtain rfl : k = L := by omega
      have hlen : l.drop k = [] := List.drop_eq_nil_of_le (by rw [HL.out]; exact Nat.le_refl _)
      rw [hlen] at hV
      obtain rfl : 0 = V := hV
      have j1 : ¬ (k : Int) < (k : Int) := by omega
      go_wp2_with fail
      go_ret
      exact ⟨rfl, hB⟩
end Go.Proofs.Ytplmfdgdbolcaaa
