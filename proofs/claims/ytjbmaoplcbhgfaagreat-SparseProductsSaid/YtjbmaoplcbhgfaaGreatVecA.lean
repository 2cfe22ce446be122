/-
  Vectors in memory; Validate on both sides; Light of vectors; vectors of parameters.
-/
import Derived.Test.YtjbmaoplcbhgfaaGreatSums
import Derived.Test.YtjbmaoplcbhgfaaGreatLightA
import Derived.Test.YtjbmaoplcbhgfaaGreatFrM
set_option linter.unusedVariables false
set_option linter.unusedSimpArgs false
namespace Go.Proofs.YtjbmaoplcbhgfaaGreat
section
open Go.RowKit

/-- An entry of a vector in memory. -/
structure VE where
  (k : Int) (e : FE)
def VE.In (w : World) (g o : Nat) (x : VE) : Prop := w.cell? ⟨g, o, none⟩ = some (.int .i64 x.k) ∧ FE.In w g (o + 1) x.e
/-- A slice that reads as a vector. -/
def VL (w : World) (A : Option Addr) (l : List VE) : Prop :=
  (∀ x ∈ l, FE.At w x.e) ∧ (0 < l.length → ∃ g o, A = some ⟨g, o, none⟩ ∧ g < w.heap.size ∧ ∀ k x, l[k]? = some x → VE.In w g (o + k * 5) x)
theorem VE.In.call {w w' : World} {g o : Nat} {x : VE} (h : VE.In w g o x) (hg : g < w.heap.size) (hb : Below w.heap.size w w') : VE.In w' g o x :=
  ⟨((bcell hb).1 g _ hg).trans h.1, h.2.call hg hb⟩
theorem VL.call {w w' : World} {A : Option Addr} {l : List VE} (h : VL w A l) (hb : Below w.heap.size w w') : VL w' A l := by
  refine ⟨fun e he => (h.1 e he).call hb, fun hl => ?_⟩
  obtain ⟨g, o, e1, e2, e4⟩ := h.2 hl
  exact ⟨g, o, e1, Nat.lt_of_lt_of_le e2 hb.size, fun k e hk => (e4 k e hk).call e2 hb⟩

/-- What Validate answers for the rest of a vector, behind an index. -/
def vrest (n : Int) : Int → List VE → Int
  | _, [] => 0
  | b, x :: l => if x.k < 0 ∨ n ≤ x.k then 5 else if x.k ≤ b then 8 else if sgn x.e.a * sgn x.e.b = 0 then 11 else vrest n x.k l
def valid (l : List VE) (n : Int) : Int := if n < 0 ∨ 4096 < n then 5 else vrest n (-1) l
/-- The index before the k-th. -/
def bef (l : List VE) : Nat → Int
  | 0 => -1
  | k + 1 => ((l[k]?).map VE.k).getD (-1)
theorem drop_get {l : List VE} {k : Nat} {x : VE} (h : l[k]? = some x) : l.drop k = x :: l.drop (k + 1) := by
  obtain ⟨hk, rfl⟩ := List.getElem?_eq_some_iff.1 h
  exact List.drop_eq_getElem_cons hk
theorem bef_succ {l : List VE} {k : Nat} {x : VE} (h : l[k]? = some x) : bef l (k + 1) = x.k := by show ((l[k]?).map VE.k).getD (-1) = x.k; rw [h]; rfl

set_option maxHeartbeats 8000000 in
set_option maxRecDepth 100000 in
theorem rvalid_at {w : World} {A : Option Addr} {c : Nat} {l : List VE} {n : Int} (hF : VL w A l) (hS : ∀ x ∈ l, FE.S 1900 x.e) (hl : l.length ≤ 1000000) (hn1 : -9223372036854775808 ≤ n) (hn2 : n ≤ 9223372036854775807) :
    Calls Tryz.prog 26 #[.slice A l.length c, .int .i64 n] w (RetN w (valid l n)) := by
  have HF := Lib.hid hF
  have HSS := Lib.hid hS
  clear hF hS
  obtain ⟨L, HL⟩ : ∃ v, Hid (l.length = v) := ⟨_, rfl⟩
  rw [HL.out] at hl
  rw [HL.out]
  obtain ⟨V, HV⟩ : ∃ v, Hid (valid l n = v) := ⟨_, rfl⟩
  rw [HV.out]
  go_enter Tryz.func26, Tryz.ntmps26
  by_cases hn3 : n < 0
  · obtain rfl : V = 5 := by rw [← HV.out]; unfold valid; rw [if_pos (Or.inl hn3)]
    go_wp2_with fail
    go_ret
    exact ⟨rfl, Below.refl _ _⟩
  by_cases hn4 : 4096 < n
  · obtain rfl : V = 5 := by rw [← HV.out]; unfold valid; rw [if_pos (Or.inr hn4)]
    go_wp2_with fail
    go_ret
    exact ⟨rfl, Below.refl _ _⟩
  have HV2 : Hid (vrest n (bef l 0) (l.drop 0) = V) := by unfold Hid; rw [← HV.out]; unfold valid; rw [if_neg (by omega)]; rfl
  clear HV
  go_upto_region 4 with fail
  go_loopg [5] L (fun r i wr => ∃ k : Nat, k + r = L ∧ i = .int .i64 k ∧ Below w.heap.size w wr ∧ vrest n (bef l k) (l.drop k) = V)
  case atStart => exact ⟨0, by omega, rfl, Below.refl _ _, HV2.out⟩
  case round =>
    obtain ⟨k, hk, rfl, hB, hV⟩ := hrel
    by_cases hlt : k < L
    · obtain ⟨x, hx⟩ : ∃ x, l[k]? = some x := ⟨l[k]'(by rw [HL.out]; exact hlt), List.getElem?_eq_getElem _⟩
      have hmem : x ∈ l := List.mem_of_getElem? hx
      obtain ⟨g, o, hA, hg, hcell⟩ := HF.out.2 (by rw [HL.out]; omega)
      have hin := (hcell k x hx).call hg hB
      have hprev : Hid (∀ j, k = j + 1 → wr.cell? ⟨g, o + j * 5, none⟩ = some (.int .i64 (bef l k))) := by
        intro j hj
        subst hj
        obtain ⟨y, hy⟩ : ∃ y, l[j]? = some y := ⟨l[j]'(by rw [HL.out]; omega), List.getElem?_eq_getElem _⟩
        have := ((hcell j y hy).call hg hB).1
        rw [this, bef_succ hy]
      have hat := (HF.out.1 x hmem).call hB
      have hsm := HSS.out x hmem
      have hbs := bef_succ hx
      rw [drop_get hx] at hV
      obtain ⟨q, e⟩ := x
      obtain ⟨s, P, pn, pc, s', P', qn, qc, a, b⟩ := e
      obtain ⟨ck, c0, c1, c2, c3⟩ := hin
      obtain ⟨i1, i2⟩ := hat
      obtain ⟨za, zb⟩ := hsm
      simp only at ck c0 c1 c2 c3 i1 i2 za zb hbs
      clear hcell hx hmem
      unfold vrest at hV
      simp only at hV
      have za9 : Sz a 1900 := za
      have zb9 : Sz b 1900 := zb
      subst hA
      have j0 : (0 : Int) ≤ (k : Int) := by omega
      have j1 : (k : Int) < (L : Int) := by omega
      have HK := Lib.hid hk
      have HLT := Lib.hid hlt
      clear hk
      have HB := Lib.hid hB
      clear hB
      by_cases h1 : q < 0
      · obtain rfl : V = 5 := by rw [← hV, if_pos (Or.inl h1)]
        go_wp2_with fail
        go_ret
        exact ⟨rfl, HB.out⟩
      by_cases h2 : n ≤ q
      · obtain rfl : V = 5 := by rw [← hV, if_pos (Or.inr h2)]
        go_wp2_with fail
        go_ret
        exact ⟨rfl, HB.out⟩
      rw [if_neg (by omega)] at hV
      cases k with
      | zero =>
        clear hprev
        simp only [Nat.zero_mul, Nat.add_zero] at ck c0 c1 c2 c3
        have h3 : ¬ q ≤ bef l 0 := by show ¬ q ≤ (-1 : Int); omega
        rw [if_neg h3] at hV
        have HVV := Lib.hid hV
        clear hV
        obtain ⟨z, HZ⟩ : ∃ v, Hid (sgn a * sgn b = v) := ⟨_, rfl⟩
        rw [HZ.out] at HVV
        by_cases h4 : z = 0
        · subst h4
          obtain rfl : V = 11 := by rw [← HVV.out, if_pos rfl]
          go_upto_region 8 with fail
          go_quiet (fail)
          have I1 := i1.call (bdrewN (Below.refl _ wr) nq)
          have I2 := i2.call (bdrewN (Below.refl _ wr) nq)
          go_wp2_with (first
            | (go_at_call 45; (with_reducible refine (rsignF_at I1 I2 za9 zb9).mono ?_); rw [sgn_rn, HZ.out]; rintro ee w2 ⟨rfl, g2⟩)
            | fail)
          go_ret
          exact ⟨rfl, bcall HB.out (Below.trans (bdrewN (Below.refl _ wr) nq) g2)⟩
        · have HV3 : Hid (vrest n (bef l (0 + 1)) (l.drop (0 + 1)) = V) := by unfold Hid; rw [hbs, ← HVV.out, if_neg h4]
          go_upto_region 8 with fail
          go_quiet (fail)
          have I1 := i1.call (bdrewN (Below.refl _ wr) nq)
          have I2 := i2.call (bdrewN (Below.refl _ wr) nq)
          go_wp2_with (first
            | (go_at_call 45; (with_reducible refine (rsignF_at I1 I2 za9 zb9).mono ?_); rw [sgn_rn, HZ.out]; rintro ee w2 ⟨rfl, g2⟩)
            | fail)
          go_roundg (gk - 1)
          case rel => exact ⟨0 + 1, by have := HK.out; have := HLT.out; omega, by go_num, bcall HB.out (Below.trans (bdrewN (Below.refl _ wr) nq) g2), HV3.out⟩
          case measure => have := HK.out; have := HLT.out; omega
      | succ j =>
        have hp := hprev.out j rfl
        clear hprev
        obtain ⟨bv, HBV⟩ : ∃ v, Hid (bef l (j + 1) = v) := ⟨_, rfl⟩
        rw [HBV.out] at hp hV
        have hw1 : IntKind.i64.wrap (((j + 1 : Nat) : Int) - 1) = (j : Int) := by rw [IntKind.wrap_i64]; omega
        have hw2 : IntKind.i64.wrap (j : Int) = (j : Int) := by rw [IntKind.wrap_i64]; omega
        have j2 : (0 : Int) < ((j + 1 : Nat) : Int) := by omega
        have j3 : (0 : Int) ≤ (j : Int) := by omega
        have j4 : (j : Int) < (L : Int) := by omega
        by_cases h3 : q ≤ bv
        · obtain rfl : V = 8 := by rw [← hV, if_pos h3]
          go_upto_region 8 with fail
          go_quiet (fail)
          go_wp2_with fail
          go_ret
          exact ⟨rfl, bdrewN HB.out _⟩
        rw [if_neg h3] at hV
        have HVV := Lib.hid hV
        clear hV
        obtain ⟨z, HZ⟩ : ∃ v, Hid (sgn a * sgn b = v) := ⟨_, rfl⟩
        rw [HZ.out] at HVV
        by_cases h4 : z = 0
        · subst h4
          obtain rfl : V = 11 := by rw [← HVV.out, if_pos rfl]
          go_upto_region 8 with fail
          go_quiet (fail)
          have I1 := i1.call (bdrewN (Below.refl _ wr) nq)
          have I2 := i2.call (bdrewN (Below.refl _ wr) nq)
          go_wp2_with (first
            | (go_at_call 45; (with_reducible refine (rsignF_at I1 I2 za9 zb9).mono ?_); rw [sgn_rn, HZ.out]; rintro ee w2 ⟨rfl, g2⟩)
            | fail)
          go_ret
          exact ⟨rfl, bcall HB.out (Below.trans (bdrewN (Below.refl _ wr) nq) g2)⟩
        · have HV3 : Hid (vrest n (bef l (j + 1 + 1)) (l.drop (j + 1 + 1)) = V) := by unfold Hid; rw [hbs, ← HVV.out, if_neg h4]
          go_upto_region 8 with fail
          go_quiet (fail)
          have I1 := i1.call (bdrewN (Below.refl _ wr) nq)
          have I2 := i2.call (bdrewN (Below.refl _ wr) nq)
          go_wp2_with (first
            | (go_at_call 45; (with_reducible refine (rsignF_at I1 I2 za9 zb9).mono ?_); rw [sgn_rn, HZ.out]; rintro ee w2 ⟨rfl, g2⟩)
            | fail)
          go_roundg (gk - 1)
          case rel => exact ⟨j + 1 + 1, by have := HK.out; have := HLT.out; omega, by go_num, bcall HB.out (Below.trans (bdrewN (Below.refl _ wr) nq) g2), HV3.out⟩
          case measure => have := HK.out; have := HLT.out; omega
    · obtain rfl : k = L := by omega
      have hlen : l.drop k = [] := List.drop_eq_nil_of_le (by rw [HL.out]; exact Nat.le_refl _)
      rw [hlen] at hV
      obtain rfl : 0 = V := hV
      have j1 : ¬ (k : Int) < (k : Int) := by omega
      go_wp2_with fail
      go_ret
      exact ⟨rfl, hB⟩
end
section
open Go.RowKit

theorem isDim_any (n : Int) (w : World) : Calls Tryz.prog 40 #[.int .i64 n] w (RetB1 w (decide (0 ≤ n ∧ n ≤ 4096))) := by
  go_enter Tryz.func40, Tryz.ntmps40
  by_cases h1 : 0 ≤ n
  · by_cases h2 : n ≤ 4096
    · have e : decide (0 ≤ n ∧ n ≤ 4096) = true := by simp [h1, h2]
      rw [e]
      go_wp2_with fail
      go_ret
      exact ⟨rfl, Below.refl _ _⟩
    · have e : decide (0 ≤ n ∧ n ≤ 4096) = false := by simp [h1, h2]
      rw [e]
      go_wp2_with fail
      go_ret
      exact ⟨rfl, Below.refl _ _⟩
  · have e : decide (0 ≤ n ∧ n ≤ 4096) = false := by simp [h1]
    rw [e]
    go_wp2_with fail
    go_ret
    exact ⟨rfl, Below.refl _ _⟩

set_option maxHeartbeats 8000000 in
set_option maxRecDepth 100000 in
theorem valid_at {w : World} {A : Option Addr} {c : Nat} {l : List VE} {n : Int} (hF : VL w A l) (hl : l.length ≤ 1000000) :
    Calls Tryz.prog 39 #[.slice A l.length c, .int .i64 n] w (RetN w (valid l n)) := by
  have HF := Lib.hid hF
  clear hF
  obtain ⟨L, HL⟩ : ∃ v, Hid (l.length = v) := ⟨_, rfl⟩
  rw [HL.out] at hl
  rw [HL.out]
  obtain ⟨V, HV⟩ : ∃ v, Hid (valid l n = v) := ⟨_, rfl⟩
  rw [HV.out]
  by_cases hn : 0 ≤ n ∧ n ≤ 4096
  rotate_left
  · obtain rfl : V = 5 := by rw [← HV.out]; unfold valid; rw [if_pos (by omega)]
    have hd := isDim_any n w
    rw [show decide (0 ≤ n ∧ n ≤ 4096) = false by simp [hn]] at hd
    go_enter Tryz.func39, Tryz.ntmps39
    go_wp2_with (first
      | (go_at_call 40; (with_reducible refine hd.mono ?_); rintro e w1 ⟨rfl, g1⟩)
      | fail)
    go_ret
    exact ⟨rfl, g1⟩
  have hd := isDim_any n w
  rw [show decide (0 ≤ n ∧ n ≤ 4096) = true by simp [hn]] at hd
  have HV2 : Hid (vrest n (bef l 0) (l.drop 0) = V) := by unfold Hid; rw [← HV.out]; unfold valid; rw [if_neg (by omega)]; rfl
  clear HV hn
  go_enter Tryz.func39, Tryz.ntmps39
  go_upto_region 5 with (first
      | (go_at_call 40; (with_reducible refine hd.mono ?_); rintro e w1 ⟨rfl, g1⟩)
      | fail)
  clear hd
  have hb0 := g1
  clear g1
  go_loopg [13, 5] L (fun r i b wr => ∃ k : Nat, k + r = L ∧ i = .int .i64 k ∧ b = .int .i64 (bef l k) ∧ Below w.heap.size w wr ∧ vrest n (bef l k) (l.drop k) = V)
  case atStart => exact ⟨0, by omega, rfl, rfl, hb0, HV2.out⟩
  case round =>
    obtain ⟨k, hk, rfl, rfl, hB, hV⟩ := hrel
    by_cases hlt : k < L
    · obtain ⟨x, hx⟩ : ∃ x, l[k]? = some x := ⟨l[k]'(by rw [HL.out]; exact hlt), List.getElem?_eq_getElem _⟩
      have hmem : x ∈ l := List.mem_of_getElem? hx
      obtain ⟨g, o, hA, hg, hcell⟩ := HF.out.2 (by rw [HL.out]; omega)
      have hin := (hcell k x hx).call hg hB
      have hat := (HF.out.1 x hmem).call hB
      have hbs := bef_succ hx
      rw [drop_get hx] at hV
      obtain ⟨q, e⟩ := x
      obtain ⟨s, P, pn, pc, s', P', qn, qc, a, b⟩ := e
      obtain ⟨ck, c0, c1, c2, c3⟩ := hin
      obtain ⟨i1, i2⟩ := hat
      simp only at ck c0 c1 c2 c3 i1 i2 hbs
      clear hcell hx hmem
      unfold vrest at hV
      simp only at hV
      subst hA
      obtain ⟨bv, HBV⟩ : ∃ v, Hid (bef l k = v) := ⟨_, rfl⟩
      rw [HBV.out] at hV ⊢
      have j0 : (0 : Int) ≤ (k : Int) := by omega
      have j1 : (k : Int) < (L : Int) := by omega
      have HK := Lib.hid hk
      have HLT := Lib.hid hlt
      clear hk
      have HB := Lib.hid hB
      have HS := Lib.hid hB.size
      have hB2 := Lib.hid (hB.alloc hB.size (.cells #[.int .i64 q, .bool s, .slice P pn pc, .bool s', .slice P' qn qc] 49))
      have I1 := i1.call (bnew wr (.cells #[.int .i64 q, .bool s, .slice P pn pc, .bool s', .slice P' qn qc] 49))
      have I2 := i2.call (bnew wr (.cells #[.int .i64 q, .bool s, .slice P pn pc, .bool s', .slice P' qn qc] 49))
      clear hB i1 i2
      by_cases h1 : q < 0
      · obtain rfl : V = 5 := by rw [← hV, if_pos (Or.inl h1)]
        go_wp2_with fail
        go_ret
        exact ⟨rfl, hB2.out⟩
      by_cases h2 : n ≤ q
      · obtain rfl : V = 5 := by rw [← hV, if_pos (Or.inr h2)]
        go_wp2_with fail
        go_ret
        exact ⟨rfl, hB2.out⟩
      rw [if_neg (by omega)] at hV
      by_cases h3 : q ≤ bv
      · obtain rfl : V = 8 := by rw [← hV, if_pos h3]
        go_wp2_with fail
        go_ret
        exact ⟨rfl, hB2.out⟩
      rw [if_neg h3] at hV
      have HVV := Lib.hid hV
      clear hV
      obtain ⟨z, HZ⟩ : ∃ v, Hid (sgn a * sgn b = v) := ⟨_, rfl⟩
      rw [HZ.out] at HVV
      by_cases h4 : z = 0
      · subst h4
        obtain rfl : V = 11 := by rw [← HVV.out, if_pos rfl]
        go_wp2_with (first
          | (go_at_call 48; (with_reducible refine (fsign_at I1 I2).mono ?_); rw [HZ.out]; rintro ee w2 ⟨rfl, g2⟩)
          | fail)
        go_ret
        exact ⟨rfl, bcall hB2.out g2⟩
      · have HV3 : Hid (vrest n (bef l (k + 1)) (l.drop (k + 1)) = V) := by unfold Hid; rw [hbs, ← HVV.out, if_neg h4]
        go_wp2_with (first
          | (go_at_call 48; (with_reducible refine (fsign_at I1 I2).mono ?_); rw [HZ.out]; rintro ee w2 ⟨rfl, g2⟩; have ci : w2.cell? ⟨wr.heap.size, 0, none⟩ = some (.int .i64 q) := ((bcell g2).1 wr.heap.size 0 (by simp)).trans (by simp))
          | fail)
        go_roundg (gk - 1)
        case rel => exact ⟨k + 1, by have := HK.out; have := HLT.out; omega, by go_num, by rw [hbs], bcall hB2.out g2, HV3.out⟩
        case measure => have := HK.out; have := HLT.out; omega
    · obtain rfl : k = L := by omega
      have hlen : l.drop k = [] := List.drop_eq_nil_of_le (by rw [HL.out]; exact Nat.le_refl _)
      rw [hlen] at hV
      obtain rfl : 0 = V := hV
      have j1 : ¬ (k : Int) < (k : Int) := by omega
      go_wp2_with fail
      go_ret
      exact ⟨rfl, hB⟩
end
section
open Go.RowKit

/-- A vector that is handed on. -/
structure VV where
  (A : Option Addr) (c : Nat) (l : List VE)
def VV.Ok (w : World) (v : VV) : Prop :=
  (∀ x ∈ v.l, x.e.n ≤ 140737488351232 ∧ x.e.m ≤ 140737488351232) ∧ v.l.length ≤ 140737488351232 ∧
    (0 < v.l.length → ∃ g o, v.A = some ⟨g, o, none⟩ ∧ g < w.heap.size ∧ ∀ k x, v.l[k]? = some x → VE.In w g (o + k * 5) x)
def LtE (x : VE) : Prop := x.e.n ≤ 12 ∧ x.e.m ≤ 12
def tot : List VV → Nat
  | [] => 0
  | v :: vs => v.l.length + tot vs
def AllL (vs : List VV) : Prop := ∀ v ∈ vs, ∀ x ∈ v.l, LtE x
theorem tot_snoc (vs : List VV) (v : VV) : tot (vs ++ [v]) = tot vs + v.l.length := by
  induction vs with
  | nil => simp [tot]
  | cons u vs ih => simp only [List.cons_append, tot, ih]; omega
theorem take_vsnoc {α : Type} {l : List α} {k : Nat} {x : α} (h : l[k]? = some x) : l.take (k + 1) = l.take k ++ [x] := by rw [List.take_add_one, h]; rfl
theorem tot_le {vs : List VV} (h : ∀ v ∈ vs, v.l.length ≤ 140737488351232) : tot vs ≤ vs.length * 140737488351232 := by
  induction vs with
  | nil => simp [tot]
  | cons u vs ih =>
    have h1 := h u (by simp)
    have h2 := ih (fun v hv => h v (by simp [hv]))
    simp only [tot, List.length_cons]
    omega

set_option maxHeartbeats 8000000 in
set_option maxRecDepth 100000 in
theorem light3_any (g : Nat) (vs : List VV) (c : Nat) (w : World) (hg : g < w.heap.size) (hlen : vs.length ≤ 20) (hok : ∀ v ∈ vs, VV.Ok w v)
    (hc : ∀ i v, vs[i]? = some v → w.cell? ⟨g, i, none⟩ = some (.slice v.A v.l.length v.c)) (b : Bool) (hb : b = true ↔ AllL vs ∧ tot vs ≤ 60) :
    Calls Tryz.prog 5 #[.slice (some ⟨g, 0, none⟩) vs.length c] w (RetB1 w b) := by
  have HOK := Lib.hid hok
  have HC := Lib.hid hc
  have HBB := Lib.hid hb
  clear hok hc hb
  obtain ⟨L, HL⟩ : ∃ v, Hid (vs.length = v) := ⟨_, rfl⟩
  rw [HL.out] at hlen
  rw [HL.out]
  have HT : Hid (∀ k, tot (vs.take k) ≤ 2814749767024640) := fun k => by
    have h1 := tot_le (vs := vs.take k) (fun v hv => (HOK.out v (List.mem_of_mem_take hv)).2.1)
    have h2 : (vs.take k).length ≤ 20 := Nat.le_trans (List.length_take_le' _ _) (by rw [HL.out]; exact hlen)
    have := Nat.mul_le_mul_right 140737488351232 h2
    omega
  go_enter Tryz.func5, Tryz.ntmps5
  go_upto_region 3 with fail
  go_loopg [3, 4] L (fun r t i wr => ∃ k : Nat, k + r = L ∧ t = .int .i64 (tot (vs.take k) : Nat) ∧ i = .int .i64 k ∧ AllL (vs.take k) ∧ Below w.heap.size w wr)
  case atStart => exact ⟨0, by omega, rfl, rfl, (fun v hv => by cases hv), Below.refl _ _⟩
  case round =>
    obtain ⟨k, hk, rfl, rfl, hall, hB⟩ := hrel
    obtain ⟨t, HTT⟩ : ∃ v, Hid (tot (vs.take k) = v) := ⟨_, rfl⟩
    have ht := HT.out k
    rw [HTT.out] at ht ⊢
    by_cases hlt : k < L
    · obtain ⟨v, hv⟩ : ∃ v, vs[k]? = some v := ⟨vs[k]'(by rw [HL.out]; exact hlt), List.getElem?_eq_getElem _⟩
      have hmem := List.mem_of_getElem? hv
      have c0 := ((bcell hB).1 g k hg).trans (HC.out k _ hv)
      obtain ⟨hn, hm, hcell⟩ := HOK.out v hmem
      have hts := take_vsnoc hv
      have htk : tot (vs.take (k + 1)) = t + v.l.length := by rw [hts, tot_snoc, HTT.out]
      have hak : (∀ x ∈ v.l, LtE x) → AllL (vs.take (k + 1)) := fun h u hu => by
        rw [hts] at hu
        rcases List.mem_append.1 hu with h' | h'
        · exact hall u h'
        · rw [List.mem_singleton.1 h']; exact h
      have hbad : ∀ x ∈ v.l, ¬ LtE x → b = false := fun x hx hnx => by
        cases hbb : b with
        | false => rfl
        | true => exact absurd ((HBB.out.1 hbb).1 v hmem x hx) hnx
      have HAK := Lib.hid hak
      have HTK := Lib.hid htk
      have HBAD := Lib.hid hbad
      have HALL := Lib.hid hall
      clear hak htk hbad hall hts hmem
      obtain ⟨vA, vc, vl⟩ := v
      simp only at c0 hm hn hcell
      obtain ⟨M, HM⟩ : ∃ u, Hid (vl.length = u) := ⟨_, rfl⟩
      rw [HM.out] at c0 hm
      have HN := Lib.hid hn
      have HCC := Lib.hid hcell
      clear hn hcell
      have j0 : (0 : Int) ≤ (k : Int) := by omega
      have j1 : (k : Int) < (L : Int) := by omega
      have HK := Lib.hid hk
      have HLT := Lib.hid hlt
      clear hk hlt
      have HB0 := Lib.hid hB
      clear hB
      have hw : IntKind.i64.wrap ((t : Int) + (M : Int)) = (t : Int) + (M : Int) := by rw [IntKind.wrap_i64]; omega
      go_upto_region 7 with fail
      obtain ⟨gK, rfl⟩ : ∃ x, x = gk := ⟨_, rfl⟩
      go_loopg [5] M (fun r i wr' => ∃ j : Nat, j + r = M ∧ i = .int .i64 j ∧ (∀ x ∈ vl.take j, LtE x) ∧ Below w.heap.size w wr')
      case atStart => exact ⟨0, by omega, rfl, (fun x hx => by cases hx), HB0.out⟩
      case round =>
        obtain ⟨j, hj, rfl, hl, hB'⟩ := hrel
        have c1 := ((bcell hB').1 g k hg).trans (HC.out k _ hv)
        rw [HM.out] at c1
        by_cases hjt : j < M
        · obtain ⟨x, hx⟩ : ∃ x, vl[j]? = some x := ⟨vl[j]'(by rw [HM.out]; exact hjt), List.getElem?_eq_getElem _⟩
          have hxm := List.mem_of_getElem? hx
          obtain ⟨g', o, hA, hg', hcell⟩ := HCC.out (by rw [HM.out]; omega)
          have hin := (hcell j x hx).call hg' hB'
          obtain ⟨hx1, hx2⟩ := HN.out x hxm
          have hts := take_vsnoc hx
          have hnext : LtE x → ∀ y ∈ vl.take (j + 1), LtE y := fun h y hy => by
            rw [hts] at hy
            rcases List.mem_append.1 hy with h' | h'
            · exact hl y h'
            · rw [List.mem_singleton.1 h']; exact h
          have hbad := HBAD.out x hxm
          unfold LtE at hbad hnext
          clear hcell hts hl hx hxm
          obtain ⟨q, e⟩ := x
          obtain ⟨s, P, pn, pc, s', P', qn, qc, a, b'⟩ := e
          obtain ⟨ck, d0, d1, d2, d3⟩ := hin
          simp only at ck d0 d1 d2 d3 hx1 hx2 hbad
          have HNX := Lib.hid hnext
          clear hnext
          have i0 : (0 : Int) ≤ (j : Int) := by omega
          have i1 : (j : Int) < (M : Int) := by omega
          have HJ := Lib.hid hj
          have HJT := Lib.hid hjt
          clear hj hjt
          have HB2 := Lib.hid (hB'.alloc hB'.size (.cells #[.bool s, .slice P pn pc, .bool s', .slice P' qn qc] 28))
          clear hB'
          subst hA
          have hlight := fun bb hb => lightF1 (w := wr) (s0 := s) (t0 := s') (A0 := P) (B0 := P') (n0 := pn) (c0 := pc) (m0 := qn) (d0 := qc) rfl hx1 hx2 bb hb
          by_cases h12 : pn ≤ 12 ∧ qn ≤ 12
          · have hlt := hlight true (by simp [h12])
            clear hlight hbad
            go_wp2_with (first
              | (go_at_call 6; (with_reducible refine hlt.mono ?_); rintro ee w2 ⟨rfl, g2⟩)
              | fail)
            go_roundg (gk - 1)
            case rel => exact ⟨j + 1, by have := HJ.out; have := HJT.out; omega, by go_num, HNX.out h12, bcall HB2.out g2⟩
            case measure => have := HJ.out; have := HJT.out; omega
          · have hlt := hlight false (by simp; omega)
            obtain rfl : b = false := hbad h12
            clear hlight hbad
            go_wp2_with (first
              | (go_at_call 6; (with_reducible refine hlt.mono ?_); rintro ee w2 ⟨rfl, g2⟩)
              | fail)
            go_ret
            exact ⟨rfl, bcall HB2.out g2⟩
        · obtain rfl : j = M := by omega
          have hall2 : ∀ x ∈ vl, LtE x := by
            have : vl.take j = vl := List.take_of_length_le (by rw [HM.out]; exact Nat.le_refl _)
            rw [this] at hl; exact hl
          have i1 : ¬ (j : Int) < (j : Int) := by omega
          go_wp2_with fail
          go_roundg (gK - 1)
          case rel => exact ⟨k + 1, by have := HK.out; have := HLT.out; omega, by rw [HTK.out, HM.out]; first | go_num | (rw [hw]; go_num), by go_num, HAK.out hall2, hB'⟩
          case measure => have := HK.out; have := HLT.out; omega
    · obtain rfl : k = L := by omega
      have hlen2 : vs.take k = vs := List.take_of_length_le (by rw [HL.out]; exact Nat.le_refl _)
      rw [hlen2] at hall HTT
      have j1 : ¬ (k : Int) < (k : Int) := by omega
      have j2 : (k : Int) ≤ 20 := by omega
      by_cases h60 : t ≤ 60
      · obtain rfl : b = true := HBB.out.2 ⟨hall, by rw [HTT.out]; exact h60⟩
        have j3 : (t : Int) ≤ 60 := by omega
        go_wp2_with fail
        go_ret
        exact ⟨rfl, hB⟩
      · have hbf : b = false := by
          cases hbb : b with
          | false => rfl
          | true => exact absurd (HBB.out.1 hbb).2 (by rw [HTT.out]; exact h60)
        subst hbf
        have j3 : ¬ (t : Int) ≤ 60 := by omega
        go_wp2_with fail
        go_ret
        exact ⟨rfl, hB⟩
end
section
open Go.RowKit

theorem light3_1 {w : World} {A : Option Addr} {c : Nat} {l : List VE} (hok : VV.Ok w ⟨A, c, l⟩) (b : Bool) (hb : b = true ↔ (∀ x ∈ l, LtE x) ∧ l.length ≤ 60) :
    Calls Tryz.prog 5 #[.slice (some ⟨w.heap.size, 0, none⟩) 1 1] (w.alloc (.cells #[.slice A l.length c] 23)) (RetB1 (w.alloc (.cells #[.slice A l.length c] 23)) b) := by
  have hh := Go.Deep.blk_alloc_new w (.cells #[.slice A l.length c] 23)
  refine light3_any w.heap.size [⟨A, c, l⟩] 1 _ (by simp) (by simp) (fun v hv => ?_) (fun i v hv => ?_) b (hb.trans ?_)
  · rw [List.mem_singleton.1 hv]
    refine ⟨hok.1, hok.2.1, fun h => ?_⟩
    obtain ⟨g, o, e1, e2, e3⟩ := hok.2.2 h
    exact ⟨g, o, e1, by simp; omega, fun k x hx => (e3 k x hx).call e2 (bnew _ _)⟩
  · match i, hv with
    | 0, hv =>
      simp only [List.getElem?_cons_zero, Option.some.injEq] at hv
      subst hv
      simp
    | i + 1, hv => simp at hv
  · unfold AllL tot tot
    simp

/-- A vector of a parameter. -/
def VP (w : World) (A : Option Addr) (l : List VE) : Prop :=
  (∀ x ∈ l, FE.P w x.e) ∧ l.length ≤ 140737488351232 ∧ (0 < l.length → ∃ g o, A = some ⟨g, o, none⟩ ∧ g < w.heap.size ∧ ∀ k x, l[k]? = some x → VE.In w g (o + k * 5) x)
theorem VP.ok {w : World} {A : Option Addr} {c : Nat} {l : List VE} (h : VP w A l) : VV.Ok w ⟨A, c, l⟩ :=
  ⟨fun x hx => by obtain ⟨da, db, h1, h2, _, _⟩ := h.1 x hx; exact ⟨h1.2.2.2, h2.2.2.2⟩, h.2.1, h.2.2⟩
theorem VP.vl {w : World} {A : Option Addr} {l : List VE} (h : VP w A l) (hl : ∀ x ∈ l, LtE x) : VL w A l := by
  refine ⟨fun x hx => ?_, h.2.2⟩
  obtain ⟨da, db, h1, h2, e1, e2⟩ := h.1 x hx
  obtain ⟨n1, n2⟩ := hl x hx
  unfold FE.At
  rw [e1, e2]
  exact ⟨h1.i _ n1, h2.i _ n2⟩
theorem VP.sz {w : World} {A : Option Addr} {l : List VE} (h : VP w A l) (hl : ∀ x ∈ l, LtE x) : ∀ x ∈ l, FE.S 12 x.e := by
  intro x hx
  obtain ⟨da, db, h1, h2, e1, e2⟩ := h.1 x hx
  obtain ⟨n1, n2⟩ := hl x hx
  unfold FE.S
  rw [e1, e2]
  exact ⟨h1.z _ n1, h2.z _ n2⟩
end
end Go.Proofs.YtjbmaoplcbhgfaaGreat

