/-
  The program's Validate.
-/
import Derived.Test.YtplmfdgdbolcaaaVec1
set_option linter.unusedVariables false
set_option linter.unusedSimpArgs false
namespace Go.Proofs.Ytplmfdgdbolcaaa
open Go.RowKit

theorem isDim_any (n : Int) (w : World) : Calls Try.prog 132 #[.int .i64 n] w (RetB1 w (decide (0 ≤ n ∧ n ≤ 4096))) := by
  go_enter Try.func132, Try.ntmps132
  by_cases h1 : 0 ≤ n
  · by_cases h2 : n ≤ 4096
    · have e : decide (0 ≤ n ∧ n ≤ 4096) = true := by simp [h1, h2]
      rw [e]
      go_wp2_with fail
      go_ret
      exact ⟨rfl, Below.refl _ _⟩
    · have e : decide (0 ≤ n ∧ n ≤ 4096) = false := by simp [h1, h2]
      rw [e]
      go_wp2_with fail
      go_ret
      exact ⟨rfl, Below.refl _ _⟩
  · have e : decide (0 ≤ n ∧ n ≤ 4096) = false := by simp [h1]
    rw [e]
    go_wp2_with fail
    go_ret
    exact ⟨rfl, Below.refl _ _⟩

set_option maxHeartbeats 8000000 in
set_option maxRecDepth 100000 in
theorem valid_at {w : World} {A : Option Addr} {c : Nat} {l : List VE} {n : Int} (hF : VL w A l) (hl : l.length ≤ 60) :
    Calls Try.prog 67 #[.slice A l.length c, .int .i64 n] w (RetN w (valid l n)) := by
  have HF := Lib.hid hF
  clear hF
  obtain ⟨L, HL⟩ : ∃ v, Hid (l.length = v) := ⟨_, rfl⟩
  rw [HL.out] at hl
  rw [HL.out]
  obtain ⟨V, HV⟩ : ∃ v, Hid (valid l n = v) := ⟨_, rfl⟩
  rw [HV.out]
  by_cases hn : 0 ≤ n ∧ n ≤ 4096
  rotate_left
  · obtain rfl : V = 5 := by rw [← HV.out]; unfold valid; rw [if_pos (by omega)]
    have hd := isDim_any n w
    rw [show decide (0 ≤ n ∧ n ≤ 4096) = false by simp [hn]] at hd
    go_enter Try.func67, Try.ntmps67
    go_wp2_with (first
      | (go_at_call 132; (with_reducible refine hd.mono ?_); rintro e w1 ⟨rfl, g1⟩)
      | fail)
    go_ret
    exact ⟨rfl, g1⟩
  have hd := isDim_any n w
  rw [show decide (0 ≤ n ∧ n ≤ 4096) = true by simp [hn]] at hd
  have HV2 : Hid (vrest n (bef l 0) (l.drop 0) = V) := by unfold Hid; rw [← HV.out]; unfold valid; rw [if_neg (by omega)]; rfl
  clear HV hn
  go_enter Try.func67, Try.ntmps67
  go_upto_region 5 with (first
      | (go_at_call 132; (with_reducible refine hd.mono ?_); rintro e w1 ⟨rfl, g1⟩)
      | fail)
  clear hd
  have hb0 := g1
  clear g1
  go_loopg [13, 5] L (fun r i b wr => ∃ k : Nat, k + r = L ∧ i = .int .i64 k ∧ b = .int .i64 (bef l k) ∧ Below w.heap.size w wr ∧ vrest n (bef l k) (l.drop k) = V)
  case atStart => exact ⟨0, by omega, rfl, rfl, hb0, HV2.out⟩
  case round =>
    obtain ⟨k, hk, rfl, rfl, hB, hV⟩ := hrel
    by_cases hlt : k < L
    · obtain ⟨x, hx⟩ : ∃ x, l[k]? = some x := ⟨l[k]'(by rw [HL.out]; exact hlt), List.getElem?_eq_getElem _⟩
      have hmem : x ∈ l := List.mem_of_getElem? hx
      obtain ⟨g, o, hA, hg, hcell⟩ := HF.out.2 (by rw [HL.out]; omega)
      have hin := (hcell k x hx).call hg hB
      have hat := (HF.out.1 x hmem).1.call hB
      have hbs := bef_succ hx
      rw [drop_get hx] at hV
      obtain ⟨q, e⟩ := x
      obtain ⟨s, P, pn, pc, s', P', qn, qc, a, b⟩ := e
      obtain ⟨ck, c0, c1, c2, c3⟩ := hin
      obtain ⟨i1, i2⟩ := hat
      simp only at ck c0 c1 c2 c3 i1 i2 hbs
      clear hcell hx hmem
      unfold vrest at hV
      simp only at hV
      subst hA
      obtain ⟨bv, HBV⟩ : ∃ v, Hid (bef l k = v) := ⟨_, rfl⟩
      rw [HBV.out] at hV ⊢
      have j0 : (0 : Int) ≤ (k : Int) := by omega
      have j1 : (k : Int) < (L : Int) := by omega
      have HK := Lib.hid hk
      have HLT := Lib.hid hlt
      clear hk
      have HB := Lib.hid hB
      have HS := Lib.hid hB.size
      have hB2 := Lib.hid (hB.alloc hB.size (.cells #[.int .i64 q, .bool s, .slice P pn pc, .bool s', .slice P' qn qc] 76))
      have I1 := i1.call (bnew wr (.cells #[.int .i64 q, .bool s, .slice P pn pc, .bool s', .slice P' qn qc] 76))
      have I2 := i2.call (bnew wr (.cells #[.int .i64 q, .bool s, .slice P pn pc, .bool s', .slice P' qn qc] 76))
      clear hB i1 i2
      by_cases h1 : q < 0
      · obtain rfl : V = 5 := by rw [← hV, if_pos (Or.inl h1)]
        go_wp2_with fail
        go_ret
        exact ⟨rfl, hB2.out⟩
      by_cases h2 : n ≤ q
      · obtain rfl : V = 5 := by rw [← hV, if_pos (Or.inr h2)]
        go_wp2_with fail
        go_ret
        exact ⟨rfl, hB2.out⟩
      rw [if_neg (by omega)] at hV
      by_cases h3 : q ≤ bv
      · obtain rfl : V = 8 := by rw [← hV, if_pos h3]
        go_wp2_with fail
        go_ret
        exact ⟨rfl, hB2.out⟩
      rw [if_neg h3] at hV
      have HVV := Lib.hid hV
      clear hV
      obtain ⟨z, HZ⟩ : ∃ v, Hid (sgn a * sgn b = v) := ⟨_, rfl⟩
      rw [HZ.out] at HVV
      by_cases h4 : z = 0
      · subst h4
        obtain rfl : V = 11 := by rw [← HVV.out, if_pos rfl]
        go_wp2_with (first
          | (go_at_call 37; (with_reducible refine (fsign_at I1 I2).mono ?_); rw [HZ.out]; rintro ee w2 ⟨rfl, g2⟩)
          | fail)
        go_ret
        exact ⟨rfl, bcall hB2.out g2⟩
      · have HV3 : Hid (vrest n (bef l (k + 1)) (l.drop (k + 1)) = V) := by unfold Hid; rw [hbs, ← HVV.out, if_neg h4]
        go_wp2_with (first
          | (go_at_call 37; (with_reducible refine (fsign_at I1 I2).mono ?_); rw [HZ.out]; rintro ee w2 ⟨rfl, g2⟩; have ci : w2.cell? ⟨wr.heap.size, 0, none⟩ = some (.int .i64 q) := ((bcell g2).1 wr.heap.size 0 (by simp)).trans (by simp))
          | fail)
        go_roundg (gk - 1)
        case rel => exact ⟨k + 1, by have := HK.out; have := HLT.out; omega, by go_num, by rw [hbs], bcall hB2.out g2, HV3.out⟩
        case measure => have := HK.out; have := HLT.out; omega
    · obtain rfl : k = L := by omega
      have hlen : l.drop k = [] := List.drop_eq_nil_of_le (by rw [HL.out]; exact Nat.le_refl _)
      rw [hlen] at hV
      obtain rfl : 0 = V := hV
      have j1 : ¬ (k : Int) < (k : Int) := by omega
      go_wp2_with fail
      go_ret
      exact ⟨rfl, hB⟩
end Go.Proofs.Ytplmfdgdbolcaaa
