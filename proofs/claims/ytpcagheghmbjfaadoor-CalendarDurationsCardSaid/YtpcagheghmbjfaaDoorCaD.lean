/-
  Calendar: the program's isDate.
-/
import Derived.Test.YtpcagheghmbjfaaDoorCaC
import Derived.Deep.RegionHeld3
set_option linter.unusedVariables false
set_option linter.unusedSimpArgs false
set_option warningAsError false
namespace Go.Proofs.YtpcagheghmbjfaaDoor
open Go.RowKit

theorem quietQ {P : Program} {f : FuncId} {args : Array Value} {w : World} {n : Nat} {b : Bool} (h : Calls P f args (w.drewN n) (RetQ (w.drewN n) b)) : Calls P f args (w.drewN n) fun e w'' => e = .returned (.bool b) ∧ ∃ m, w'' = w.drewN m :=
  h.mono fun _ _ ⟨he, hm⟩ => ⟨he, n, hm.symm⟩
theorem quietI {P : Program} {f : FuncId} {args : Array Value} {w : World} {n : Nat} {z : Int} (h : Calls P f args (w.drewN n) (RetI0 (w.drewN n) z)) : Calls P f args (w.drewN n) fun e w'' => e = .returned (.int .i64 z) ∧ ∃ m, w'' = w.drewN m :=
  h.mono fun _ _ ⟨he, hm⟩ => ⟨he, n, hm.symm⟩
theorem MonT.drew {w : World} (h : MonT w) : MonT w.drew := h.below (Below.refl w.heap.size w).drew (Nat.le_refl _)
set_option maxHeartbeats 4000000 in
set_option maxRecDepth 100000 in
theorem isDate_any (y m d : Int) (h0 : -9223372036854775808 ≤ y) (h1 : y ≤ 9223372036854775807) (w : World) (hT : MonT w) : Calls Tryd.prog 39 #[dateV y m d] w (RetB1 w (dateB y m d)) := by
  have hdef : dateB y m d = (decide (1999 ≤ y ∧ y ≤ 2100) && (decide (1 ≤ m ∧ m ≤ 12) && (decide (1 ≤ d) && decide (d ≤ mlB (leapB y) m.toNat)))) := rfl
  obtain ⟨B, HB⟩ : ∃ v, Hid (dateB y m d = v) := ⟨_, rfl⟩
  rw [HB.out] at hdef ⊢
  unfold dateV
  have hy := isYear_any y
  have hm := isMonth_any m
  by_cases hY : 1999 ≤ y ∧ y ≤ 2100
  · rw [decide_eq_true hY] at hy hdef
    by_cases hM : 1 ≤ m ∧ m ≤ 12
    · rw [decide_eq_true hM] at hm hdef
      obtain ⟨k, rfl⟩ : ∃ k : Nat, m = (k : Int) := ⟨m.toNat, by omega⟩
      have hl := fun w (hw : MonT w) => monthLength_any y k (by omega) (by omega) h0 h1 w hw
      rw [show ((k : Int)).toNat = k from rfl, Bool.true_and, Bool.true_and] at hdef
      obtain ⟨M, HM⟩ : ∃ v, Hid (mlB (leapB y) k = v) := ⟨_, rfl⟩
      rw [HM.out] at hl hdef
      clear hY hM
      have hT2 := (hT.below (cnew w (.cells #[Value.int IntKind.i64 y, Value.int IntKind.i64 ↑k, Value.int IntKind.i64 d] 23)) (Nat.le_refl _))
      clear hT
      by_cases d1 : 1 ≤ d
      · by_cases d2 : d ≤ M
        · obtain rfl : B = true := by rw [hdef]; simp [d1, d2]
          clear hdef
          go_enter Tryd.func39, Tryd.ntmps39
          go_upto_region 1 with fail
          go_quiet (first
            | (go_at_call 44; exact quietQ (hy _))
            | (go_at_call 46; exact quietQ (hm _))
            | (go_at_call 47; exact quietI (hl _ (hT2.drewN _)))
            | fail)
          go_wp2_with fail
          go_ret
          exact ⟨rfl, below_drewN (cnew _ _) _⟩
        · obtain rfl : B = false := by rw [hdef]; simp [d2]
          have d3 : decide (d ≤ M) = false := by simpa using d2
          clear hdef
          go_enter Tryd.func39, Tryd.ntmps39
          go_upto_region 1 with fail
          go_quiet (first
            | (go_at_call 44; exact quietQ (hy _))
            | (go_at_call 46; exact quietQ (hm _))
            | (go_at_call 47; exact quietI (hl _ (hT2.drewN _)))
            | fail)
          go_wp2_with fail
          go_ret
          exact ⟨rfl, below_drewN (cnew _ _) _⟩
      · obtain rfl : B = false := by rw [hdef]; simp [d1]
        clear hdef
        go_enter Tryd.func39, Tryd.ntmps39
        go_upto_region 1 with fail
        go_quiet (first
          | (go_at_call 44; exact quietQ (hy _))
          | (go_at_call 46; exact quietQ (hm _))
          | (go_at_call 47; exact quietI (hl _ (hT2.drewN _)))
          | fail)
        go_wp2_with fail
        go_ret
        exact ⟨rfl, below_drewN (cnew _ _) _⟩
    · rw [decide_eq_false hM] at hm hdef
      obtain rfl : B = false := by rw [hdef]; simp
      clear hdef hM hT
      go_enter Tryd.func39, Tryd.ntmps39
      go_upto_region 1 with fail
      go_quiet (first
        | (go_at_call 44; exact quietQ (hy _))
        | (go_at_call 46; exact quietQ (hm _))
        | fail)
      go_wp2_with fail
      go_ret
      exact ⟨rfl, below_drewN (cnew _ _) _⟩
  · rw [decide_eq_false hY] at hy hdef
    obtain rfl : B = false := by rw [hdef]; simp
    clear hdef hY hT
    go_enter Tryd.func39, Tryd.ntmps39
    go_upto_region 1 with fail
    go_quiet (first
      | (go_at_call 44; exact quietQ (hy _))
      | (go_at_call 46; exact quietQ (hm _))
      | fail)
    go_wp2_with fail
    go_ret
    exact ⟨rfl, below_drewN (cnew _ _) _⟩
end Go.Proofs.YtpcagheghmbjfaaDoor

