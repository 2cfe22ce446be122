/-
  The laws' own check that the package is there: -7 divided by 2 is -4 with the remainder 1.
-/
import Derived.Test.YtehoafpnmfkniaaForm
set_option linter.unusedVariables false
set_option linter.unusedSimpArgs false
namespace Go.Proofs.Ytehoafpnmfkniaa
open Go.RowKit

theorem dm72 : dmQ (-7) 2 = -4 ∧ dmR (-7) 2 = 1 ∧ dmE 2 = 0 := by decide
theorem fmt4 : decZ (-4) = [45, 52] := by unfold decZ; rw [if_pos (by decide), decs_small (by decide)]; rfl
theorem fmt1 : decZ 1 = [49] := by unfold decZ; rw [if_neg (by decide), decs_small (by decide)]; rfl
theorem digs_small {v : Nat} (h : v < 4294967296) : (digs v).length ≤ 1000 := Nat.le_trans (digs_length_le (k := 1) (by rw [Nat.pow_one, BB_eq]; exact h)) (by decide)

/-- True is handed back; what was there is as it was. -/
def RetT1 (w : World) (e : Ending) (w' : World) : Prop := e = .returned (.bool true) ∧ Below w.heap.size w w'

theorem div72 (A A' : Option Addr) (n n' c c' : Nat) (w : World) (h : Dgs w w.heap.size A n (digs 7)) (h' : Dgs w w.heap.size A' n' (digs 2)) (hc : n ≤ c) (hm : c ≤ maxLen) (hc' : n' ≤ c') (hm' : c' ≤ maxLen) :
    Calls Try.prog 18 #[.agg #[.bool true, .slice A n c], .agg #[.bool false, .slice A' n' c']] w (RetM w (-4) 1 0) := by
  have := divMod_any true false A A' n n' c c' (digs 7) (digs 2) w h h' hc hm hc' hm' (by rw [← h.len]; exact Nat.le_trans (digs_small (by decide)) (by decide)) (by rw [← h'.len]; exact Nat.le_trans (digs_small (by decide)) (by decide)) (longOk_small (by rw [val_digs]; decide))
  rw [val_digs, val_digs] at this
  have e1 : zOf true 7 = -7 := rfl
  have e2 : zOf false 2 = 2 := rfl
  rw [e1, e2, dm72.1, dm72.2.1, dm72.2.2] at this
  exact this

theorem fmtA (A : Option Addr) (n c : Nat) (w : World) (h : Dgs w w.heap.size A n (digs (-4 : Int).natAbs)) (hc : n ≤ c) (hm : c ≤ maxLen) :
    Calls Try.prog 35 #[.agg #[.bool true, .slice A n c]] w (RetS w [45, 52]) := by
  have := format_any true A n c (digs 4) w h hc hm (by rw [← h.len]; exact Nat.le_trans (digs_small (by decide)) (by decide))
  rw [val_digs] at this
  have e1 : zOf true 4 = -4 := rfl
  rw [e1, fmt4] at this
  exact this
theorem fmtB (A : Option Addr) (n c : Nat) (w : World) (h : Dgs w w.heap.size A n (digs (1 : Int).natAbs)) (hc : n ≤ c) (hm : c ≤ maxLen) :
    Calls Try.prog 35 #[.agg #[.bool false, .slice A n c]] w (RetS w [49]) := by
  have := format_any false A n c (digs 1) w h hc hm (by rw [← h.len]; exact Nat.le_trans (digs_small (by decide)) (by decide))
  rw [val_digs] at this
  have e1 : zOf false 1 = 1 := rfl
  rw [e1, fmt1] at this
  exact this

set_option maxHeartbeats 1000000 in
set_option maxRecDepth 100000 in
theorem awake_any (w : World) : Calls Try.prog 17 #[] w (RetT1 w) := by
  go_enter Try.func17, Try.ntmps17
  go_wp2_with (first
    | (go_at_call_of 76 (Value.int .i64 2); (with_reducible refine (fromInt64_any 2 (by decide) (by decide) _).mono ?_); rintro e w2 ⟨A2, n2, c2, rfl, hd2, hn2, hc2, hb2⟩)
    | (go_at_call 76; (with_reducible refine (fromInt64_any (-7) (by decide) (by decide) _).mono ?_); rintro e w1 ⟨A1, n1, c1, rfl, hd1, hn1, hc1, hb1⟩)
    | (go_at_call 18; (with_reducible refine (div72 A1 A2 n1 n2 c1 c2 _ ((hd1.below hb2).more hb2.size) hd2 hn1 hc1 hn2 hc2).mono ?_); rintro e w3 ⟨A3, n3, c3, A4, n4, c4, rfl, hd3, hn3, hc3, hd4, hn4, hc4, hb3⟩; have O2 := Own.new (w3.alloc (.cells #[.bool true, .slice A3 n3 c3] 24)) 24 (.bool false) (.slice A4 n4 c4); rw [World.size_alloc] at O2)
    | (go_at_call_of 35 (Value.agg #[Value.bool true, Value.slice A3 n3 c3]); (with_reducible refine (fmtA A3 n3 c3 _ (((hd3.alloc (Nat.le_refl _) _).alloc (by simp) _).more (by simp; omega)) hn3 hc3).mono ?_); rintro e w4 ⟨rfl, hb4⟩; have O3 := O2.below hb4; obtain ⟨q0, q1, q2, q3⟩ := O3.facts)
    | (go_at_call_of 35 (Value.agg #[Value.bool false, Value.slice A4 n4 c4]); (with_reducible refine (fmtB A4 n4 c4 _ (((((hd4.alloc (Nat.le_refl _) _).alloc (by simp) _).more (by simp; omega)).below hb4).more hb4.size) hn4 hc4).mono ?_); rintro e w5 ⟨rfl, hb5⟩))
  go_ret
  exact ⟨rfl, bcall (bcall (bcall (bcall (bcall hb1 hb2) hb3) (bnew2 w3 _ _)) hb4) hb5⟩
end Go.Proofs.Ytehoafpnmfkniaa
