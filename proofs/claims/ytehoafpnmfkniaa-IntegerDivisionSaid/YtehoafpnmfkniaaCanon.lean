/-
  Canonical integers, by the program and by the reference; the reference's integers from machine numbers.
-/
import Derived.Test.YtehoafpnmfkniaaRef
set_option linter.unusedVariables false
set_option linter.unusedSimpArgs false
namespace Go.Proofs.Ytehoafpnmfkniaa
open Go.RowKit

set_option maxRecDepth 100000 in
theorem canonical_any (neg : Bool) (A : Option Addr) (n c : Nat) (ds : List Nat) (w : World) (h : Dgs w w.heap.size A n ds) (hc : n ≤ c) (hm : c ≤ maxLen) :
    Calls Try.prog 77 #[.agg #[.bool neg, .slice A n c]] w (RetZ w (zOf neg (val ds))) := by
  go_enter Try.func77, Try.ntmps77
  go_wp2_with (go_at_call 82; refine (newInt_any _ _ _ _ _ _ (((h.alloc (Nat.le_refl _) _).alloc (by simp) _).more (by simp; omega)) hc hm).mono ?_; rintro e w2 ⟨A2, n2, c2, rfl, hd2, hn2, hc2, hb2⟩; have O2 := (Own.new _ _ _ _).below hb2; obtain ⟨q0, q1, q2, q3⟩ := O2.facts; simp only [World.size_alloc] at q0 q1 q2 q3)
  refine bodyPost_ret (v := .agg #[.bool (decide (zOf neg (val ds) < 0)), .slice A2 n2 c2]) (by simp [results, Try.results77, go_sem, q0, q1, q2, q3]) rfl ?_
  simp only [World.size_alloc] at O2
  exact RetZ.store_ O2 (by omega) rfl hd2 hn2 hc2 (bcall (bnew2 _ _ _) hb2) _ _

set_option maxRecDepth 100000 in
theorem canon_any (neg : Bool) (A : Option Addr) (n c : Nat) (ds : List Nat) (w : World) (h : Dgs w w.heap.size A n ds) (hc : n ≤ c) (hm : c ≤ maxLen) (hs : n ≤ 1000000) :
    Calls Try.prog 39 #[.agg #[.bool neg, .slice A n c]] w (RetZ w (zOf neg (val ds))) := by
  go_enter Try.func39, Try.ntmps39
  go_wp2_with (go_at_call 84; refine (make_any _ _ _ _ _ _ (((h.alloc (Nat.le_refl _) _).alloc (by simp) _).more (by simp; omega)) hc hm hs).mono ?_; rintro e w2 ⟨A2, n2, c2, rfl, hd2, hn2, hc2, hb2⟩; have O2 := (Own.new _ _ _ _).below hb2; obtain ⟨q0, q1, q2, q3⟩ := O2.facts; simp only [World.size_alloc] at q0 q1 q2 q3)
  refine bodyPost_ret (v := .agg #[.bool (decide (zOf neg (val ds) < 0)), .slice A2 n2 c2]) (by simp [results, Try.results39, go_sem, q0, q1, q2, q3]) rfl ?_
  simp only [World.size_alloc] at O2
  exact RetZ.store_ O2 (by omega) rfl hd2 hn2 hc2 (bcall (bnew2 _ _ _) hb2) _ _

set_option maxRecDepth 100000 in
theorem rfromInt64_any (n : Int) (h1 : -9223372036854775808 ≤ n) (h2 : n ≤ 9223372036854775807) (w : World) :
    Calls Try.prog 86 #[.int .i64 n] w (RetZ w n) := by
  by_cases hn : n < 0
  · obtain ⟨m, rfl⟩ : ∃ m : Nat, n = -(m : Int) := ⟨n.natAbs, by omega⟩
    have e1 := neg_wrap m (by omega)
    have hm0 : ¬ (0 ≤ -(m : Int)) := by omega
    have hd := fun w : World => dgs_two w (m % 4294967296 : Int) (m / 4294967296 : Int) (m % BB) (m / BB) (by rw [BB_eq]; omega) (by rw [BB_eq]; omega) (Nat.mod_lt _ BB_pos) (by rw [BB_eq]; omega)
    go_enter Try.func86, Try.ntmps86
    go_wp2_with (go_at_call 84; refine (make_any _ _ _ _ _ _ (by have := hd (w.alloc (.cells #[.bool false, .slice none 0 0] 24)); simpa using this) (Nat.le_refl _) (by unfold maxLen; omega) (by omega)).mono ?_; rintro e w2 ⟨A2, n2, c2, rfl, hd2, hn2, hc2, hb2⟩; have O2 := ((Own.new w 24 (.bool false) (.slice none 0 0)).alloc _).below hb2; obtain ⟨q0, q1, q2, q3⟩ := O2.facts)
    rw [val_two, zOf_true] at hd2
    refine bodyPost_ret (v := .agg #[.bool (decide (-(m : Int) < 0)), .slice A2 n2 c2]) (by simp [results, Try.results86, go_sem, q0, q1, q2, q3, val_two, zOf_true]) rfl
      (RetZ.store_ O2 (Nat.le_refl _) rfl hd2 hn2 hc2 (bcall (bnew2 _ _ _) hb2) _ _)
  · obtain ⟨m, rfl⟩ : ∃ m : Nat, n = (m : Int) := ⟨n.natAbs, by omega⟩
    have hd := fun w : World => dgs_two w (m % 4294967296 : Int) (m / 4294967296 : Int) (m % BB) (m / BB) (by rw [BB_eq]; omega) (by rw [BB_eq]; omega) (Nat.mod_lt _ BB_pos) (by rw [BB_eq]; omega)
    go_enter Try.func86, Try.ntmps86
    go_wp2_with (go_at_call 84; refine (make_any _ _ _ _ _ _ (by have := hd (w.alloc (.cells #[.bool false, .slice none 0 0] 24)); simpa using this) (Nat.le_refl _) (by unfold maxLen; omega) (by omega)).mono ?_; rintro e w2 ⟨A2, n2, c2, rfl, hd2, hn2, hc2, hb2⟩; have O2 := ((Own.new w 24 (.bool false) (.slice none 0 0)).alloc _).below hb2; obtain ⟨q0, q1, q2, q3⟩ := O2.facts)
    rw [val_two, zOf_false] at hd2
    refine bodyPost_ret (v := .agg #[.bool (decide ((m : Int) < 0)), .slice A2 n2 c2]) (by simp [results, Try.results86, go_sem, q0, q1, q2, q3, val_two, zOf_false]) rfl
      (RetZ.store_ O2 (Nat.le_refl _) rfl hd2 hn2 hc2 (bcall (bnew2 _ _ _) hb2) _ _)
end Go.Proofs.Ytehoafpnmfkniaa
