/-
  A word as digits; integers from machine numbers.
-/
import Derived.Test.YtehoafpnmfkniaaInts
set_option linter.unusedVariables false
set_option linter.unusedSimpArgs false
namespace Go.Proofs.Ytehoafpnmfkniaa
open Go.RowKit

/-- Digits are handed back; what was there is as it was. -/
def RetD (w : World) (v : Nat) (e : Ending) (w' : World) : Prop :=
  ∃ A n c, e = .returned (.slice A n c) ∧ Dgs w' w'.heap.size A n (digs v) ∧ n ≤ c ∧ c ≤ maxLen ∧ Below w.heap.size w w'

theorem RetD.mk_ {w w' : World} {v : Nat} {A : Option Addr} {n c : Nat} (hd : Dgs w' w'.heap.size A n (digs v)) (hc : n ≤ c) (hm : c ≤ maxLen) (hb : Below w.heap.size w w') :
    RetD w v (.returned (.slice A n c)) w' := ⟨A, n, c, rfl, hd, hc, hm, hb⟩

/-- The digits after the leading zeros are cut off, in the world as it is. -/
def RetT (w : World) (B : Nat) (A : Option Addr) (v n : Nat) (e : Ending) (w' : World) : Prop :=
  ∃ t, e = .returned (.slice A t t) ∧ Dgs w B A t (digs v) ∧ t ≤ n ∧ w = w'

theorem trim_ret (A : Option Addr) (n c B : Nat) (ds : List Nat) (w : World) (h : Dgs w B A n ds) (hc : n ≤ c) (hm : c ≤ maxLen) :
    Calls Try.prog 99 #[.slice A n c] w (RetT w B A (val ds) n) :=
  (trim_any A n c B ds w h hc hm).mono fun e w' ⟨he, hw⟩ => ⟨trimLen ds, he, by rw [← take_trimLen h.dig]; exact h.take (by rw [← h.len]; exact trimLen_le ds), by rw [← h.len]; exact trimLen_le ds, hw⟩

theorem Dgs.of_row {w : World} {b n : Nat} {f : Nat → Value} {ds : List Nat} (h : w.rowIs b 74 n f) (hl : ds.length = n) (hd : Dig ds) (hf : ∀ i, i < n → f i = .int .u32 (ds.getD i 0 : Nat)) : Dgs w w.heap.size (some ⟨b, 0, none⟩) n ds :=
  ⟨hl, hd, fun _ => ⟨b, 0, rfl, h.lt, fun j hj => by rw [Nat.zero_add, h.cell hj, hf j hj]⟩⟩

theorem dgs_two (w : World) (a b : Int) (x y : Nat) (ha : a = x) (hb : b = y) (hx : x < BB) (hy : y < BB) :
    Dgs (w.alloc (.cells #[.int .u32 a, .int .u32 b] 74)) (w.heap.size + 1) (some ⟨w.heap.size, 0, none⟩) 2 [x, y] := by
  subst ha hb
  have h := World.rowIs_alloc w #[.int .u32 x, .int .u32 y] 74 (fun i => .int .u32 (([x, y] : List Nat).getD i 0 : Nat)) (fun i hi => by
    match i, hi with
    | 0, _ => rfl
    | 1, _ => rfl)
  have := Dgs.of_row h (ds := [x, y]) rfl (Dig.cons hx (Dig.cons hy Dig.nil)) (fun _ _ => rfl)
  simpa using this

theorem val_two (x : Nat) : val [x % BB, x / BB] = x := by
  simp only [val, Nat.mul_zero, Nat.add_zero]; exact Nat.mod_add_div x BB

set_option maxRecDepth 100000 in
theorem fromWord_any (x : Nat) (hx : x < 18446744073709551616) (w : World) :
    Calls Try.prog 80 #[.int .u64 x] w (RetD w x) := by
  have hd := dgs_two w (x % 4294967296 : Int) (x / 4294967296 : Int) (x % BB) (x / BB) (by rw [BB_eq]; omega) (by rw [BB_eq]; omega) (Nat.mod_lt _ BB_pos) (by rw [BB_eq]; omega)
  go_enter Try.func80, Try.ntmps80
  go_wp2_with (go_at_call 99; refine (trim_ret _ _ _ _ _ _ hd (Nat.le_refl _) (by unfold maxLen; omega)).mono ?_; rintro e w' ⟨t, rfl, hd', ht, rfl⟩)
  go_ret
  rw [val_two] at hd'
  exact RetD.mk_ (hd'.more (by simp)) (Nat.le_refl _) (by unfold maxLen; omega) ((Below.refl _ _).alloc (Nat.le_refl _) _)

theorem neg_wrap (m : Nat) (h : m ≤ 9223372036854775808) : IntKind.u64.wrap (-IntKind.u64.wrap (-(m : Int))) = m := by
  rw [IntKind.wrap_u64, IntKind.wrap_u64]; omega

theorem zOf_true (m : Nat) : zOf true m = -(m : Int) := rfl
theorem zOf_false (m : Nat) : zOf false m = (m : Int) := rfl

set_option maxRecDepth 100000 in
theorem fromInt64_any (n : Int) (h1 : -9223372036854775808 ≤ n) (h2 : n ≤ 9223372036854775807) (w : World) :
    Calls Try.prog 76 #[.int .i64 n] w (RetZ w n) := by
  by_cases hn : n < 0
  · obtain ⟨m, rfl⟩ : ∃ m : Nat, n = -(m : Int) := ⟨n.natAbs, by omega⟩
    have e1 := neg_wrap m (by omega)
    have hm0 : ¬ (0 ≤ -(m : Int)) := by omega
    go_enter Try.func76, Try.ntmps76
    go_wp2_with (first
      | (go_at_call 80; refine (fromWord_any m (by omega) _).mono ?_; rintro e w1 ⟨A1, n1, c1, rfl, hd1, hn1, hc1, hb1⟩)
      | (go_at_call 82; refine (newInt_any _ _ _ _ _ _ hd1 hn1 hc1).mono ?_; rintro e w2 ⟨A2, n2, c2, rfl, hd2, hn2, hc2, hb2⟩; have O2 := ((Own.new _ _ _ _).below hb1).below hb2; obtain ⟨q0, q1, q2, q3⟩ := O2.facts))
    rw [val_digs, zOf_true] at hd2
    refine bodyPost_ret (v := .agg #[.bool (decide (-(m : Int) < 0)), .slice A2 n2 c2]) (by simp [results, Try.results76, go_sem, q0, q1, q2, q3, val_digs, zOf_true]) rfl
      (RetZ.store_ O2 (Nat.le_refl _) rfl hd2 hn2 hc2 (bcall (bnew _ _) (bcall hb1 hb2)) _ _)
  · obtain ⟨m, rfl⟩ : ∃ m : Nat, n = (m : Int) := ⟨n.natAbs, by omega⟩
    go_enter Try.func76, Try.ntmps76
    go_wp2_with (first
      | (go_at_call 80; refine (fromWord_any m (by omega) _).mono ?_; rintro e w1 ⟨A1, n1, c1, rfl, hd1, hn1, hc1, hb1⟩)
      | (go_at_call 82; refine (newInt_any _ _ _ _ _ _ hd1 hn1 hc1).mono ?_; rintro e w2 ⟨A2, n2, c2, rfl, hd2, hn2, hc2, hb2⟩; have O2 := ((Own.new _ _ _ _).below hb1).below hb2; obtain ⟨q0, q1, q2, q3⟩ := O2.facts))
    rw [val_digs, zOf_false] at hd2
    refine bodyPost_ret (v := .agg #[.bool (decide ((m : Int) < 0)), .slice A2 n2 c2]) (by simp [results, Try.results76, go_sem, q0, q1, q2, q3, val_digs, zOf_false]) rfl
      (RetZ.store_ O2 (Nat.le_refl _) rfl hd2 hn2 hc2 (bcall (bnew _ _) (bcall hb1 hb2)) _ _)
end Go.Proofs.Ytehoafpnmfkniaa
