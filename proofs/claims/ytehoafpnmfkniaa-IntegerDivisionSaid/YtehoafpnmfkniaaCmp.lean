/-
  Comparing numbers and digits.
-/
import Derived.Test.YtehoafpnmfkniaaRow
import Derived.WalkSpells
set_option linter.unusedVariables false
set_option linter.unusedSimpArgs false
namespace Go.Proofs.Ytehoafpnmfkniaa
open Go.RowKit

/-- -1, 0 or 1. -/
def cmpI (a b : Int) : Int := if a < b then -1 else if b < a then 1 else 0

theorem ret_i {k : IntKind} {a b : Int} (h : a = b) : Ending.returned (.int k a) = .returned (.int k b) := by rw [h]

set_option maxRecDepth 100000 in
theorem cmpInt_any (a b : Int) (w : World) : Calls Try.prog 136 #[.int .i64 a, .int .i64 b] w fun e w' => e = .returned (.int .i64 (cmpI a b)) ∧ w' = w := by
  by_cases h1 : a < b
  · have H := Lib.hid (show cmpI a b = -1 by simp [cmpI, h1])
    go_enter Try.func136, Try.ntmps136
    go_wp2
    go_ret
    exact ⟨by rw [H.out]; rfl, rfl⟩
  · by_cases h2 : b < a
    · have H := Lib.hid (show cmpI a b = 1 by simp [cmpI, h1, h2])
      go_enter Try.func136, Try.ntmps136
      go_wp2
      go_ret
      exact ⟨by rw [H.out]; rfl, rfl⟩
    · have H := Lib.hid (show cmpI a b = 0 by simp [cmpI, h1, h2])
      go_enter Try.func136, Try.ntmps136
      go_wp2
      go_ret
      exact ⟨by rw [H.out]; rfl, rfl⟩

set_option maxRecDepth 100000 in
theorem cmpU32_any (a b : Int) (w : World) : Calls Try.prog 137 #[.int .u32 a, .int .u32 b] w fun e w' => e = .returned (.int .i64 (cmpI a b)) ∧ w' = w := by
  by_cases h1 : a < b
  · have H := Lib.hid (show cmpI a b = -1 by simp [cmpI, h1])
    go_enter Try.func137, Try.ntmps137
    go_wp2
    go_ret
    exact ⟨by rw [H.out]; rfl, rfl⟩
  · by_cases h2 : b < a
    · have H := Lib.hid (show cmpI a b = 1 by simp [cmpI, h1, h2])
      go_enter Try.func137, Try.ntmps137
      go_wp2
      go_ret
      exact ⟨by rw [H.out]; rfl, rfl⟩
    · have H := Lib.hid (show cmpI a b = 0 by simp [cmpI, h1, h2])
      go_enter Try.func137, Try.ntmps137
      go_wp2
      go_ret
      exact ⟨by rw [H.out]; rfl, rfl⟩

theorem cmpI_lt {a b : Int} (h : a < b) : cmpI a b = -1 := by simp [cmpI, h]
theorem cmpI_gt {a b : Int} (h : b < a) : cmpI a b = 1 := by simp [cmpI, h]; omega
theorem cmpI_eq {a b : Int} (h : a = b) : cmpI a b = 0 := by subst h; simp [cmpI]
theorem cmpI_congr {a b a' b' : Int} (h1 : a < b → a' < b') (h2 : b < a → b' < a') (h3 : a = b → a' = b') : cmpI a b = cmpI a' b' := by
  rcases Int.lt_trichotomy a b with h | h | h
  · rw [cmpI_lt h, cmpI_lt (h1 h)]
  · rw [cmpI_eq h, cmpI_eq (h3 h)]
  · rw [cmpI_gt h, cmpI_gt (h2 h)]

theorem digs_ge {y k : Nat} (h : k < (digs y).length) : BB ^ k ≤ y := by
  rcases Nat.lt_or_ge y (BB ^ k) with h1 | h1
  · have := digs_length_le h1; omega
  · exact h1
theorem digs_len_lt {x y : Nat} (h : (digs x).length < (digs y).length) : x < y := by
  have h1 := lt_pow_digs x
  have h2 := digs_ge h
  omega

theorem val_split (ds : List Nat) (k : Nat) (h : k < ds.length) : val ds = val (ds.take k) + BB ^ k * (ds.getD k 0 + BB * val (ds.drop (k + 1))) := by
  have e := val_append (ds.take k) (ds.drop k)
  rw [List.take_append_drop, List.length_take, Nat.min_eq_left (by omega)] at e
  rw [e]
  congr 1
  rw [List.drop_eq_getElem_cons h, val]
  simp [List.getD, h]

theorem val_lt_of_digit {da db : List Nat} (ha : Dig da) (k : Nat) (h1 : k < da.length) (h2 : k < db.length) (he : da.drop (k + 1) = db.drop (k + 1)) (hlt : da.getD k 0 < db.getD k 0) : val da < val db := by
  rw [val_split da k h1, val_split db k h2, he]
  have h3 := val_lt (ha.take k)
  rw [List.length_take, Nat.min_eq_left (by omega)] at h3
  have h4 : BB ^ k * (da.getD k 0 + BB * val (db.drop (k + 1)) + 1) ≤ BB ^ k * (db.getD k 0 + BB * val (db.drop (k + 1))) := Nat.mul_le_mul_left _ (by omega)
  rw [Nat.mul_add, Nat.mul_one] at h4
  omega

theorem drop_eq_cons {da db : List Nat} {k : Nat} (h1 : k < da.length) (h2 : k < db.length) (he : da.drop (k + 1) = db.drop (k + 1)) (hx : da.getD k 0 = db.getD k 0) : da.drop k = db.drop k := by
  rw [List.drop_eq_getElem_cons h1, List.drop_eq_getElem_cons h2, he]
  simp [List.getD, h1, h2] at hx
  rw [hx]

/-- A call that leaves the world alone, inside a region behind another one. -/
theorem quiet_again {P : Program} {f : FuncId} {args : Array Value} {w : World} {a n : Nat} {v : Value} (h : ∀ W : World, Calls P f args W fun e w' => e = .returned v ∧ w' = W) :
    Calls P f args (w.drewN (a + n)) fun e w' => e = .returned v ∧ ∃ m, w' = w.drewN (a + m) :=
  (h _).mono fun _ _ ⟨h1, h2⟩ => ⟨h1, n, h2⟩

/-- The order of two numbers from their digits. -/
def Drew (w w' : World) : Prop := ∃ m, w' = w.drewN m
theorem Drew.below {w w' : World} (h : Drew w w') (B : Nat) : Below B w w' := by obtain ⟨m, rfl⟩ := h; exact bdrewN (Below.refl _ _) m
theorem Drew.dgs {w w' : World} {B n : Nat} {A : Option Addr} {ds : List Nat} (h : Drew w w') (hd : Dgs w B A n ds) : Dgs w' B A n ds := by obtain ⟨m, rfl⟩ := h; exact hd
theorem Drew.dgs' {w w' : World} {n : Nat} {A : Option Addr} {ds : List Nat} (h : Drew w w') (hd : Dgs w w.heap.size A n ds) : Dgs w' w'.heap.size A n ds := by obtain ⟨m, rfl⟩ := h; exact hd
theorem Drew.size {w w' : World} (h : Drew w w') : w'.heap.size = w.heap.size := by obtain ⟨m, rfl⟩ := h; rfl
def RetC (w : World) (v : Int) (e : Ending) (w' : World) : Prop := e = .returned (.int .i64 v) ∧ Drew w w'

set_option maxHeartbeats 1000000 in
set_option maxRecDepth 100000 in
theorem compareDigits_any (A A' : Option Addr) (n n' c c' B B' x y : Nat) (w : World) (h : Dgs w B A n (digs x)) (h' : Dgs w B' A' n' (digs y)) (hs : n ≤ maxLen) (hs' : n' ≤ maxLen) :
    Calls Try.prog 88 #[.slice A n c, .slice A' n' c'] w (RetC w (cmpI x y)) := by
  unfold maxLen at hs hs'
  by_cases hn : n = n'
  · subst hn
    have HL := Lib.hid h.len
    have HL' := Lib.hid h'.len
    go_enter Try.func88, Try.ntmps88
    go_wp2
    go_loopw [5] (fun i wr => ∃ k m : Nat, k ≤ n ∧ i = .int .i64 ((k : Int) - 1) ∧ (digs x).drop k = (digs y).drop k ∧ wr = w.drewN m) (fun i _ => (intOf i + 1).toNat)
    case atStart => exact ⟨n, 0, Nat.le_refl _, rfl, by rw [List.drop_of_length_le (by rw [HL.out]; omega), List.drop_of_length_le (by rw [HL'.out]; omega)], rfl⟩
    case round =>
      obtain ⟨k, m, hk, rfl, hd, rfl⟩ := hrel
      have HD := Lib.hid hd
      clear hd
      by_cases hk0 : k = 0
      · subst hk0
        have HE := Lib.hid (show cmpI x y = 0 from cmpI_eq (by have := HD.out; simp only [List.drop_zero] at this; rw [digs_inj this]))
        go_wp2
        go_ret
        exact ⟨by rw [HE.out]; rfl, _, rfl⟩
      · obtain ⟨j, rfl⟩ : ∃ j, k = j + 1 := ⟨k - 1, by omega⟩
        have ej : (((j + 1 : Nat) : Int) - 1) = (j : Int) := by omega
        rw [ej]
        clear ej
        obtain ⟨b, off, hA, _, hcell⟩ := h.at_ (by omega)
        subst hA
        obtain ⟨b', off', hA, _, hcell'⟩ := h'.at_ (by omega)
        subst hA
        have hx := hcell j (by omega)
        have hy := hcell' j (by omega)
        obtain ⟨a, HX⟩ : ∃ a, Hid (a = (digs x).getD j 0) := ⟨_, rfl⟩
        obtain ⟨d, HY⟩ : ∃ d, Hid (d = (digs y).getD j 0) := ⟨_, rfl⟩
        rw [← HX.out] at hx
        rw [← HY.out] at hy
        have i0 : (0 : Int) ≤ (j : Int) := by omega
        have i1 : (j : Int) < (n : Int) := by omega
        clear hcell hcell'
        by_cases had : a = d
        · subst had
          go_wp2
          go_quiet (fail)
          go_wp2
          go_roundw
          case rel => exact ⟨j, m + nq, by omega, rfl, drop_eq_cons (by rw [HL.out]; omega) (by rw [HL'.out]; omega) HD.out (by rw [← HX.out, ← HY.out]), rfl⟩
          case measure => simp [intOf]
        · have HC : Hid (cmpI (a : Int) (d : Int) = cmpI x y) := cmpI_congr
            (fun hlt => by
              have := val_lt_of_digit (dig_digs x) j (by rw [HL.out]; omega) (by rw [HL'.out]; omega) HD.out (by rw [← HX.out, ← HY.out]; omega)
              rw [val_digs, val_digs] at this; omega)
            (fun hlt => by
              have := val_lt_of_digit (dig_digs y) j (by rw [HL'.out]; omega) (by rw [HL.out]; omega) HD.out.symm (by rw [← HX.out, ← HY.out]; omega)
              rw [val_digs, val_digs] at this; omega)
            (fun e => absurd e (by omega))
          go_wp2
          go_quiet (fail)
          go_wp2
          go_quiet ((go_at_call 137; exact quiet_again (cmpU32_any _ _)))
          go_wp2
          go_ret
          exact ⟨by rw [← HC.out]; rfl, _, by rw [World.drewN_drewN, World.drewN_drewN]⟩
  · have HC := Lib.hid (show cmpI n n' = cmpI x y from cmpI_congr (fun hlt => by have := @digs_len_lt x y (by rw [h.len, h'.len]; omega); omega) (fun hlt => by have := @digs_len_lt y x (by rw [h.len, h'.len]; omega); omega) (fun e => by omega))
    go_enter Try.func88, Try.ntmps88
    go_wp2_with (go_at_call 136; refine (cmpInt_any _ _ _).mono ?_; rintro e w' ⟨rfl, rfl⟩)
    go_ret
    exact ⟨by rw [← HC.out]; rfl, 0, rfl⟩
end Go.Proofs.Ytehoafpnmfkniaa
