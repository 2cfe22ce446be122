/-
  The reference's order of digits.
-/
import Derived.Test.YtehoafpnmfkniaaCmp
import Derived.Deep.RegionWith
set_option linter.unusedVariables false
set_option linter.unusedSimpArgs false
namespace Go.Proofs.Ytehoafpnmfkniaa
open Go.RowKit

theorem trimLen_val {ds : List Nat} (hd : Dig ds) : trimLen ds = (digs (val ds)).length := by
  rw [← take_trimLen hd, List.length_take, Nat.min_eq_left (trimLen_le ds)]
theorem Dgs.trimmed {w : World} {B n N : Nat} {A : Option Addr} {ds : List Nat} (h : Dgs w B A n ds) (hN : Hid (N = (digs (val ds)).length)) : Dgs w B A N (digs (val ds)) := by
  rw [hN.out, ← trimLen_val h.dig, ← take_trimLen h.dig]
  exact h.take (by rw [← h.len]; exact trimLen_le ds)
theorem rtrim_fix (A : Option Addr) (n c B N : Nat) (ds : List Nat) (w : World) (h : Dgs w B A n ds) (hc : n ≤ c) (hm : c ≤ maxLen) (hN : Hid (N = (digs (val ds)).length)) :
    Calls Try.prog 113 #[.slice A n c] w fun e w' => e = .returned (.slice A N c) ∧ w = w' :=
  (rtrim_any A n c B ds w h hc hm).mono fun _ _ ⟨he, hw⟩ => ⟨by rw [he, hN.out, trimLen_val h.dig], hw⟩
theorem trim_len_le {w : World} {B n N : Nat} {A : Option Addr} {ds : List Nat} (h : Dgs w B A n ds) (hN : Hid (N = (digs (val ds)).length)) : N ≤ n := by
  rw [hN.out, ← trimLen_val h.dig, ← h.len]; exact trimLen_le ds

set_option maxHeartbeats 1000000 in
set_option maxRecDepth 100000 in
theorem rcompareDigits_any (A A' : Option Addr) (n n' c c' B B' : Nat) (da db : List Nat) (w : World) (h : Dgs w B A n da) (h' : Dgs w B' A' n' db) (hc : n ≤ c) (hm : c ≤ maxLen) (hc' : n' ≤ c') (hm' : c' ≤ maxLen) :
    Calls Try.prog 132 #[.slice A n c, .slice A' n' c'] w (RetC w (cmpI (val da) (val db))) := by
  obtain ⟨N, HN⟩ : ∃ N, Hid (N = (digs (val da)).length) := ⟨_, rfl⟩
  obtain ⟨N', HN'⟩ : ∃ N', Hid (N' = (digs (val db)).length) := ⟨_, rfl⟩
  have hd := h.trimmed HN
  have hd' := h'.trimmed HN'
  have hNc := Nat.le_trans (trim_len_le h HN) hc
  have hNc' := Nat.le_trans (trim_len_le h' HN') hc'
  have K := fun w1 (e : w = w1) => rtrim_fix A n c B N da w1 (e ▸ h) hc hm HN
  have K' := fun w1 (e : w = w1) => rtrim_fix A' n' c' B' N' db w1 (e ▸ h') hc' hm' HN'
  unfold maxLen at hm hm'
  generalize val da = x at *
  generalize val db = y at *
  clear h h'
  have HL := Lib.hid hd.len
  have HL' := Lib.hid hd'.len
  by_cases hn : N = N'
  · subst hn
    go_enter Try.func132, Try.ntmps132
    go_wp2_with (first
      | (go_at_call_of 113 (Value.slice A n c); (with_reducible refine (K _ rfl).mono ?_); rintro e w1 ⟨rfl, rfl⟩)
      | (go_at_call_of 113 (Value.slice A' n' c'); (with_reducible refine (K' _ rfl).mono ?_); rintro e w1 ⟨rfl, rfl⟩))
    clear K K'
    go_loopw [5] (fun i wr => ∃ k m : Nat, k ≤ N ∧ i = .int .i64 ((k : Int) - 1) ∧ (digs x).drop k = (digs y).drop k ∧ wr = w.drewN m) (fun i _ => (intOf i + 1).toNat)
    case atStart => exact ⟨N, 0, Nat.le_refl _, rfl, by rw [List.drop_of_length_le (by rw [HL.out]; omega), List.drop_of_length_le (by rw [HL'.out]; omega)], rfl⟩
    case round =>
      obtain ⟨k, m, hk, rfl, hdr, rfl⟩ := hrel
      have HD := Lib.hid hdr
      clear hdr
      by_cases hk0 : k = 0
      · subst hk0
        have HE := Lib.hid (show cmpI x y = 0 from cmpI_eq (by have := HD.out; simp only [List.drop_zero] at this; rw [digs_inj this]))
        go_wp2
        go_ret
        exact ⟨by rw [HE.out]; rfl, _, rfl⟩
      · obtain ⟨j, rfl⟩ : ∃ j, k = j + 1 := ⟨k - 1, by omega⟩
        have ej : (((j + 1 : Nat) : Int) - 1) = (j : Int) := by omega
        rw [ej]
        clear ej
        obtain ⟨b, off, hA, _, hcell⟩ := hd.at_ (by omega)
        subst hA
        obtain ⟨b', off', hA, _, hcell'⟩ := hd'.at_ (by omega)
        subst hA
        have hx := hcell j (by omega)
        have hy := hcell' j (by omega)
        obtain ⟨a, HX⟩ : ∃ a, Hid (a = (digs x).getD j 0) := ⟨_, rfl⟩
        obtain ⟨d, HY⟩ : ∃ d, Hid (d = (digs y).getD j 0) := ⟨_, rfl⟩
        rw [← HX.out] at hx
        rw [← HY.out] at hy
        have i0 : (0 : Int) ≤ (j : Int) := by omega
        have i1 : (j : Int) < (N : Int) := by omega
        clear hcell hcell'
        by_cases h1 : (a : Int) < (d : Int)
        · have HC := Lib.hid (show cmpI x y = -1 from cmpI_lt (by
            have := val_lt_of_digit (dig_digs x) j (by rw [HL.out]; omega) (by rw [HL'.out]; omega) HD.out (by rw [← HX.out, ← HY.out]; omega)
            rw [val_digs, val_digs] at this; omega))
          go_wp2
          go_quiet (fail)
          go_wp2
          go_ret
          exact ⟨by rw [HC.out]; rfl, _, by rw [World.drewN_drewN]⟩
        · have c1 : decide ((a : Int) < (d : Int)) = false := decide_eq_false h1
          by_cases h2 : (d : Int) < (a : Int)
          · have HC := Lib.hid (show cmpI x y = 1 from cmpI_gt (by
              have := val_lt_of_digit (dig_digs y) j (by rw [HL'.out]; omega) (by rw [HL.out]; omega) HD.out.symm (by rw [← HX.out, ← HY.out]; omega)
              rw [val_digs, val_digs] at this; omega))
            go_wp2
            go_quiet (fail)
            go_wp2
            go_quiet (fail)
            go_wp2
            go_ret
            exact ⟨by rw [HC.out]; rfl, _, by rw [World.drewN_drewN, World.drewN_drewN]⟩
          · have c2 : decide ((d : Int) < (a : Int)) = false := decide_eq_false h2
            have had : a = d := by omega
            go_wp2
            go_quiet (fail)
            go_wp2
            go_quiet (fail)
            go_wp2
            go_roundw
            case rel => exact ⟨j, _, by omega, rfl, drop_eq_cons (by rw [HL.out]; omega) (by rw [HL'.out]; omega) HD.out (by rw [← HX.out, ← HY.out, had]), rfl⟩
            case measure => simp [intOf]
  · have HLT : Hid (N < N' → cmpI x y = -1) := fun hlt => cmpI_lt (by have := @digs_len_lt x y (by rw [← HN.out, ← HN'.out]; exact hlt); omega)
    have HGT : Hid (N' < N → cmpI x y = 1) := fun hlt => cmpI_gt (by have := @digs_len_lt y x (by rw [← HN.out, ← HN'.out]; exact hlt); omega)
    by_cases hlt : N < N'
    · go_enter Try.func132, Try.ntmps132
      go_wp2_with (first
        | (go_at_call_of 113 (Value.slice A n c); (with_reducible refine (K _ rfl).mono ?_); rintro e w1 ⟨rfl, rfl⟩)
        | (go_at_call_of 113 (Value.slice A' n' c'); (with_reducible refine (K' _ rfl).mono ?_); rintro e w1 ⟨rfl, rfl⟩))
      go_ret
      exact ⟨by rw [HLT.out hlt]; rfl, 0, rfl⟩
    · go_enter Try.func132, Try.ntmps132
      go_wp2_with (first
        | (go_at_call_of 113 (Value.slice A n c); (with_reducible refine (K _ rfl).mono ?_); rintro e w1 ⟨rfl, rfl⟩)
        | (go_at_call_of 113 (Value.slice A' n' c'); (with_reducible refine (K' _ rfl).mono ?_); rintro e w1 ⟨rfl, rfl⟩))
      go_ret
      exact ⟨by rw [HGT.out (by omega)]; rfl, 0, rfl⟩
end Go.Proofs.Ytehoafpnmfkniaa
