/-
  Sums of digits.
-/
import Derived.Test.YtehoafpnmfkniaaRow
set_option linter.unusedVariables false
set_option linter.unusedSimpArgs false
namespace Go.Proofs.Ytehoafpnmfkniaa
open Go.RowKit

set_option maxHeartbeats 1000000 in
set_option maxRecDepth 100000 in
theorem addDigits_any (A A' : Option Addr) (n n' c c' : Nat) (da db : List Nat) (w : World) (h : Dgs w w.heap.size A n da) (h' : Dgs w w.heap.size A' n' db) (hs : n ≤ 1000000) (hs' : n' ≤ 1000000) :
    Calls Try.prog 79 #[.slice A n c, .slice A' n' c'] w (RetD w (val da + val db)) := by
  by_cases hlt : n < n'
  · rw [Nat.add_comm]
    have hmk := run_make_row' (P := Try.prog) 22 74 (.int .u32 0) 4 Try.underlying22 u32_info rfl .i64 .i64 (n' + 1) (by omega) (by omega)
    have ec : ((n' + 1 : Nat) : Int) = (n' : Int) + 1 := by omega
    rw [ec] at hmk
    clear ec
    have H0 : AddI w (w.alloc (.cells (madeCells #[.int .u32 0] (n' + 1)) 74)) (n' + 1) 0 0 (val (db.take 0)) (val (da.take 0)) [] := ⟨by simpa using Row.made w (n' + 1), rfl, Dig.nil, rfl, bnew _ _⟩
    have HL := Lib.hid h'.len
    have HL' := Lib.hid h.len
    go_enter Try.func79, Try.ntmps79
    go_wp2
    clear hmk
    go_loopw [6, 22] (fun cv i wr => ∃ (k cy : Nat) (xs : List Nat), k ≤ n' ∧ cy ≤ 1 ∧ i = .int .i64 k ∧ cv = .int .u64 cy ∧ AddI w wr (n' + 1) k cy (val (db.take k)) (val (da.take k)) xs) (fun _ i _ => n' - (intOf i).toNat)
    case atStart => exact ⟨0, 0, [], Nat.zero_le _, Nat.zero_le _, rfl, rfl, H0⟩
    case round =>
      clear H0
      obtain ⟨k, cy, xs, hk, hcy, rfl, rfl, HI⟩ := hrel
      have h1 := HI.1
      have hB := HI.2.2.2.2
      have hlen : (xs ++ List.replicate (n' + 1 - k) 0).length = n' + 1 := by simp [HI.2.1]; omega
      have hstore := h1.cell (j := k) (by rw [hlen]; omega)
      have hfr := h1.frozen k
      have hda := h'.below hB
      have hdb := h.below hB
      by_cases hkn : k < n'
      · obtain ⟨b, off, hA, _, hcell⟩ := hda.at_ (by omega)
        subst hA
        have hx := hcell k hkn
        have hxl := h'.dig.getD k
        rw [BB_eq] at hxl
        obtain ⟨x, HX⟩ : ∃ x, Hid (x = db.getD k 0) := ⟨_, rfl⟩
        rw [← HX.out] at hx hxl
        have i0 : (0 : Int) ≤ (k : Int) := by omega
        have i1 : (k : Int) < (n' : Int) := by omega
        have i2 : (k : Int) < (n' : Int) + 1 := by omega
        clear hcell hda h1 hlen
        by_cases hkm : k < n
        · obtain ⟨b', off', hA, _, hcell⟩ := hdb.at_ (by omega)
          subst hA
          have hy := hcell k hkm
          have hyl := h.dig.getD k
          rw [BB_eq] at hyl
          obtain ⟨y, HY⟩ : ∃ y, Hid (y = da.getD k 0) := ⟨_, rfl⟩
          rw [← HY.out] at hy hyl
          have i3 : (k : Int) < (n : Int) := by omega
          clear hcell hdb
          go_wp2
          go_roundw
          case rel => exact ⟨k + 1, (cy + x + y) / 4294967296, _, by omega, by omega, by go_num, by go_num, add_step' HI hkn HX.out HY.out (by omega)⟩
          case measure => simp [intOf]; omega
        · have HY : Hid (0 = da.getD k 0) := (getD_beyond (by rw [HL'.out]; omega)).symm
          clear hdb
          go_wp2
          go_roundw
          case rel => exact ⟨k + 1, (cy + x + 0) / 4294967296, _, by omega, by omega, by go_num, by go_num, add_step' HI hkn HX.out HY.out (by omega)⟩
          case measure => simp [intOf]; omega
      · obtain rfl : k = n' := by omega
        have i2 : (k : Int) < (k : Int) + 1 := by omega
        clear hda hdb
        obtain ⟨f1, f2, f3⟩ := add_last HI (v := (cy : Int)) rfl (by omega)
        have F2 := Lib.hid f2
        clear f2
        go_wp2_with (go_at_call 99; (with_reducible refine (trim_ret _ _ _ _ _ _ f1 (Nat.le_refl _) (by unfold maxLen; omega)).mono ?_); rintro e w2 ⟨t, rfl, hd2, ht2, rfl⟩)
        go_ret
        rw [F2.out, List.take_of_length_le (by rw [HL.out]; omega), List.take_of_length_le (by rw [HL'.out]; omega)] at hd2
        exact RetD.mk_ hd2 (Nat.le_refl _) (by unfold maxLen; omega) f3
  · have hmk := run_make_row' (P := Try.prog) 22 74 (.int .u32 0) 4 Try.underlying22 u32_info rfl .i64 .i64 (n + 1) (by omega) (by omega)
    have ec : ((n + 1 : Nat) : Int) = (n : Int) + 1 := by omega
    rw [ec] at hmk
    clear ec
    have H0 : AddI w (w.alloc (.cells (madeCells #[.int .u32 0] (n + 1)) 74)) (n + 1) 0 0 (val (da.take 0)) (val (db.take 0)) [] := ⟨by simpa using Row.made w (n + 1), rfl, Dig.nil, rfl, bnew _ _⟩
    have HL := Lib.hid h.len
    have HL' := Lib.hid h'.len
    go_enter Try.func79, Try.ntmps79
    go_wp2
    clear hmk
    go_loopw [6, 22] (fun cv i wr => ∃ (k cy : Nat) (xs : List Nat), k ≤ n ∧ cy ≤ 1 ∧ i = .int .i64 k ∧ cv = .int .u64 cy ∧ AddI w wr (n + 1) k cy (val (da.take k)) (val (db.take k)) xs) (fun _ i _ => n - (intOf i).toNat)
    case atStart => exact ⟨0, 0, [], Nat.zero_le _, Nat.zero_le _, rfl, rfl, H0⟩
    case round =>
      clear H0
      obtain ⟨k, cy, xs, hk, hcy, rfl, rfl, HI⟩ := hrel
      have h1 := HI.1
      have hB := HI.2.2.2.2
      have hlen : (xs ++ List.replicate (n + 1 - k) 0).length = n + 1 := by simp [HI.2.1]; omega
      have hstore := h1.cell (j := k) (by rw [hlen]; omega)
      have hfr := h1.frozen k
      have hda := h.below hB
      have hdb := h'.below hB
      by_cases hkn : k < n
      · obtain ⟨b, off, hA, _, hcell⟩ := hda.at_ (by omega)
        subst hA
        have hx := hcell k hkn
        have hxl := h.dig.getD k
        rw [BB_eq] at hxl
        obtain ⟨x, HX⟩ : ∃ x, Hid (x = da.getD k 0) := ⟨_, rfl⟩
        rw [← HX.out] at hx hxl
        have i0 : (0 : Int) ≤ (k : Int) := by omega
        have i1 : (k : Int) < (n : Int) := by omega
        have i2 : (k : Int) < (n : Int) + 1 := by omega
        clear hcell hda h1 hlen
        by_cases hkm : k < n'
        · obtain ⟨b', off', hA, _, hcell⟩ := hdb.at_ (by omega)
          subst hA
          have hy := hcell k hkm
          have hyl := h'.dig.getD k
          rw [BB_eq] at hyl
          obtain ⟨y, HY⟩ : ∃ y, Hid (y = db.getD k 0) := ⟨_, rfl⟩
          rw [← HY.out] at hy hyl
          have i3 : (k : Int) < (n' : Int) := by omega
          clear hcell hdb
          go_wp2
          go_roundw
          case rel => exact ⟨k + 1, (cy + x + y) / 4294967296, _, by omega, by omega, by go_num, by go_num, add_step' HI hkn HX.out HY.out (by omega)⟩
          case measure => simp [intOf]; omega
        · have HY : Hid (0 = db.getD k 0) := (getD_beyond (by rw [HL'.out]; omega)).symm
          clear hdb
          go_wp2
          go_roundw
          case rel => exact ⟨k + 1, (cy + x + 0) / 4294967296, _, by omega, by omega, by go_num, by go_num, add_step' HI hkn HX.out HY.out (by omega)⟩
          case measure => simp [intOf]; omega
      · obtain rfl : k = n := by omega
        have i2 : (k : Int) < (k : Int) + 1 := by omega
        clear hda hdb
        obtain ⟨f1, f2, f3⟩ := add_last HI (v := (cy : Int)) rfl (by omega)
        have F2 := Lib.hid f2
        clear f2
        go_wp2_with (go_at_call 99; (with_reducible refine (trim_ret _ _ _ _ _ _ f1 (Nat.le_refl _) (by unfold maxLen; omega)).mono ?_); rintro e w2 ⟨t, rfl, hd2, ht2, rfl⟩)
        go_ret
        rw [F2.out, List.take_of_length_le (by rw [HL.out]; omega), List.take_of_length_le (by rw [HL'.out]; omega)] at hd2
        exact RetD.mk_ hd2 (Nat.le_refl _) (by unfold maxLen; omega) f3
end Go.Proofs.Ytehoafpnmfkniaa
