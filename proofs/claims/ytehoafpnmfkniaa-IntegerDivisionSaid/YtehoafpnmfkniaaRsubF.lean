/-
  The reference's difference of digits, in a row of its own.
-/
import Derived.Test.YtehoafpnmfkniaaRbits
set_option linter.unusedVariables false
set_option linter.unusedSimpArgs false
namespace Go.Proofs.Ytehoafpnmfkniaa
open Go.RowKit

set_option maxHeartbeats 1000000 in
set_option maxRecDepth 100000 in
theorem rsubDigitsF_any (A A' : Option Addr) (n n' c c' : Nat) (da db : List Nat) (w : World) (h : Dgs w w.heap.size A n da) (h' : Dgs w w.heap.size A' n' db) (hc : n ≤ c) (hm : c ≤ maxLen) (hc' : n' ≤ c') (hm' : c' ≤ maxLen) (hs : n ≤ 1000000) (hle : val db ≤ val da) :
    Calls Try.prog 133 #[.slice A n c, .slice A' n' c'] w (RetF w (val da - val db)) := by
  have hmk := run_make_row' (P := Try.prog) 22 74 (.int .u32 0) 4 Try.underlying22 u32_info rfl .i64 .i64 n (by omega) (by omega)
  have H0 : SubI w (w.alloc (.cells (madeCells #[.int .u32 0] n) 74)) n 0 0 (val (da.take 0)) (val (db.take 0)) [] := ⟨by simpa using Row.made w n, rfl, Dig.nil, rfl, bnew _ _⟩
  have HL := Lib.hid h.len
  have HLE := Lib.hid hle
  clear hle
  go_enter Try.func133, Try.ntmps133
  go_wp2
  clear hmk
  go_loopw [6, 7] (fun cv i wr => ∃ (k bo : Nat) (xs : List Nat), k ≤ n ∧ bo ≤ 1 ∧ i = .int .i64 k ∧ cv = .int .u64 bo ∧ SubI w wr n k bo (val (da.take k)) (val (db.take k)) xs) (fun _ i _ => n - (intOf i).toNat)
  case atStart => exact ⟨0, 0, [], Nat.zero_le _, Nat.zero_le _, rfl, rfl, H0⟩
  case round =>
    clear H0
    obtain ⟨k, bo, xs, hk, hbo, rfl, rfl, HI⟩ := hrel
    have h1 := HI.1
    have hB := HI.2.2.2.2
    have hda := h.below hB
    have hdb := h'.below hB
    by_cases hkn : k < n
    · have hlen : (xs ++ List.replicate (n - k) 0).length = n := by simp [HI.2.1]; omega
      have hstore := h1.cell (j := k) (by rw [hlen]; omega)
      have hfr := h1.frozen k
      have hxl := h.dig.getD k
      have hyl := h'.dig.getD k
      rw [BB_eq] at hxl hyl
      obtain ⟨x, HX⟩ : ∃ x, Hid (x = da.getD k 0) := ⟨_, rfl⟩
      obtain ⟨y, HY⟩ : ∃ y, Hid (y = db.getD k 0) := ⟨_, rfl⟩
      rw [← HX.out] at hxl
      rw [← HY.out] at hyl
      have i0 : (0 : Int) ≤ (k : Int) := by omega
      have i1 : (k : Int) < (n : Int) := by omega
      clear h1 hlen
      go_wp2_with (first
        | (go_at_call_of 155 (Value.slice A n c); (with_reducible refine (digit_any A n c _ da k _ hda hc hm (by unfold maxLen; omega)).mono ?_); rw [← HX.out]; rintro e w' ⟨rfl, rfl⟩)
        | (go_at_call_of 155 (Value.slice A' n' c'); (with_reducible refine (digit_any A' n' c' _ db k _ hdb hc' hm' (by unfold maxLen; omega)).mono ?_); rw [← HY.out]; rintro e w' ⟨rfl, rfl⟩)
        | fail)
      obtain ⟨d, bo', e1, e2, e3, e4, e5⟩ := rsub_digit x y bo hxl hyl hbo
      go_roundw
      case rel => exact ⟨k + 1, bo', _, by omega, e1, by go_num, int_val e5, sub_step HI hkn HX.out HY.out e2 e3 e4⟩
      case measure => simp [intOf]; omega
    · obtain rfl : k = n := by omega
      obtain ⟨f1, f2, f3⟩ := sub_last HI HL.out h.dig HLE.out
      have F2 := Lib.hid f2
      clear f2 hda hdb
      go_wp2_with (go_at_call 113; (with_reducible refine (rtrim_ret _ _ _ _ _ _ f1 (Nat.le_refl _) (by unfold maxLen; omega)).mono ?_); rintro e w2 ⟨t, rfl, hd2, ht2, rfl⟩)
      go_ret
      rw [F2.out] at hd2
      exact RetF.mk_ hd2 ht2 (by unfold maxLen; omega) f3
end Go.Proofs.Ytehoafpnmfkniaa
