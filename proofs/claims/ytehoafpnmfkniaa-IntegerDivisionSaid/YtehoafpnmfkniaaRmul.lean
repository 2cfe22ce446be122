/-
  The reference's products of digits.
-/
import Derived.Test.YtehoafpnmfkniaaMul
set_option linter.unusedVariables false
set_option linter.unusedSimpArgs false
namespace Go.Proofs.Ytehoafpnmfkniaa
open Go.RowKit

theorem MulI.drewN {w wr : World} {g N i n' k cy x V0 : Nat} {db xs : List Nat} (h : MulI w wr g N i n' k cy x V0 db xs) (q : Nat) : MulI w (wr.drewN q) g N i n' k cy x V0 db xs := by
  obtain ⟨h1, h2, h3, h4, h5, h6⟩ := h
  exact ⟨h1, h2, h3, h4, h5, h6.drewN q⟩

set_option maxHeartbeats 2000000 in
set_option maxRecDepth 100000 in
theorem rmulDigits_any (A A' : Option Addr) (n n' c c' : Nat) (da db : List Nat) (w : World) (h : Dgs w w.heap.size A n da) (h' : Dgs w w.heap.size A' n' db) (hc : n ≤ c) (hm : c ≤ maxLen) (hc' : n' ≤ c') (hm' : c' ≤ maxLen) (hs : n ≤ 1000000) (hs' : n' ≤ 1000000) :
    Calls Try.prog 138 #[.slice A n c, .slice A' n' c'] w (RetD w (val da * val db)) := by
  have hmk := run_make_row' (P := Try.prog) 22 74 (.int .u32 0) 4 Try.underlying22 u32_info rfl .i64 .i64 (n + n') (by omega) (by omega)
  have ec : ((n + n' : Nat) : Int) = (n : Int) + (n' : Int) := by omega
  rw [ec] at hmk
  clear ec
  have HL := Lib.hid h.len
  have HL' := Lib.hid h'.len
  have H0 : MulO (w.alloc (.cells (madeCells #[.int .u32 0] (n + n')) 74)) (w.alloc (.cells (madeCells #[.int .u32 0] (n + n')) 74)) w.heap.size (n + n') 0 n' da db (List.replicate (n + n') 0) :=
    ⟨Row.made w _, by simp, dig_zeros _, fun j _ => by simp [List.getD, List.getElem?_replicate]; split <;> rfl, by rw [val_zeros]; simp [val], Only.refl _ _⟩
  have hB0 := bnew w (.cells (madeCells #[.int .u32 0] (n + n')) 74)
  go_enter Try.func138, Try.ntmps138
  go_wp2
  clear hmk
  generalize (w.alloc (.cells (madeCells #[.int .u32 0] (n + n')) 74)) = W0 at H0 hB0 ⊢
  go_loopw [6] (fun i wr => ∃ (k : Nat) (xs : List Nat), k ≤ n ∧ i = .int .i64 k ∧ MulO W0 wr w.heap.size (n + n') k n' da db xs) (fun i _ => n - (intOf i).toNat)
  case atStart => exact ⟨0, _, Nat.zero_le _, rfl, H0⟩
  case round =>
    clear H0
    obtain ⟨i, xs, hi, rfl, HO⟩ := hrel
    have hO := HO.2.2.2.2.2
    have hda := (h.below hB0).below (hO.below (Nat.le_refl _))
    by_cases hin : i < n
    · obtain ⟨x, HX⟩ : ∃ x, Hid (x = da.getD i 0) := ⟨_, rfl⟩
      have hxl := h.dig.getD i
      rw [BB_eq, ← HX.out] at hxl
      have i0 : (0 : Int) ≤ (i : Int) := by omega
      have i1 : (i : Int) < (n : Int) := by omega
      clear hda
      have HI := HO.start (x := x)
      clear HO hO
      go_wp2
      go_loopw [7, 8] (fun cv kv wi => ∃ (k cy : Nat) (ys : List Nat), k ≤ n' ∧ cy < 4294967296 ∧ kv = .int .i64 k ∧ cv = .int .u64 cy ∧ MulI W0 wi w.heap.size (n + n') i n' k cy x (val (da.take i) * val db) db ys) (fun _ kv _ => n' - (intOf kv).toNat)
      case atStart => exact ⟨0, 0, xs, Nat.zero_le _, by omega, rfl, rfl, HI⟩
      case round =>
        clear HI
        obtain ⟨k, cy, ys, hk, hcy, rfl, rfl, HJ⟩ := hrel
        have hO := HJ.2.2.2.2.2
        by_cases hkn : k < n'
        · have hdb := (h'.below hB0).below (hO.below (Nat.le_refl _))
          obtain ⟨b', off', hA, _, hcell⟩ := hdb.at_ (by omega)
          subst hA
          have hda := (h.below hB0).below (hO.below (Nat.le_refl _))
          obtain ⟨b, off, hA, _, hcellA⟩ := hda.at_ (by omega)
          subst hA
          have hx := hcellA i hin
          rw [← HX.out] at hx
          have hy := hcell k hkn
          have hyl := h'.dig.getD k
          rw [BB_eq] at hyl
          obtain ⟨y, HY⟩ : ∃ y, Hid (y = db.getD k 0) := ⟨_, rfl⟩
          rw [← HY.out] at hy hyl
          have hz := HJ.1.cell (j := i + k) (by have := HJ.2.1; omega)
          have hzl := HJ.2.2.1.getD (i + k)
          rw [BB_eq] at hzl
          obtain ⟨z, HZ⟩ : ∃ z, Hid (z = ys.getD (i + k) 0) := ⟨_, rfl⟩
          rw [← HZ.out] at hz hzl
          have hfr := HJ.1.frozen (i + k)
          have hml := mul_le x y hxl hyl
          obtain ⟨m, HM⟩ : ∃ m, Hid (m = x * y) := ⟨_, rfl⟩
          rw [← HM.out] at hml
          have hmm : (x : Int) * (y : Int) = (m : Int) := by rw [HM.out]; exact (Int.natCast_mul x y).symm
          have k0 : (0 : Int) ≤ (k : Int) := by omega
          have k1 : (k : Int) < (n' : Int) := by omega
          have HJd := fun q => HJ.drewN q
          have l1 : (0 : Int) ≤ (i : Int) + (k : Int) := by omega
          have l2 : (i : Int) + (k : Int) < ((n + n' : Nat) : Int) := by omega
          have l3 : ((i : Int) + (k : Int)).toNat = i + k := by omega
          have l4 : IntKind.i64.wrap ((i : Int) + (k : Int)) = (i : Int) + (k : Int) := IntWalk.i64_in _ (by omega)
          have l5 : IntKind.u64.wrap ((x : Int) * (y : Int)) = (m : Int) := by rw [hmm]; exact IntWalk.u64_in _ (by omega)
          have l6 : IntKind.u64.wrap ((cy : Int) + (z : Int)) = (cy : Int) + (z : Int) := IntWalk.u64_in _ (by omega)
          have l7 : IntKind.u64.wrap ((cy : Int) + (z : Int) + (m : Int)) = ((cy + (m + z) : Nat) : Int) := by rw [IntWalk.u64_in _ (by omega)]; omega
          clear hcell hcellA hda hdb hO
          go_wp2
          go_quiet (fail)
          clear l1 l2 l3 l4 l5 l6 l7
          go_wp2
          go_roundw
          case rel => exact ⟨k + 1, (cy + (m + z)) / 4294967296, _, by omega, by omega, by go_num, by go_num, mul_step (HJd _) hkn (by omega) HY.out HZ.out HM.out rfl (by omega)⟩
          case measure => simp [intOf]; omega
        · obtain rfl : k = n' := by omega
          have hst := HJ.1.cell (j := i + k) (by have := HJ.2.1; omega)
          have hfr := HJ.1.frozen (i + k)
          clear hO
          go_wp2
          go_roundw
          case rel => exact ⟨i + 1, _, by omega, by go_num, mul_rowEnd HJ HL'.out HX.out (by omega) hcy rfl⟩
          case measure => simp [intOf]; omega
    · obtain rfl : i = n := by omega
      have h1 := HO.1
      have HV : Hid (val xs = val da * val db) := by unfold Hid; rw [HO.2.2.2.2.1, List.take_of_length_le (by have := HL.out; omega)]
      have hd := h1.dgs HO.2.2.1
      rw [HO.2.1] at hd
      clear hda
      go_wp2_with (go_at_call 113; (with_reducible refine (rtrim_ret _ _ _ _ _ _ hd (Nat.le_refl _) (by unfold maxLen; omega)).mono ?_); rintro e w2 ⟨t, rfl, hd2, ht2, rfl⟩)
      go_ret
      rw [HV.out] at hd2
      exact RetD.mk_ hd2 ht2 (by unfold maxLen; omega) (hB0.trans (hO.below (Nat.le_refl _)))
end Go.Proofs.Ytehoafpnmfkniaa
