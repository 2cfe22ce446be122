/-
  The reference's shift by one bit to the right.
-/
import Derived.Test.YtehoafpnmfkniaaRbits
set_option linter.unusedVariables false
set_option linter.unusedSimpArgs false
namespace Go.Proofs.Ytehoafpnmfkniaa
open Go.RowKit

/-- What holds of the row into which halved digits are written. -/
def HfI (w W0 wr : World) (n k : Nat) (ds xs : List Nat) : Prop :=
  Row wr w.heap.size (xs ++ List.replicate (n - k) 0) ∧ xs.length = k ∧ Dig xs ∧ 2 * val xs + ds.getD 0 0 % 2 = val (ds.take k) + BB ^ k * (ds.getD k 0 % 2) ∧ Only w.heap.size W0 wr
theorem HfI.drewN {w W0 wr : World} {n k : Nat} {ds xs : List Nat} (h : HfI w W0 wr n k ds xs) (q : Nat) : HfI w W0 (wr.drewN q) n k ds xs := ⟨h.1.drewN q, h.2.1, h.2.2.1, h.2.2.2.1, h.2.2.2.2.drewN q⟩

theorem hf_step {w W0 wr : World} {n k x y d : Nat} {ds xs : List Nat} (h : HfI w W0 wr n k ds xs) (hk : k < n) (hx : x = ds.getD k 0) (hy : y = ds.getD (k + 1) 0) (hxl : x < 4294967296) (hd : d = x / 2 + y % 2 * 2147483648) {v : Int} (hv : v = (d : Nat)) :
    HfI w W0 (wr.setCell ⟨w.heap.size, k, none⟩ (.int .u32 v)) n (k + 1) ds (xs ++ [d]) := by
  obtain ⟨h1, h2, h3, h4, h5⟩ := h
  subst hv
  refine ⟨?_, by simp [h2], h3.append (Dig.cons (by rw [BB_eq]; omega) Dig.nil), ?_, h5.setCell _ _⟩
  · have e : n - k = (n - (k + 1)) + 1 := by omega
    rw [e] at h1
    have := h1.set k d
    rwa [← h2, set_zeros, h2] at this
  · rw [val_snoc, h2, val_take_any, ← hx, ← hy, Nat.pow_succ]
    rw [← hx] at h4
    have e1 : BB ^ k * x = BB ^ k * (2 * (x / 2)) + BB ^ k * (x % 2) := by rw [← Nat.mul_add]; congr 1; omega
    have e2 : 2 * (BB ^ k * d) = BB ^ k * (2 * (x / 2)) + BB ^ k * BB * (y % 2) := by
      rw [Nat.mul_assoc (BB ^ k) BB, ← Nat.mul_add, Nat.mul_left_comm]; congr 1; rw [hd, BB_eq]; omega
    rw [Nat.mul_add 2, e2, e1]
    omega

theorem or_half (x y : Nat) (hx : x < 4294967296) (hy : y < 4294967296) : bits .or .u32 ((x : Int) / 2) ((y : Int) * 2147483648 % 4294967296) = ((x / 2 + y % 2 * 2147483648 : Nat) : Int) := by
  have e1 : (x : Int) / 2 = ((x / 2 : Nat) : Int) := by omega
  have e2 : (y : Int) * 2147483648 % 4294967296 = ((y % 2 * 2147483648 : Nat) : Int) := by omega
  rw [e1, e2, u32_or_nat _ _ (by omega) (by omega), Nat.or_comm, nat_join 31 _ _ (by omega) (by omega), Nat.add_comm]

set_option maxHeartbeats 2000000 in
set_option maxRecDepth 100000 in
theorem rhalf_any (A : Option Addr) (n c : Nat) (ds : List Nat) (w : World) (h : Dgs w w.heap.size A n ds) (hc : n ≤ c) (hm : c ≤ maxLen) (hs : n ≤ 1000000) :
    Calls Try.prog 134 #[.slice A n c] w (RetF w (val ds / 2)) := by
  have hmk := run_make_row' (P := Try.prog) 22 74 (.int .u32 0) 4 Try.underlying22 u32_info rfl .i64 .i64 n (by omega) (by omega)
  have HL := Lib.hid h.len
  have H0 : HfI w (w.alloc (.cells (madeCells #[.int .u32 0] n) 74)) (w.alloc (.cells (madeCells #[.int .u32 0] n) 74)) n 0 ds [] := ⟨by simpa using Row.made w n, rfl, Dig.nil, by simp [val], Only.refl _ _⟩
  have hB0 := bnew w (.cells (madeCells #[.int .u32 0] n) 74)
  go_enter Try.func134, Try.ntmps134
  go_wp2
  clear hmk
  generalize (w.alloc (.cells (madeCells #[.int .u32 0] n) 74)) = W0 at H0 hB0 ⊢
  go_loopw [4] (fun i wr => ∃ (k : Nat) (xs : List Nat), k ≤ n ∧ i = .int .i64 k ∧ HfI w W0 wr n k ds xs) (fun i _ => n - (intOf i).toNat)
  case atStart => exact ⟨0, [], Nat.zero_le _, rfl, H0⟩
  case round =>
    clear H0
    obtain ⟨k, xs, hk, rfl, HI⟩ := hrel
    have hO := HI.2.2.2.2
    have hda := (h.below hB0).below (hO.below (Nat.le_refl _))
    by_cases hkn : k < n
    · obtain ⟨x, HX⟩ : ∃ x, Hid (x = ds.getD k 0) := ⟨_, rfl⟩
      have hxl := h.dig.getD k
      rw [← HX.out, BB_eq] at hxl
      obtain ⟨y, HY⟩ : ∃ y, Hid (y = ds.getD (k + 1) 0) := ⟨_, rfl⟩
      have hyl := h.dig.getD (k + 1)
      rw [← HY.out, BB_eq] at hyl
      have HD := Lib.hid hda
      obtain ⟨b, off, hA, hbl, hcell⟩ := hda.at_ (by omega)
      subst hA
      have hx := hcell k hkn
      rw [← HX.out] at hx
      have hst := HI.1.cell (j := k) (by have := HI.2.1; simp; omega)
      have hfr := HI.1.frozen k
      have hne : ¬ w.heap.size = b := by omega
      have hne' : ¬ b = w.heap.size := by omega
      have i0 : (0 : Int) ≤ (k : Int) := by omega
      have i1 : (k : Int) < (n : Int) := by omega
      have e1 : IntKind.i64.wrap ((k : Int) + 1) = (k : Int) + 1 := IntWalk.i64_in _ (by omega)
      have hkm : k + 1 ≤ maxLen := by unfold maxLen; omega
      have ek : ((k + 1 : Nat) : Int) = (k : Int) + 1 := by omega
      have hdg := fun w' (hw : Drew wr w') => digit_any (some ⟨b, off, none⟩) n c _ ds (k + 1) w' (hw.dgs HD.out) hc hm hkm
      rw [ek] at hdg
      clear ek
      obtain ⟨d, HDD⟩ : ∃ d, Hid (d = x / 2 + y % 2 * 2147483648) := ⟨_, rfl⟩
      have HOR : Hid (bits .or .u32 ((x : Int) / 2) ((y : Int) * 2147483648 % 4294967296) = (d : Int)) := by unfold Hid; rw [HDD.out]; exact or_half x y hxl hyl
      have HXL := Lib.hid hxl
      have hdw := hdg wr.drew ⟨1, rfl⟩
      clear hcell hda hO hdg
      go_wp2
      go_region_held3 (fun w' => w'.cell? ⟨b, off + k, none⟩ = some (.int .u32 x))
        (go_keep)
        (first
          | (go_at_call 155; (with_reducible refine hdw.mono ?_); rw [← HY.out]; rintro e w' ⟨rfl, rfl⟩)
          | fail)
      go_wp2
      go_roundw
      case rel => exact ⟨k + 1, _, by omega, by go_num, (hf_step HI hkn HX.out HY.out HXL.out HDD.out HOR.out).drewN 1⟩
      case measure => simp [intOf]; omega
    · obtain rfl : k = n := by omega
      obtain ⟨h1, h2, h3, h4, h5⟩ := HI
      have HV : Hid (val xs = val ds / 2) := by
        unfold Hid
        rw [List.take_of_length_le (by have := HL.out; omega), getD_beyond (ds := ds) (k := k) (by have := HL.out; omega)] at h4
        omega
      rw [Nat.sub_self, List.replicate_zero, List.append_nil] at h1
      have hd := h1.dgs h3
      rw [h2] at hd
      clear hda h4
      go_wp2_with (go_at_call 113; (with_reducible refine (rtrim_ret _ _ _ _ _ _ hd (Nat.le_refl _) (by unfold maxLen; omega)).mono ?_); rintro e w2 ⟨t, rfl, hd2, ht2, rfl⟩)
      go_ret
      rw [HV.out] at hd2
      exact RetF.mk_ hd2 ht2 (by unfold maxLen; omega) (hB0.trans (hO.below (Nat.le_refl _)))
end Go.Proofs.Ytehoafpnmfkniaa
