/-
  Calendar: the program's date of a day.
-/
import Derived.Test.YtpcagheghmbjfaaDoorCaE
set_option linter.unusedVariables false
set_option linter.unusedSimpArgs false
namespace Go.Proofs.YtpcagheghmbjfaaDoor
open Go.RowKit

def RetDay (w : World) (day : Int) (e : Ending) (w' : World) : Prop := ∃ (y d : Int) (m : Nat), e = .returned (dateV y m d) ∧ IsD y m d ∧ dayN y m d = day ∧ Below w.heap.size w w'
set_option maxHeartbeats 4000000 in
set_option maxRecDepth 100000 in
theorem dateOf_any (day : Int) (h0 : -9223372036854775808 ≤ day) (h1 : day ≤ 9223372036854775807) (w : World) (hT : MonT w) : Calls Tryd.prog 43 #[.int .i64 day] w (RetDay w day) := by
  have hdv := divide_any day 146097 (by omega) (by omega) h0 h1
  have r0 : 0 ≤ day % 146097 := Int.emod_nonneg _ (by omega)
  have r1 : day % 146097 < 146097 := Int.emod_lt_of_pos _ (by omega)
  have hcr : 146097 * (day / 146097) + day % 146097 = day := by omega
  obtain ⟨c, Hc⟩ : ∃ v, Hid (day / 146097 = v) := ⟨_, rfl⟩
  obtain ⟨R, HR⟩ : ∃ v, Hid (day % 146097 = v) := ⟨_, rfl⟩
  rw [Hc.out, HR.out] at hdv hcr
  rw [HR.out] at r0 r1
  have cb : -64000000000000 ≤ c ∧ c ≤ 64000000000000 := by omega
  have HCR := Lib.hid hcr
  clear hcr
  have hy0 : 0 ≤ R / 366 := by omega
  have hy1 : R / 366 < 400 := by omega
  have hyy := yr_lo hy0 (by omega)
  have HYY : Hid (yrd (R / 366) ≤ R) := by unfold Hid; omega
  clear hyy
  have hT2 := hT.box (.cells #[Value.int IntKind.i64 0, Value.int IntKind.i64 0, Value.int IntKind.i64 0] 23)
  clear hT
  go_enter Tryd.func43, Tryd.ntmps43
  go_wp2_with (first
    | (go_at_call 45; (with_reducible refine (hdv _).mono ?_); rintro e w1 ⟨rfl, k1, rfl⟩)
    | fail)
  go_loop [5] (fun i => ∃ k : Int, 0 ≤ k ∧ k < 400 ∧ i = .int .i64 k ∧ Hid (yrd k ≤ R)) (fun i => (400 - intOf i).toNat)
  case atStart => exact ⟨_, hy0, hy1, rfl, HYY⟩
  case round =>
    obtain ⟨k, i0, hk, rfl, hrk⟩ := hrel
    have hdb := daysBefore_any (k + 1) (by omega) (by omega)
    have hbig := @yr_big (k + 1)
    have hsc := @yd_cycle c k (by omega) (by omega)
    have hsc2 := @yd_cycle c (k + 1) (by omega) (by omega)
    have hss := yd_succ (2000 + 400 * c + k)
    rw [show 2000 + 400 * c + k + 1 = 2000 + 400 * c + (k + 1) by omega, hsc, hsc2] at hss
    have hdb2 := daysBefore_any k (by omega) (by omega)
    have hyn : 0 ≤ yrd k := by unfold yrd; omega
    have hyl := @yr_lo k (by omega) (by omega)
    have hrk2 := hrk.out
    obtain ⟨Z, HZ⟩ : ∃ v, Hid (yrd (k + 1) = v) := ⟨_, rfl⟩
    obtain ⟨Y, HY⟩ : ∃ v, Hid (yrd k = v) := ⟨_, rfl⟩
    rw [HZ.out] at hdb hbig hss
    rw [HY.out] at hss hdb2 hyn hyl hrk2 hsc
    by_cases hle : Z ≤ R
    · have hk4 : k + 1 < 400 := by omega
      have HN : Hid (yrd (k + 1) ≤ R) := by unfold Hid; rw [HZ.out]; exact hle
      clear hss hdb2 hsc hsc2
      go_wp2_with (first
        | (go_at_call 63; (with_reducible refine (hdb _).mono ?_); rintro e w1 ⟨rfl, rfl⟩)
        | fail)
      go_round
      case rel => exact ⟨k + 1, by omega, by omega, rfl, HN⟩
      case measure => simp [intOf]; omega
    · have hle2 : decide (Z ≤ R) = false := by simpa using hle
      obtain ⟨y, Hy⟩ : ∃ v, Hid (2000 + 400 * c + k = v) := ⟨_, rfl⟩
      rw [Hy.out] at hsc hss
      have yb : -9223372036854775808 ≤ y ∧ y ≤ 9223372036854775807 := by have := Hy.out; omega
      have hml := fun (k : Nat) (k1 : 1 ≤ k) (k2 : k ≤ 12) => monthLength_any y k k1 k2 yb.1 yb.2
      have hms : ∀ k, mdB (leapB y) (k + 1) = mdB (leapB y) k + mlB (leapB y) (k + 1) := fun k => rfl
      have h12 := md_12 (leapB y)
      have hdn : ∀ (m : Nat) (d : Int), dayN y m d = yday y + mdB (leapB y) (m - 1) + d - 1 := fun _ _ => rfl
      have hisd : ∀ (m : Nat) (d : Int), 1 ≤ m → m ≤ 12 → 1 ≤ d → d ≤ mlB (leapB y) m → IsD y m d := fun m d a b c d => ⟨a, b, c, d⟩
      obtain ⟨L, HL⟩ : ∃ v, Hid (leapB y = v) := ⟨_, rfl⟩
      rw [HL.out] at hml hms h12 hdn hisd hss
      rw [hsc] at hdn
      have e1 : k + (2000 + c * 400) = y := by have := Hy.out; omega
      have e2 : R - Y < mdB L 12 := by rw [h12]; omega
      have HDN := Lib.hid hdn
      have HMS := Lib.hid hms
      have HIS := Lib.hid hisd
      have HE2 := Lib.hid e2
      have a0 : 0 ≤ R - Y := by omega
      obtain ⟨A, HA⟩ : ∃ v, Hid (R - Y = v) := ⟨_, rfl⟩
      have ea : R - Y = A := HA.out
      rw [ea] at a0
      have ab : A ≤ 1000 := by
        have h := md_bd L (k := 12) (by omega)
        have := HE2.out; omega
      clear hss hdn hms hisd h12 e2 hsc hsc2 hbig hrk2 hyn hyl
      have yb1 := yb.1
      have yb2 := yb.2
      clear yb
      go_wp2_with (first
        | (go_at_call 63; first | ((with_reducible refine (hdb _).mono ?_); rintro e w1 ⟨rfl, rfl⟩) | ((with_reducible refine (hdb2 _).mono ?_); rintro e w1 ⟨rfl, rfl⟩))
        | fail)
      go_loop [4, 6] (fun r i => ∃ (k : Nat) (a : Int), 1 ≤ k ∧ k ≤ 12 ∧ i = .int .i64 k ∧ r = .int .i64 a ∧ 0 ≤ a ∧ a ≤ 1000 ∧ Hid (mdB L (k - 1) + a = A)) (fun _ i => 12 - (intOf i).toNat)
      case atStart => exact ⟨1, _, by omega, by omega, rfl, rfl, by omega, by omega, by unfold Hid; show 0 + _ = _; omega⟩
      case round =>
        obtain ⟨j, a, j1, j2, rfl, rfl, a1, a2, haj⟩ := hrel
        have hm1 := hml j j1 j2
        have hst := HMS.out (j - 1)
        rw [show j - 1 + 1 = j by omega] at hst
        have hpp := ml_pos (b := L) (m := j) j1 j2
        have hje := haj.out
        have hdj := HDN.out j (a + 1)
        have hij := HIS.out j (a + 1) j1 j2 (by omega)
        have he2 := HE2.out
        obtain ⟨M, HM⟩ : ∃ v, Hid (mlB L j = v) := ⟨_, rfl⟩
        rw [HM.out] at hm1 hst hpp hij
        have hcr := HCR.out
        by_cases hge : M ≤ a
        · have hj12 : j < 12 := by
            apply Classical.byContradiction; intro hc
            obtain rfl : j = 12 := by omega
            omega
          have HN : Hid (mdB L j + (a - M) = A) := by unfold Hid; rw [hst]; omega
          clear hst hje hdj hij he2 hcr
          go_wp2_with (first
            | (go_at_call 47; (with_reducible refine (hm1 _ (hT2.drewN _)).mono ?_); rintro e w1 ⟨rfl, rfl⟩)
            | fail)
          go_round
          case rel => exact ⟨j + 1, a - M, by omega, by omega, by go_num, rfl, by omega, by omega, HN⟩
          case measure => simp [intOf]; omega
        · have hge2 : decide (M ≤ a) = false := by simpa using hge
          have HI := Lib.hid (hij (by omega))
          have HD : Hid (dayN y j (a + 1) = day) := by unfold Hid; rw [hdj]; omega
          clear hst hje hdj hij he2 hcr
          go_wp2_with (first
            | (go_at_call 47; (with_reducible refine (hm1 _ (hT2.drewN _)).mono ?_); rintro e w1 ⟨rfl, rfl⟩)
            | fail)
          refine bodyPost_ret (v := dateV y j (a + 1)) (by simp [results, Tryd.results43, go_sem, dateV]) rfl ⟨y, a + 1, j, rfl, HI.out, HD.out, ?_⟩
          exact (((below_drewN (cnew _ _) _).setCell (Nat.le_refl _) _).setCell (Nat.le_refl _) _).setCell (Nat.le_refl _) _
end Go.Proofs.YtpcagheghmbjfaaDoor

