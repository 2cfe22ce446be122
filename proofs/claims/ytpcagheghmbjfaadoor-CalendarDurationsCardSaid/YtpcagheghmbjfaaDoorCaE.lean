/-
  Calendar: the number of a day, on both sides, of a date that is one.
-/
import Derived.Test.YtpcagheghmbjfaaDoorCaC
import Derived.Deep.RegionHeld3
set_option linter.unusedVariables false
set_option linter.unusedSimpArgs false
namespace Go.Proofs.YtpcagheghmbjfaaDoor
open Go.RowKit

def RetI3 (w : World) (z : Int) (e : Ending) (w' : World) : Prop := e = .returned (.int .i64 z) ∧ Below w.heap.size w w'
theorem MonT.drew' {w : World} (h : MonT w) : MonT w.drew := h.below (Below.refl w.heap.size w).drew (Nat.le_refl _)
theorem MonT.box {w : World} (h : MonT w) (o : Obj) : MonT (w.alloc o) := h.below (cnew w o) (Nat.le_refl _)
set_option maxHeartbeats 4000000 in
set_option maxRecDepth 100000 in
theorem dayNumber_any (y d : Int) (m : Nat) (h : IsD y m d) (y1 : 1999 ≤ y) (y2 : y ≤ 2100) (w : World) (hT : MonT w) : Calls Tryd.prog 40 #[dateV y m d] w (RetI3 w (dayN y m d)) := by
  unfold dateV
  have hdv := divide_any (y - 2000) 400 (by omega) (by omega) (by omega) (by omega)
  have r0 : 0 ≤ (y - 2000) % 400 := Int.emod_nonneg _ (by omega)
  have r1 : (y - 2000) % 400 < 400 := Int.emod_lt_of_pos _ (by omega)
  have c0 : -1 ≤ (y - 2000) / 400 := by omega
  have c1 : (y - 2000) / 400 ≤ 0 := by omega
  have hcr : 2000 + 400 * ((y - 2000) / 400) + (y - 2000) % 400 = y := by omega
  obtain ⟨c, Hc⟩ : ∃ v, Hid ((y - 2000) / 400 = v) := ⟨_, rfl⟩
  obtain ⟨r, Hr⟩ : ∃ v, Hid ((y - 2000) % 400 = v) := ⟨_, rfl⟩
  rw [Hc.out, Hr.out] at hdv hcr
  rw [Hr.out] at r0 r1
  rw [Hc.out] at c0 c1
  have hyc := yd_cycle (c := c) r0 (by omega)
  rw [hcr] at hyc
  have hyl := yr_lo r0 (by omega)
  have hyn : 0 ≤ yrd r := by unfold yrd; omega
  have hdb := daysBefore_any r r0 (by omega)
  have hdn : dayN y m d = yday y + mdB (leapB y) (m - 1) + d - 1 := rfl
  have hml := fun (k : Nat) (k1 : 1 ≤ k) (k2 : k ≤ 12) => monthLength_any y k k1 k2 (by omega) (by omega)
  have d1 := h.d1
  have d2 : d ≤ 31 := by have := h.d2; have := ml_pos (b := leapB y) h.m1 h.m2; omega
  have m1 := h.m1
  have m2 := h.m2
  obtain ⟨R, HR⟩ : ∃ v, Hid (dayN y m d = v) := ⟨_, rfl⟩
  rw [HR.out] at hdn ⊢
  have hmn : ∀ k, k ≤ 12 → 0 ≤ mdB (leapB y) k := fun k hk => md_nn _ hk
  have hmb : ∀ k, k ≤ 12 → mdB (leapB y) k ≤ 366 := fun k hk => md_bd _ hk
  have hms : ∀ k, mdB (leapB y) (k + 1) = mdB (leapB y) k + mlB (leapB y) (k + 1) := fun k => rfl
  obtain ⟨L, HL⟩ : ∃ v, Hid (leapB y = v) := ⟨_, rfl⟩
  rw [HL.out] at hdn hml hmn hmb hms
  obtain ⟨Y, HY⟩ : ∃ v, Hid (yrd r = v) := ⟨_, rfl⟩
  rw [HY.out] at hyc hyl hyn hdb
  obtain ⟨YD, HYD⟩ : ∃ v, Hid (yday y = v) := ⟨_, rfl⟩
  rw [HYD.out] at hyc hdn
  have HDN := Lib.hid hdn
  have HYC := Lib.hid hyc
  clear hdn hyc hcr h
  have hT2 := hT.box (.cells #[Value.int IntKind.i64 y, Value.int IntKind.i64 ↑m, Value.int IntKind.i64 d] 23)
  clear hT
  have s1 : IntKind.i64.wrap (c * 146097) = c * 146097 := IntWalk.i64_in _ (by omega)
  have s2 : IntKind.i64.wrap (c * 146097 + Y) = c * 146097 + Y := IntWalk.i64_in _ (by omega)
  have s3 : IntKind.i64.wrap (c * 146097 + Y + d) = c * 146097 + Y + d := IntWalk.i64_in _ (by omega)
  have s4 : IntKind.i64.wrap (c * 146097 + Y + d - 1) = c * 146097 + Y + d - 1 := IntWalk.i64_in _ (by omega)
  go_enter Tryd.func40, Tryd.ntmps40
  go_upto_region 2 with (first
    | (go_at_call 45; (with_reducible refine (hdv _).mono ?_); rintro e w1 ⟨rfl, k1, rfl⟩)
    | fail)
  go_region_held3 (fun w' => w'.cell? ⟨w.heap.size, 2, none⟩ = some (.int .i64 d))
    (first | exact ⟨by simp⟩ | (show _ = _; simp))
    (first
    | (go_at_call 63; (with_reducible refine (hdb _).mono ?_); rintro e w1 ⟨rfl, rfl⟩)
    | fail)
  all_goals
    go_wp2_with fail
    go_loop [5, 6] (fun v i => ∃ (k : Nat) (a : Int), 1 ≤ k ∧ k ≤ m ∧ i = .int .i64 k ∧ v = .int .i64 a ∧ Hid (a = YD + d - 1 + mdB L (k - 1))) (fun _ i => m - (intOf i).toNat)
    case atStart => exact ⟨1, _, by omega, by omega, rfl, rfl, by unfold Hid; rw [HYC.out]; show _ = _ + 0; omega⟩
    case round =>
      obtain ⟨k, a, hk1, hk2, rfl, rfl, ha⟩ := hrel
      have b1 := hmn (k - 1) (by omega)
      have b2 := hmb (k - 1) (by omega)
      have hyb := HYC.out
      have haa := ha.out
      have ab : -1000000 ≤ a ∧ a ≤ 1000000 := by omega
      by_cases hlt : k < m
      · have hm1 := hml k hk1 (by omega)
        have hst := hms (k - 1)
        rw [show k - 1 + 1 = k by omega] at hst
        have hpp := ml_pos (b := L) (m := k) hk1 (by omega)
        obtain ⟨M, HM⟩ : ∃ v, Hid (mlB L k = v) := ⟨_, rfl⟩
        rw [HM.out] at hm1 hst hpp
        have HN : Hid (a + M = YD + d - 1 + mdB L k) := by unfold Hid; rw [hst]; omega
        have j1 : (k : Int) < (m : Int) := by omega
        clear hst haa b1 b2 hyb
        go_wp2_with (first
          | (go_at_call 47; (with_reducible refine (hm1 _ (by first | exact (hT2.drewN _).drew' | exact hT2.drewN _ | exact hT2.drew' | exact hT2.drew'.drew')).mono ?_); rintro e w1 ⟨rfl, rfl⟩)
          | fail)
        go_round
        case rel => exact ⟨k + 1, a + M, by omega, by omega, by go_num, rfl, HN⟩
        case measure => simp [intOf]; omega
      · obtain rfl : k = m := by omega
        have j1 : ¬ (k : Int) < (k : Int) := by omega
        have HF : Hid (a = R) := by unfold Hid; rw [ha.out, HDN.out]; omega
        clear haa b1 b2 hyb
        go_wp2_with fail
        go_ret
        exact ⟨by rw [HF.out]; rfl, by first | exact ((cnew _ _).drewN _).drew | exact below_drewN (cnew _ _) _ | exact (below_drewN (cnew _ _) _).drew⟩
end Go.Proofs.YtpcagheghmbjfaaDoor

