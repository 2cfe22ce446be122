/-
  Calendar: the reference's number of a date, its date of a number, its weekdays and minutes.
-/
import Derived.Test.YtpcagheghmbjfaaDoorCaG
set_option linter.unusedVariables false
set_option linter.unusedSimpArgs false
namespace Go.Proofs.YtpcagheghmbjfaaDoor
open Go.RowKit

theorem yd_in {k : Int} (h0 : 1999 ≤ k) (h1 : k ≤ 2101) : -365 ≤ yday k ∧ yday k ≤ 40000 := by unfold yday; omega
theorem yd_first : yday 1999 = -365 := by decide
set_option maxHeartbeats 4000000 in
set_option maxRecDepth 100000 in
theorem rdayNumber_any (y m d : Int) (w : World) : Calls Tryd.prog 11 #[dateV y m d] w (RetNE w (numV y m d) (numE y m d)) := by
  have hid := risDate_any y m d
  have hb := box_new w y m d 23
  have hv : numV y m d = if dateB y m d = true then dayN y m.toNat d else 0 := rfl
  have he : numE y m d = if dateB y m d = true then 0 else 5 := rfl
  have hdt := @date_true y m d
  obtain ⟨V, HV⟩ : ∃ v, Hid (numV y m d = v) := ⟨_, rfl⟩
  obtain ⟨E, HE⟩ : ∃ v, Hid (numE y m d = v) := ⟨_, rfl⟩
  rw [HV.out, HE.out]
  rw [HV.out] at hv
  rw [HE.out] at he
  obtain ⟨B, HB⟩ : ∃ v, Hid (dateB y m d = v) := ⟨_, rfl⟩
  rw [HB.out] at hid hv he hdt
  have HBX := Lib.hid hb
  clear hb
  unfold dateV at *
  cases B with
  | false =>
    obtain rfl : V = 0 := hv
    obtain rfl : E = 5 := he
    clear hdt
    go_enter Tryd.func11, Tryd.ntmps11
    go_wp2_with (first
      | (go_at_call 41; (with_reducible refine (hid _).mono ?_); rintro e w1 ⟨rfl, g1⟩)
      | fail)
    go_ret2
    exact ⟨rfl, ccall g1⟩
  | true =>
    obtain ⟨y1, y2, k, rfl, hk⟩ := hdt rfl
    obtain rfl : V = dayN y k d := hv
    obtain rfl : E = 0 := he
    have hdn : dayN y k d = yday y + mdB (leapB y) (k - 1) + d - 1 := rfl
    have m1 := hk.m1
    have m2 := hk.m2
    have d1 := hk.d1
    have d2 : d ≤ 31 := by have := hk.d2; have := ml_pos (b := leapB y) m1 m2; omega
    have hrd := fun (j : Nat) (j1 : 1 ≤ j) (j2 : j ≤ 12) => rdim_in y j y1 y2 j1 j2
    have hms : ∀ k, mdB (leapB y) (k + 1) = mdB (leapB y) k + mlB (leapB y) (k + 1) := fun k => rfl
    obtain ⟨L, HL⟩ : ∃ v, Hid (leapB y = v) := ⟨_, rfl⟩
    rw [HL.out] at hrd hms hdn
    have HMS := Lib.hid hms
    have HDN := Lib.hid hdn
    obtain ⟨V, HV2⟩ : ∃ v, Hid (dayN y k d = v) := ⟨_, rfl⟩
    rw [HV2.out]
    clear hdt hk hms hdn HV
    have hyb := yd_in (k := y) y1 (by omega)
    obtain ⟨YD, HYD⟩ : ∃ v, Hid (yday y = v) := ⟨_, rfl⟩
    rw [HYD.out] at hyb
    go_enter Tryd.func11, Tryd.ntmps11
    go_wp2_with (first
      | (go_at_call 41; (with_reducible refine (hid _).mono ?_); rintro e w1 ⟨rfl, g1⟩; obtain ⟨c0, c1, c2⟩ := HBX.out.below g1 (by simp); have G1 := Lib.hid (ccall g1); clear g1)
      | fail)
    go_loop [4, 5] (fun n i => ∃ (j a : Int), 1999 ≤ j ∧ j ≤ y ∧ i = .int .i64 j ∧ n = .int .i64 a ∧ Hid (yday j = a)) (fun _ i => (y - intOf i).toNat)
    case atStart => exact ⟨1999, -365, by omega, by omega, rfl, rfl, yd_first⟩
    case round =>
      obtain ⟨j, a, j1, j2, rfl, rfl, hja⟩ := hrel
      have hab := yd_in (k := j) j1 (by omega)
      rw [hja.out] at hab
      obtain ⟨a1, a2⟩ := hab
      by_cases hlt : j < y
      · have hl := rleap_any j (by omega) (by omega)
        have hsu := yd_succ j
        rw [hja.out] at hsu
        obtain ⟨B, HB2⟩ : ∃ v, Hid (leapB j = v) := ⟨_, rfl⟩
        rw [HB2.out] at hl hsu
        cases B with
        | true =>
          have HN : Hid (yday (j + 1) = a + 365 + 1) := hsu
          clear hsu
          go_wp2_with (first
            | (go_at_call 42; (with_reducible refine (hl _).mono ?_); rintro e w2 ⟨rfl, rfl⟩)
            | fail)
          go_round
          case rel => exact ⟨j + 1, a + 365 + 1, by omega, by omega, rfl, rfl, HN⟩
          case measure => simp [intOf]; omega
        | false =>
          have HN : Hid (yday (j + 1) = a + 365) := by
            unfold Hid; rw [hsu]; show a + 365 + 0 = _; omega
          clear hsu
          go_wp2_with (first
            | (go_at_call 42; (with_reducible refine (hl _).mono ?_); rintro e w2 ⟨rfl, rfl⟩)
            | fail)
          go_round
          case rel => exact ⟨j + 1, a + 365, by omega, by omega, rfl, rfl, HN⟩
          case measure => simp [intOf]; omega
      · obtain rfl : j = y := by omega
        have HYA : Hid (YD = a) := by unfold Hid; rw [← HYD.out, hja.out]
        go_wp2_with fail
        go_loop [4, 6] (fun n i => ∃ (q : Nat) (b : Int), 1 ≤ q ∧ q ≤ k ∧ i = .int .i64 q ∧ n = .int .i64 b ∧ Hid (a + mdB L (q - 1) = b)) (fun _ i => k - (intOf i).toNat)
        case atStart => exact ⟨1, a, by omega, by omega, rfl, rfl, by unfold Hid; show a + 0 = _; omega⟩
        case round =>
          obtain ⟨q, b, q1, q2, rfl, rfl, hqb⟩ := hrel
          have n1 := md_nn L (k := q - 1) (by omega)
          have n2 := md_bd L (k := q - 1) (by omega)
          have hbb : -10000 ≤ b ∧ b ≤ 50000 := by have := hqb.out; omega
          obtain ⟨b1, b2⟩ := hbb
          clear n1 n2
          by_cases hl2 : q < k
          · have hr := hrd q q1 (by omega)
            have hst := HMS.out (q - 1)
            rw [show q - 1 + 1 = q by omega] at hst
            have hpp := ml_pos (b := L) (m := q) q1 (by omega)
            obtain ⟨M, HM⟩ : ∃ v, Hid (mlB L q = v) := ⟨_, rfl⟩
            rw [HM.out] at hr hst hpp
            have HN : Hid (a + mdB L q = b + M) := by unfold Hid; have := hqb.out; rw [hst]; omega
            have i1 : (q : Int) < (k : Int) := by omega
            clear hst
            go_wp2_with (first
              | (go_at_call 18; (with_reducible refine (hr _).mono ?_); rintro e w2 ⟨rfl, rfl⟩)
              | fail)
            go_round
            case rel => exact ⟨q + 1, b + M, by omega, by omega, by go_num, rfl, HN⟩
            case measure => simp [intOf]; omega
          · obtain rfl : q = k := by omega
            have i1 : ¬ (q : Int) < (q : Int) := by omega
            have HF : Hid (b + d - 1 = V) := by
              unfold Hid; rw [← HV2.out, HDN.out, HYD.out, HYA.out]; have := hqb.out; omega
            go_wp2_with fail
            go_ret2
            exact ⟨by rw [HF.out]; rfl, G1.out⟩
def lastDay : Int := 36889
theorem num_last : numV 2100 12 31 = 36889 ∧ numE 2100 12 31 = 0 := ⟨by decide, by decide⟩
theorem md_12' (y : Int) : yday y + mdB (leapB y) 12 = yday (y + 1) := by rw [yd_succ, md_12]; omega
set_option maxHeartbeats 4000000 in
set_option maxRecDepth 100000 in
theorem rdateOf_any (day : Int) (h0 : -9223372036854775808 ≤ day) (h1 : day ≤ 9223372036854775807) (w : World) : Calls Tryd.prog 13 #[.int .i64 day] w (RetDD w day) := by
  have hl := rdayNumber_any 2100 12 31
  rw [num_last.1, num_last.2] at hl
  unfold dateV at hl
  have HBX := Lib.hid (box_new w 0 0 0 23)
  have HBF := Lib.hid (boxF_new w 0 0 0 23)
  go_enter Tryd.func13, Tryd.ntmps13
  go_upto_region 2 with (first
    | (go_at_call 11; (with_reducible refine (hl _).mono ?_); rintro e w1 ⟨rfl, g1⟩; obtain ⟨c0, c1, c2⟩ := HBX.out.below g1 (by simp); obtain ⟨z0, z1, z2⟩ := HBF.out.below g1 (by simp))
    | fail)
  have B1 := Lib.hid (ccall g1)
  clear g1
  by_cases hin : -365 ≤ day ∧ day ≤ 36889
  · obtain ⟨i1, i2⟩ := hin
    have q1 : decide (day < -365) = false := by simp; omega
    have q2 : decide (36889 < day) = false := by simp; omega
    go_wp2_with fail
    go_loop [6, 7] (fun n i => ∃ (j a : Int), 1999 ≤ j ∧ j ≤ 2101 ∧ i = .int .i64 j ∧ n = .int .i64 a ∧ 0 ≤ a ∧ a ≤ 100000 ∧ Hid (yday j + a = day)) (fun _ i => (2101 - intOf i).toNat)
    case atStart => exact ⟨1999, _, by omega, by omega, rfl, rfl, by omega, by omega, by unfold Hid; rw [yd_first]; omega⟩
    case round =>
      obtain ⟨j, a, j1, j2, rfl, rfl, a1, a2, hja⟩ := hrel
      by_cases hlt : j ≤ 2100
      · have hrd := fun (m : Nat) (m1 : 1 ≤ m) (m2 : m ≤ 12) => rdim_in j m j1 hlt m1 m2
        have hms : ∀ k, mdB (leapB j) (k + 1) = mdB (leapB j) k + mlB (leapB j) (k + 1) := fun k => rfl
        have h12 := md_12' j
        have hdn : ∀ (m : Nat) (d : Int), dayN j m d = yday j + mdB (leapB j) (m - 1) + d - 1 := fun _ _ => rfl
        have hisd : ∀ (m : Nat) (d : Int), 1 ≤ m → m ≤ 12 → 1 ≤ d → d ≤ mlB (leapB j) m → IsD j m d := fun m d a b c d => ⟨a, b, c, d⟩
        obtain ⟨L, HL⟩ : ∃ v, Hid (leapB j = v) := ⟨_, rfl⟩
        rw [HL.out] at hrd hms h12 hdn hisd
        have HMS := Lib.hid hms
        have HDN := Lib.hid hdn
        have HIS := Lib.hid hisd
        have H12 := Lib.hid h12
        clear hms hdn hisd h12
        go_wp2_with fail
        go_loop [6, 8] (fun n i => ∃ (m : Nat) (b : Int), 1 ≤ m ∧ m ≤ 13 ∧ i = .int .i64 m ∧ n = .int .i64 b ∧ 0 ≤ b ∧ b ≤ 100000 ∧ Hid (mdB L (m - 1) + b = a)) (fun _ i => 13 - (intOf i).toNat)
        case atStart => exact ⟨1, a, by omega, by omega, rfl, rfl, by omega, by omega, by unfold Hid; show 0 + a = _; omega⟩
        case round =>
          obtain ⟨m, b, m1, m2, rfl, rfl, b1, b2, hmb⟩ := hrel
          by_cases hm : m ≤ 12
          · have hr := hrd m m1 hm
            have hst := HMS.out (m - 1)
            rw [show m - 1 + 1 = m by omega] at hst
            have hpp := ml_pos (b := L) (m := m) m1 hm
            have hdj := HDN.out m (b + 1)
            have hij := HIS.out m (b + 1) m1 hm (by omega)
            obtain ⟨M, HM⟩ : ∃ v, Hid (mlB L m = v) := ⟨_, rfl⟩
            rw [HM.out] at hr hst hpp hij
            have i3 : (m : Int) ≤ 12 := by omega
            by_cases hlt2 : b < M
            · have HI := Lib.hid (hij (by omega))
              have HD : Hid (dayN j m (b + 1) = day) := by unfold Hid; rw [hdj]; have := hmb.out; have := hja.out; omega
              clear hst hdj hij
              go_wp2_with (first
                | (go_at_call 18; (with_reducible refine (hr _).mono ?_); rintro e w2 ⟨rfl, rfl⟩)
                | fail)
              obtain ⟨p0, p1, p2⟩ := BoxD.store ⟨c0, c1, c2⟩ j m (b + 1)
              refine bodyPost_ret (v := .tuple #[dateV j m (b + 1), .int .i64 0]) (by simp [results, Tryd.results13, go_sem, dateV, p0, p1, p2]) rfl (.inl ⟨j, b + 1, m, rfl, HI.out, j1, hlt, HD.out, ?_⟩)
              exact stores3 B1.out _ _ _ _ (Nat.le_refl _)
            · have hl3 : decide (b < M) = false := by simpa using hlt2
              have HN : Hid (mdB L m + (b - M) = a) := by unfold Hid; have := hmb.out; rw [hst]; omega
              clear hst hdj hij
              go_wp2_with (first
                | (go_at_call 18; (with_reducible refine (hr _).mono ?_); rintro e w2 ⟨rfl, rfl⟩)
                | fail)
              go_round
              case rel => exact ⟨m + 1, b - M, by omega, by omega, by go_num, rfl, by omega, by omega, HN⟩
              case measure => simp [intOf]; omega
          · obtain rfl : m = 13 := by omega
            have HN : Hid (yday (j + 1) + b = day) := by
              unfold Hid; have := hmb.out; have := hja.out; have := H12.out; simp only [Nat.reduceSub] at *; omega
            go_wp2_with fail
            go_round
            case rel => exact ⟨j + 1, b, by omega, by omega, rfl, rfl, by omega, by omega, HN⟩
            case measure => simp [intOf]; omega
      · exfalso
        obtain rfl : j = 2101 := by omega
        have := hja.out
        have e2 : yday 2101 = 36890 := by decide
        omega
  · have HN := Lib.hid hin
    by_cases hlo : day < -365
    · clear hin
      go_wp2_with fail
      obtain ⟨p0, p1, p2⟩ := BoxD.store ⟨c0, c1, c2⟩ 0 0 0
      refine bodyPost_ret (v := .tuple #[dateV 0 0 0, .int .i64 5]) (by simp [results, Tryd.results13, go_sem, dateV, p0, p1, p2]) rfl (.inr ⟨HN.out, rfl, ?_⟩)
      exact stores3 B1.out _ _ _ _ (Nat.le_refl _)
    · have q1 : decide (day < -365) = false := by simpa using hlo
      have q2 : 36889 < day := by omega
      clear hin
      go_wp2_with fail
      obtain ⟨p0, p1, p2⟩ := BoxD.store ⟨c0, c1, c2⟩ 0 0 0
      refine bodyPost_ret (v := .tuple #[dateV 0 0 0, .int .i64 5]) (by simp [results, Tryd.results13, go_sem, dateV, p0, p1, p2]) rfl (.inr ⟨HN.out, rfl, ?_⟩)
      exact stores3 B1.out _ _ _ _ (Nat.le_refl _)
end Go.Proofs.YtpcagheghmbjfaaDoor

