/-
  Calendar: a date some months later, on both sides; the law on months.
-/
import Derived.Test.YtpcagheghmbjfaaDoorCaK
import Derived.Deep.RegionHeld3
set_option linter.unusedVariables false
set_option linter.unusedSimpArgs false
namespace Go.Proofs.YtpcagheghmbjfaaDoor
open Go.RowKit

set_option maxHeartbeats 4000000 in
set_option maxRecDepth 100000 in
theorem pdim_out (y m : Int) (h : ¬ ((1999 ≤ y ∧ y ≤ 2100) ∧ 1 ≤ m ∧ m ≤ 12)) (w : World) : Calls Tryd.prog 17 #[.int .i64 y, .int .i64 m] w (RetDE w 0 5) := by
  have hy := isYear_any y
  have hm := isMonth_any m
  by_cases h1 : 1999 ≤ y ∧ y ≤ 2100
  · have h2 : ¬ (1 ≤ m ∧ m ≤ 12) := fun h3 => h ⟨h1, h3⟩
    rw [decide_eq_true h1] at hy
    rw [decide_eq_false h2] at hm
    clear h h1 h2
    go_enter Tryd.func17, Tryd.ntmps17
    go_wp2_with (first
      | (go_at_call 44; (with_reducible refine (hy _).mono ?_); rintro e w1 ⟨rfl, rfl⟩)
      | (go_at_call 46; (with_reducible refine (hm _).mono ?_); rintro e w1 ⟨rfl, rfl⟩)
      | fail)
    go_ret2
    exact ⟨rfl, rfl⟩
  · rw [decide_eq_false h1] at hy
    clear h h1
    go_enter Tryd.func17, Tryd.ntmps17
    go_wp2_with (first
      | (go_at_call 44; (with_reducible refine (hy _).mono ?_); rintro e w1 ⟨rfl, rfl⟩)
      | fail)
    go_ret2
    exact ⟨rfl, rfl⟩
theorem cell3_other {w : World} {b c o : Nat} {v x y z : Value} (h : w.cell? ⟨b, o, none⟩ = some v) (hne : b ≠ c) : (((w.setCell ⟨c, 0, none⟩ x).setCell ⟨c, 1, none⟩ y).setCell ⟨c, 2, none⟩ z).cell? ⟨b, o, none⟩ = some v := by
  rw [World.cell?_setCell_other _ _ _ _ (by intro h; simp only [Addr.mk.injEq] at h; omega), World.cell?_setCell_other _ _ _ _ (by intro h; simp only [Addr.mk.injEq] at h; omega), World.cell?_setCell_other _ _ _ _ (by intro h; simp only [Addr.mk.injEq] at h; omega), h]
def dimV (y m : Int) : Int := if (1999 ≤ y ∧ y ≤ 2100) ∧ 1 ≤ m ∧ m ≤ 12 then mlB (leapB y) m.toNat else 0
def dimE (y m : Int) : Int := if (1999 ≤ y ∧ y ≤ 2100) ∧ 1 ≤ m ∧ m ≤ 12 then 0 else 5
theorem pdim_any (y m : Int) (w : World) (hT : MonT w) : Calls Tryd.prog 17 #[.int .i64 y, .int .i64 m] w (RetDE w (dimV y m) (dimE y m)) := by
  unfold dimV dimE
  by_cases h : (1999 ≤ y ∧ y ≤ 2100) ∧ 1 ≤ m ∧ m ≤ 12
  · rw [if_pos h, if_pos h]
    obtain ⟨k, rfl⟩ : ∃ k : Nat, m = (k : Int) := ⟨m.toNat, by omega⟩
    exact pdim_in y k h.1.1 h.1.2 (by omega) (by omega) w hT
  · rw [if_neg h, if_neg h]
    exact pdim_out y m h w
theorem rdim_any (y m : Int) (w : World) : Calls Tryd.prog 18 #[.int .i64 y, .int .i64 m] w (RetDE w (dimV y m) (dimE y m)) := by
  unfold dimV dimE
  by_cases h : (1999 ≤ y ∧ y ≤ 2100) ∧ 1 ≤ m ∧ m ≤ 12
  · rw [if_pos h, if_pos h]
    obtain ⟨k, rfl⟩ : ∃ k : Nat, m = (k : Int) := ⟨m.toNat, by omega⟩
    exact rdim_in y k h.1.1 h.1.2 (by omega) (by omega) w
  · rw [if_neg h, if_neg h]
    exact rdim_out y m h w

def amOk (y m d n : Int) : Bool := dateB y m d && (decide (-1300 ≤ n ∧ n ≤ 1300) && decide (1999 ≤ (y * 12 + m - 1 + n) / 12 ∧ (y * 12 + m - 1 + n) / 12 ≤ 2100))
def amY (y m d n : Int) : Int := if amOk y m d n = true then (y * 12 + m - 1 + n) / 12 else 0
def amM (y m d n : Int) : Int := if amOk y m d n = true then (y * 12 + m - 1 + n) % 12 + 1 else 0
def amD (y m d n : Int) : Int := if amOk y m d n = true then min d (mlB (leapB ((y * 12 + m - 1 + n) / 12)) ((y * 12 + m - 1 + n) % 12 + 1).toNat) else 0
def amE (y m d n : Int) : Int := if amOk y m d n = true then 0 else 5
def RetAM (w : World) (y m d n : Int) (en : Ending) (w' : World) : Prop := en = .returned (.tuple #[.agg #[.int .i64 (amY y m d n), .int .i64 (amM y m d n), .int .i64 (amD y m d n)], .int .i64 (amE y m d n)]) ∧ Below w.heap.size w w'
theorem RetAM.no {w w' : World} {y m d n : Int} {en : Ending} (h : amOk y m d n = false) (g : RetD0 w en w') : RetAM w y m d n en w' := by
  unfold RetAM amY amM amD amE
  rw [h]; exact g
set_option maxHeartbeats 4000000 in
set_option maxRecDepth 100000 in
theorem addMonths_any (y m d n : Int) (h0 : -9223372036854775808 ≤ y) (h1 : y ≤ 9223372036854775807) (hn : -9223372036854775808 ≤ n ∧ n ≤ 9223372036854775807) (w : World) (hT : MonT w) : Calls Tryd.prog 19 #[.agg #[.int .i64 y, .int .i64 m, .int .i64 d], .int .i64 n] w (RetAM w y m d n) := by
  have hid := fun w hT => isDate_any y m d h0 h1 w hT
  unfold dateV at hid
  have hdt := @date_true y m d
  have hok : amOk y m d n = (dateB y m d && (decide (-1300 ≤ n ∧ n ≤ 1300) && decide (1999 ≤ (y * 12 + m - 1 + n) / 12 ∧ (y * 12 + m - 1 + n) / 12 ≤ 2100))) := rfl
  obtain ⟨B, HB⟩ : ∃ v, Hid (dateB y m d = v) := ⟨_, rfl⟩
  rw [HB.out] at hid hok hdt
  have HBX := Lib.hid ((box_new w y m d 23).alloc (by simp) (.cells #[Value.int IntKind.i64 0, Value.int IntKind.i64 0, Value.int IntKind.i64 0] 23))
  have HRX : Hid (BoxD ((w.alloc (.cells #[Value.int IntKind.i64 y, Value.int IntKind.i64 m, Value.int IntKind.i64 d] 23)).alloc (.cells #[Value.int IntKind.i64 0, Value.int IntKind.i64 0, Value.int IntKind.i64 0] 23)) (w.heap.size + 1) 0 0 0) := by
    have h := box_new (w.alloc (.cells #[Value.int IntKind.i64 y, Value.int IntKind.i64 m, Value.int IntKind.i64 d] 23)) 0 0 0 23
    rw [World.size_alloc] at h
    exact h
  have HRF : Hid (BoxF ((w.alloc (.cells #[Value.int IntKind.i64 y, Value.int IntKind.i64 m, Value.int IntKind.i64 d] 23)).alloc (.cells #[Value.int IntKind.i64 0, Value.int IntKind.i64 0, Value.int IntKind.i64 0] 23)) (w.heap.size + 1)) := by
    have h := boxF_new (w.alloc (.cells #[Value.int IntKind.i64 y, Value.int IntKind.i64 m, Value.int IntKind.i64 d] 23)) 0 0 0 23
    rw [World.size_alloc] at h
    exact h
  have HT0 := Lib.hid ((hT.box (.cells #[Value.int IntKind.i64 y, Value.int IntKind.i64 m, Value.int IntKind.i64 d] 23)).box (.cells #[Value.int IntKind.i64 0, Value.int IntKind.i64 0, Value.int IntKind.i64 0] 23))
  have HB0 := Lib.hid ((cnew w (.cells #[Value.int IntKind.i64 y, Value.int IntKind.i64 m, Value.int IntKind.i64 d] 23)).alloc (by simp) (.cells #[Value.int IntKind.i64 0, Value.int IntKind.i64 0, Value.int IntKind.i64 0] 23))
  clear hT
  cases B with
  | false =>
    have HN := Lib.hid (hok.trans (Bool.false_and _))
    clear hok hdt
    go_enter Tryd.func19, Tryd.ntmps19
    go_wp2_with (first
      | (go_at_call 39; (with_reducible refine (hid _ HT0.out).mono ?_); rintro e w1 ⟨rfl, g1⟩; obtain ⟨b0, b1, b2⟩ := HBX.out.below g1 (by simp; omega); obtain ⟨c0, c1, c2⟩ := HRX.out.below g1 (by simp); obtain ⟨z0, z1, z2⟩ := HRF.out.below g1 (by simp); have HT1 := Lib.hid (HT0.out.below g1 (Nat.le_refl _)); have B1 := Lib.hid (ccall2 HB0.out g1 HB0.out.size); have L1 := Lib.hid g1.size; clear g1)
      | fail)
    obtain ⟨p0, p1, p2⟩ := BoxD.store ⟨c0, c1, c2⟩ 0 0 0
    refine bodyPost_ret (v := .tuple #[.agg #[.int .i64 0, .int .i64 0, .int .i64 0], .int .i64 5]) (by simp [results, Tryd.results19, go_sem, p0, p1, p2]) rfl (RetAM.no HN.out ⟨rfl, ?_⟩)
    exact stores3 B1.out _ _ _ _ (Nat.le_succ _)
  | true =>
    rw [Bool.true_and] at hok
    by_cases hn1 : -1300 ≤ n ∧ n ≤ 1300
    · obtain ⟨y1, y2, k, rfl, hk⟩ := hdt rfl
      clear hdt
      have m1 := hk.m1
      have m2 := hk.m2
      have d1 := hk.d1
      have d2 : d ≤ 31 := by have := hk.d2; have := ml_pos (b := leapB y) m1 m2; omega
      clear hk
      rw [decide_eq_true hn1, Bool.true_and] at hok
      obtain ⟨n1, n2⟩ := hn1
      have q1 : decide (n < -1300) = false := by simp; omega
      have q2 : decide (1300 < n) = false := by simp; omega
      have hdv := divide_any (y * 12 + (k : Int) - 1 + n) 12 (by omega) (by omega) (by omega) (by omega)
      have r0 : 0 ≤ (y * 12 + (k : Int) - 1 + n) % 12 := Int.emod_nonneg _ (by omega)
      have r1 : (y * 12 + (k : Int) - 1 + n) % 12 < 12 := Int.emod_lt_of_pos _ (by omega)
      have qb : 1000 ≤ (y * 12 + (k : Int) - 1 + n) / 12 ∧ (y * 12 + (k : Int) - 1 + n) / 12 ≤ 3000 := by omega
      have hyr := isYear_any ((y * 12 + (k : Int) - 1 + n) / 12)
      have hres : amOk y k d n = true → RetAM w y k d n = fun en w' => en = .returned (.tuple #[.agg #[.int .i64 ((y * 12 + (k : Int) - 1 + n) / 12), .int .i64 ((y * 12 + (k : Int) - 1 + n) % 12 + 1), .int .i64 (min d (mlB (leapB ((y * 12 + (k : Int) - 1 + n) / 12)) ((y * 12 + (k : Int) - 1 + n) % 12 + 1).toNat))], .int .i64 0]) ∧ Below w.heap.size w w' := by
        intro h
        unfold RetAM amY amM amD amE
        rw [h]; rfl
      obtain ⟨Q, HQ⟩ : ∃ v, Hid ((y * 12 + (k : Int) - 1 + n) / 12 = v) := ⟨_, rfl⟩
      obtain ⟨R, HR⟩ : ∃ v : Nat, Hid ((y * 12 + (k : Int) - 1 + n) % 12 = (v : Int)) := ⟨((y * 12 + (k : Int) - 1 + n) % 12).toNat, by unfold Hid; omega⟩
      rw [HQ.out] at hdv qb hyr hok hres
      rw [HR.out] at hdv r0 r1 hres
      obtain ⟨qb1, qb2⟩ := qb
      by_cases hq : 1999 ≤ Q ∧ Q ≤ 2100
      · rw [decide_eq_true hq] at hok hyr
        rw [hres hok]
        have hml := fun w hT => monthLength_any Q (R + 1) (by omega) (by omega) (by omega) (by omega) w hT
        rw [show ((R : Int) + 1).toNat = R + 1 by omega]
        rw [show ((R + 1 : Nat) : Int) = (R : Int) + 1 by omega] at hml
        obtain ⟨M, HM⟩ : ∃ v, Hid (mlB (leapB Q) (R + 1) = v) := ⟨_, rfl⟩
        rw [HM.out] at hml ⊢
        clear hq hok hres
        have hmin : min d M = if d ≤ M then d else M := by rw [Int.min_def]
        obtain ⟨X, HX⟩ : ∃ v, Hid (min d M = v) := ⟨_, rfl⟩
        rw [HX.out] at hmin ⊢
        have HMIN := Lib.hid hmin
        clear hmin
        go_enter Tryd.func19, Tryd.ntmps19
        go_upto_region 7 with (first
          | (go_at_call 39; (with_reducible refine (hid _ HT0.out).mono ?_); rintro e w1 ⟨rfl, g1⟩; obtain ⟨b0, b1, b2⟩ := HBX.out.below g1 (by simp; omega); obtain ⟨c0, c1, c2⟩ := HRX.out.below g1 (by simp); obtain ⟨z0, z1, z2⟩ := HRF.out.below g1 (by simp); have HT1 := Lib.hid (HT0.out.below g1 (Nat.le_refl _)); have B1 := Lib.hid (ccall2 HB0.out g1 HB0.out.size); have L1 := Lib.hid g1.size; clear g1)
          | (go_at_call 45; (with_reducible refine (hdv _).mono ?_); rintro e w2 ⟨rfl, k2, rfl⟩)
          | (go_at_call 44; (with_reducible refine (hyr _).mono ?_); rintro e w3 ⟨rfl, rfl⟩)
          | fail)
        go_region_held3 (fun w' => w'.cell? ⟨w.heap.size, 2, none⟩ = some (.int .i64 d))
          (first | (show _ = _; simpa using b2) | exact cell3_other (by simpa using b2) (by omega))
          (first
          | (go_at_call 47; (with_reducible refine (hml _ (by repeat (first | exact HT1.out | apply MonT.drewN | apply MonT.drew))).mono ?_); rintro e w4 ⟨rfl, rfl⟩)
          | fail)
        go_wp2_with fail
        obtain ⟨p0, p1, p2⟩ := BoxD.store (w := w1.drewN (k2 + 1)) ⟨by simpa using c0, by simpa using c1, by simpa using c2⟩ Q ((R : Int) + 1) (min d M)
        refine bodyPost_ret (v := .tuple #[.agg #[.int .i64 Q, .int .i64 ((R : Int) + 1), .int .i64 (min d M)], .int .i64 0]) (by simp [results, Tryd.results19, go_sem, p0, p1, p2]) rfl ⟨by rw [HX.out], ?_⟩
        exact stores3 (below_drewN B1.out _) _ _ _ _ (Nat.le_succ _)
      · rw [decide_eq_false hq] at hok hyr
        have HN := Lib.hid hok
        clear hok hq hres
        go_enter Tryd.func19, Tryd.ntmps19
        go_wp2_with (first
          | (go_at_call 39; (with_reducible refine (hid _ HT0.out).mono ?_); rintro e w1 ⟨rfl, g1⟩; obtain ⟨b0, b1, b2⟩ := HBX.out.below g1 (by simp; omega); obtain ⟨c0, c1, c2⟩ := HRX.out.below g1 (by simp); obtain ⟨z0, z1, z2⟩ := HRF.out.below g1 (by simp); have HT1 := Lib.hid (HT0.out.below g1 (Nat.le_refl _)); have B1 := Lib.hid (ccall2 HB0.out g1 HB0.out.size); have L1 := Lib.hid g1.size; clear g1)
          | (go_at_call 45; (with_reducible refine (hdv _).mono ?_); rintro e w2 ⟨rfl, k2, rfl⟩)
          | (go_at_call 44; (with_reducible refine (hyr _).mono ?_); rintro e w3 ⟨rfl, rfl⟩)
          | fail)
        obtain ⟨p0, p1, p2⟩ := BoxD.store (w := w1.drewN k2) ⟨by simpa using c0, by simpa using c1, by simpa using c2⟩ 0 0 0
        refine bodyPost_ret (v := .tuple #[.agg #[.int .i64 0, .int .i64 0, .int .i64 0], .int .i64 5]) (by simp [results, Tryd.results19, go_sem, p0, p1, p2]) rfl (RetAM.no HN.out ⟨rfl, ?_⟩)
        exact stores3 (below_drewN B1.out _) _ _ _ _ (Nat.le_succ _)
    · rw [decide_eq_false hn1, Bool.false_and] at hok
      have HN := Lib.hid hok
      clear hok hdt
      by_cases hlo : n < -1300
      · clear hn1
        go_enter Tryd.func19, Tryd.ntmps19
        go_wp2_with (first
          | (go_at_call 39; (with_reducible refine (hid _ HT0.out).mono ?_); rintro e w1 ⟨rfl, g1⟩; obtain ⟨b0, b1, b2⟩ := HBX.out.below g1 (by simp; omega); obtain ⟨c0, c1, c2⟩ := HRX.out.below g1 (by simp); obtain ⟨z0, z1, z2⟩ := HRF.out.below g1 (by simp); have HT1 := Lib.hid (HT0.out.below g1 (Nat.le_refl _)); have B1 := Lib.hid (ccall2 HB0.out g1 HB0.out.size); have L1 := Lib.hid g1.size; clear g1)
          | fail)
        obtain ⟨p0, p1, p2⟩ := BoxD.store ⟨c0, c1, c2⟩ 0 0 0
        refine bodyPost_ret (v := .tuple #[.agg #[.int .i64 0, .int .i64 0, .int .i64 0], .int .i64 5]) (by simp [results, Tryd.results19, go_sem, p0, p1, p2]) rfl (RetAM.no HN.out ⟨rfl, ?_⟩)
        exact stores3 B1.out _ _ _ _ (Nat.le_succ _)
      · have q1 : decide (n < -1300) = false := by simpa using hlo
        have q2 : 1300 < n := by omega
        clear hn1
        go_enter Tryd.func19, Tryd.ntmps19
        go_wp2_with (first
          | (go_at_call 39; (with_reducible refine (hid _ HT0.out).mono ?_); rintro e w1 ⟨rfl, g1⟩; obtain ⟨b0, b1, b2⟩ := HBX.out.below g1 (by simp; omega); obtain ⟨c0, c1, c2⟩ := HRX.out.below g1 (by simp); obtain ⟨z0, z1, z2⟩ := HRF.out.below g1 (by simp); have HT1 := Lib.hid (HT0.out.below g1 (Nat.le_refl _)); have B1 := Lib.hid (ccall2 HB0.out g1 HB0.out.size); have L1 := Lib.hid g1.size; clear g1)
          | fail)
        obtain ⟨p0, p1, p2⟩ := BoxD.store ⟨c0, c1, c2⟩ 0 0 0
        refine bodyPost_ret (v := .tuple #[.agg #[.int .i64 0, .int .i64 0, .int .i64 0], .int .i64 5]) (by simp [results, Tryd.results19, go_sem, p0, p1, p2]) rfl (RetAM.no HN.out ⟨rfl, ?_⟩)
        exact stores3 B1.out _ _ _ _ (Nat.le_succ _)
end Go.Proofs.YtpcagheghmbjfaaDoor

