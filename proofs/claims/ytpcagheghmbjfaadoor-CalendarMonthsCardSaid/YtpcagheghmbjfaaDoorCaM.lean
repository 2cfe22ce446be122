/-
  Calendar: the reference's date some months later; the law on months.
-/
import Derived.Test.YtpcagheghmbjfaaDoorCaL
set_option linter.unusedVariables false
set_option linter.unusedSimpArgs false
namespace Go.Proofs.YtpcagheghmbjfaaDoor
open Go.RowKit

theorem cell_alloc {w : World} {p : Addr} {v : Value} (h : w.cell? p = some v) (o : Obj) : (w.alloc o).cell? p = some v :=
  ((cnew w o).cell (p := p) (World.block_lt_of_cell? _ _ h)).trans h
set_option maxHeartbeats 4000000 in
set_option maxRecDepth 100000 in
theorem raddMonths_any (y m d n : Int) (h0 : -9223372036854775808 ≤ y) (h1 : y ≤ 9223372036854775807) (hn : -9223372036854775808 ≤ n ∧ n ≤ 9223372036854775807) (w : World) : Calls Tryd.prog 20 #[.agg #[.int .i64 y, .int .i64 m, .int .i64 d], .int .i64 n] w (RetAM w y m d n) := by
  have hid := risDate_any y m d
  unfold dateV at hid
  have hdt := @date_true y m d
  have hok : amOk y m d n = (dateB y m d && (decide (-1300 ≤ n ∧ n ≤ 1300) && decide (1999 ≤ (y * 12 + m - 1 + n) / 12 ∧ (y * 12 + m - 1 + n) / 12 ≤ 2100))) := rfl
  obtain ⟨B, HB⟩ : ∃ v, Hid (dateB y m d = v) := ⟨_, rfl⟩
  rw [HB.out] at hid hok hdt
  have HBX := Lib.hid ((box_new w y m d 23).alloc (by simp) (.cells #[Value.int IntKind.i64 0, Value.int IntKind.i64 0, Value.int IntKind.i64 0] 23))
  have HRX : Hid (BoxD ((w.alloc (.cells #[Value.int IntKind.i64 y, Value.int IntKind.i64 m, Value.int IntKind.i64 d] 23)).alloc (.cells #[Value.int IntKind.i64 0, Value.int IntKind.i64 0, Value.int IntKind.i64 0] 23)) (w.heap.size + 1) 0 0 0) := by
    have h := box_new (w.alloc (.cells #[Value.int IntKind.i64 y, Value.int IntKind.i64 m, Value.int IntKind.i64 d] 23)) 0 0 0 23
    rw [World.size_alloc] at h
    exact h
  have HRF : Hid (BoxF ((w.alloc (.cells #[Value.int IntKind.i64 y, Value.int IntKind.i64 m, Value.int IntKind.i64 d] 23)).alloc (.cells #[Value.int IntKind.i64 0, Value.int IntKind.i64 0, Value.int IntKind.i64 0] 23)) (w.heap.size + 1)) := by
    have h := boxF_new (w.alloc (.cells #[Value.int IntKind.i64 y, Value.int IntKind.i64 m, Value.int IntKind.i64 d] 23)) 0 0 0 23
    rw [World.size_alloc] at h
    exact h
  have HB0 := Lib.hid ((cnew w (.cells #[Value.int IntKind.i64 y, Value.int IntKind.i64 m, Value.int IntKind.i64 d] 23)).alloc (by simp) (.cells #[Value.int IntKind.i64 0, Value.int IntKind.i64 0, Value.int IntKind.i64 0] 23))
  cases B with
  | false =>
    have HN := Lib.hid (hok.trans (Bool.false_and _))
    clear hok hdt
    go_enter Tryd.func20, Tryd.ntmps20
    go_wp2_with (first
      | (go_at_call 41; (with_reducible refine (hid _).mono ?_); rintro e w1 ⟨rfl, g1⟩; obtain ⟨b0, b1, b2⟩ := HBX.out.below g1 (by simp; omega); obtain ⟨c0, c1, c2⟩ := HRX.out.below g1 (by simp); obtain ⟨z0, z1, z2⟩ := HRF.out.below g1 (by simp); have B1 := Lib.hid (ccall2 HB0.out g1 HB0.out.size); have L1 := Lib.hid g1.size; clear g1)
      | fail)
    obtain ⟨p0, p1, p2⟩ := BoxD.store ⟨c0, c1, c2⟩ 0 0 0
    refine bodyPost_ret (v := .tuple #[.agg #[.int .i64 0, .int .i64 0, .int .i64 0], .int .i64 5]) (by simp [results, Tryd.results20, go_sem, p0, p1, p2]) rfl (RetAM.no HN.out ⟨rfl, ?_⟩)
    exact stores3 B1.out _ _ _ _ (Nat.le_succ _)
  | true =>
    rw [Bool.true_and] at hok
    by_cases hn1 : -1300 ≤ n ∧ n ≤ 1300
    · obtain ⟨y1, y2, k, rfl, hk⟩ := hdt rfl
      clear hdt
      have m1 := hk.m1
      have m2 := hk.m2
      have d1 := hk.d1
      have d2 : d ≤ 31 := by have := hk.d2; have := ml_pos (b := leapB y) m1 m2; omega
      clear hk
      rw [decide_eq_true hn1, Bool.true_and] at hok
      obtain ⟨n1, n2⟩ := hn1
      have q1 : decide (n < -1300) = false := by simp; omega
      have q2 : decide (1300 < n) = false := by simp; omega
      have hdv := rfloor_any (12 * y + (k : Int) - 1 + n) 12 (by omega) (by omega) (by omega) (by omega)
      rw [show (12 * y + (k : Int) - 1 + n) / 12 = (y * 12 + (k : Int) - 1 + n) / 12 by rw [Int.mul_comm]] at hdv
      have r0 : 0 ≤ (y * 12 + (k : Int) - 1 + n) % 12 := Int.emod_nonneg _ (by omega)
      have r1 : (y * 12 + (k : Int) - 1 + n) % 12 < 12 := Int.emod_lt_of_pos _ (by omega)
      have qb : 1000 ≤ (y * 12 + (k : Int) - 1 + n) / 12 ∧ (y * 12 + (k : Int) - 1 + n) / 12 ≤ 3000 := by omega
      have hyr := rdim_any ((y * 12 + (k : Int) - 1 + n) / 12) ((y * 12 + (k : Int) - 1 + n) % 12 + 1)
      have hres : amOk y k d n = true → RetAM w y k d n = fun en w' => en = .returned (.tuple #[.agg #[.int .i64 ((y * 12 + (k : Int) - 1 + n) / 12), .int .i64 ((y * 12 + (k : Int) - 1 + n) % 12 + 1), .int .i64 (min d (mlB (leapB ((y * 12 + (k : Int) - 1 + n) / 12)) ((y * 12 + (k : Int) - 1 + n) % 12 + 1).toNat))], .int .i64 0]) ∧ Below w.heap.size w w' := by
        intro h
        unfold RetAM amY amM amD amE
        rw [h]; rfl
      obtain ⟨Q, HQ⟩ : ∃ v, Hid ((y * 12 + (k : Int) - 1 + n) / 12 = v) := ⟨_, rfl⟩
      obtain ⟨R, HR⟩ : ∃ v : Nat, Hid ((y * 12 + (k : Int) - 1 + n) % 12 = (v : Int)) := ⟨((y * 12 + (k : Int) - 1 + n) % 12).toNat, by unfold Hid; omega⟩
      rw [HQ.out, HR.out] at hyr
      rw [HQ.out] at hdv qb hok hres
      rw [HR.out] at r0 r1 hres
      have hZ : 12 * y + (k : Int) - 1 + n - 12 * Q = (R : Int) := by have := HQ.out; have := HR.out; omega
      obtain ⟨qb1, qb2⟩ := qb
      have s1 : IntKind.i64.wrap (12 * Q) = 12 * Q := IntWalk.i64_in _ (by omega)
      have s2 : IntKind.i64.wrap (12 * y + (k : Int) - 1 + n - 12 * Q) = (R : Int) := by rw [hZ]; exact IntWalk.i64_in _ (by omega)
      have s3 : IntKind.i64.wrap ((R : Int) + 1) = (R : Int) + 1 := IntWalk.i64_in _ (by omega)
      clear hZ
      by_cases hq : 1999 ≤ Q ∧ Q ≤ 2100
      · rw [decide_eq_true hq] at hok
        rw [hres hok]
        have hd1 : dimV Q ((R : Int) + 1) = mlB (leapB Q) (R + 1) := by
          unfold dimV; rw [if_pos ⟨hq, by omega, by omega⟩, show ((R : Int) + 1).toNat = R + 1 by omega]
        have hd2 : dimE Q ((R : Int) + 1) = 0 := by
          unfold dimE; rw [if_pos ⟨hq, by omega, by omega⟩]
        rw [hd1, hd2] at hyr
        rw [show ((R : Int) + 1).toNat = R + 1 by omega]
        obtain ⟨M, HM⟩ : ∃ v, Hid (mlB (leapB Q) (R + 1) = v) := ⟨_, rfl⟩
        rw [HM.out] at hyr ⊢
        clear hq hok hres hd1 hd2
        go_enter Tryd.func20, Tryd.ntmps20
        go_upto_region 4 with (first
          | (go_at_call 41; (with_reducible refine (hid _).mono ?_); rintro e w1 ⟨rfl, g1⟩; obtain ⟨b0, b1, b2⟩ := HBX.out.below g1 (by simp; omega); obtain ⟨c0, c1, c2⟩ := HRX.out.below g1 (by simp); obtain ⟨z0, z1, z2⟩ := HRF.out.below g1 (by simp); have B1 := Lib.hid (ccall2 HB0.out g1 HB0.out.size); have L1 := Lib.hid g1.size; clear g1)
          | fail)
        go_region_held3 (fun w' => w'.cell? ⟨w.heap.size, 2, none⟩ = some (.int .i64 d))
          (first | (show _ = _; simpa using b2) | (show _ = _; exact cell_alloc (by first | exact b2 | simpa using b2) _))
          (first
          | (go_at_call 48; (with_reducible refine (hdv _).mono ?_); rintro e w2 ⟨rfl, rfl⟩)
          | fail)
        all_goals
          have lt1 : w.heap.size + 1 < w1.heap.size := by have := L1.out; simp at this; omega
          have ne1 : ¬ w1.heap.size = w.heap.size + 1 := by omega
          have ne2 : ¬ w.heap.size + 1 = w1.heap.size := by omega
          have B2 := Lib.hid (B1.out.alloc B1.out.size (.cells #[Value.int IntKind.i64 Q, Value.int IntKind.i64 (↑R + 1), Value.int IntKind.i64 d] 23))
          go_wp2_with (first
            | (go_at_call 18; (with_reducible refine (hyr _).mono ?_); rintro e w5 ⟨rfl, rfl⟩)
            | fail)
          obtain ⟨p0, p1, p2⟩ := ((BoxD.store ⟨c0, c1, c2⟩ Q ((R : Int) + 1) (min d M)).alloc (by simpa using lt1) (.cells #[Value.int IntKind.i64 Q, Value.int IntKind.i64 (↑R + 1), Value.int IntKind.i64 (min d M)] 23))
          refine bodyPost_ret (v := .tuple #[.agg #[.int .i64 Q, .int .i64 ((R : Int) + 1), .int .i64 (min d M)], .int .i64 0]) (by simp [results, Tryd.results20, go_sem, p0, p1, p2]) rfl ⟨rfl, ?_⟩
          exact ((stores3 B1.out _ _ _ _ (Nat.le_succ _)).alloc (by simp; have := B1.out.size; omega) _).drew
      · rw [decide_eq_false hq] at hok
        have HN := Lib.hid hok
        have hd1 : dimV Q ((R : Int) + 1) = 0 := by
          unfold dimV; rw [if_neg (fun h => hq h.1)]
        have hd2 : dimE Q ((R : Int) + 1) = 5 := by
          unfold dimE; rw [if_neg (fun h => hq h.1)]
        rw [hd1, hd2] at hyr
        clear hok hq hres hd1 hd2
        go_enter Tryd.func20, Tryd.ntmps20
        go_upto_region 4 with (first
          | (go_at_call 41; (with_reducible refine (hid _).mono ?_); rintro e w1 ⟨rfl, g1⟩; obtain ⟨b0, b1, b2⟩ := HBX.out.below g1 (by simp; omega); obtain ⟨c0, c1, c2⟩ := HRX.out.below g1 (by simp); obtain ⟨z0, z1, z2⟩ := HRF.out.below g1 (by simp); have B1 := Lib.hid (ccall2 HB0.out g1 HB0.out.size); have L1 := Lib.hid g1.size; clear g1)
          | fail)
        go_region_held3 (fun w' => w'.cell? ⟨w.heap.size, 2, none⟩ = some (.int .i64 d))
          (first | (show _ = _; simpa using b2) | (show _ = _; exact cell_alloc (by first | exact b2 | simpa using b2) _))
          (first
          | (go_at_call 48; (with_reducible refine (hdv _).mono ?_); rintro e w2 ⟨rfl, rfl⟩)
          | fail)
        all_goals
          have lt1 : w.heap.size + 1 < w1.heap.size := by have := L1.out; simp at this; omega
          have ne1 : ¬ w1.heap.size = w.heap.size + 1 := by omega
          have ne2 : ¬ w.heap.size + 1 = w1.heap.size := by omega
          have B2 := Lib.hid (B1.out.alloc B1.out.size (.cells #[Value.int IntKind.i64 Q, Value.int IntKind.i64 (↑R + 1), Value.int IntKind.i64 d] 23))
          go_wp2_with (first
            | (go_at_call 18; (with_reducible refine (hyr _).mono ?_); rintro e w5 ⟨rfl, rfl⟩)
            | fail)
          obtain ⟨p0, p1, p2⟩ := ((BoxD.store ⟨c0, c1, c2⟩ 0 0 0).alloc (by simpa using lt1) (.cells #[Value.int IntKind.i64 Q, Value.int IntKind.i64 (↑R + 1), Value.int IntKind.i64 (d)] 23))
          refine bodyPost_ret (v := .tuple #[.agg #[.int .i64 0, .int .i64 0, .int .i64 0], .int .i64 5]) (by simp [results, Tryd.results20, go_sem, p0, p1, p2]) rfl (RetAM.no HN.out ⟨rfl, ?_⟩)
          exact ((stores3 B1.out _ _ _ _ (Nat.le_succ _)).alloc (by simp; have := B1.out.size; omega) _).drew
    · rw [decide_eq_false hn1, Bool.false_and] at hok
      have HN := Lib.hid hok
      clear hok hdt
      by_cases hlo : n < -1300
      · clear hn1
        go_enter Tryd.func20, Tryd.ntmps20
        go_wp2_with (first
          | (go_at_call 41; (with_reducible refine (hid _).mono ?_); rintro e w1 ⟨rfl, g1⟩; obtain ⟨b0, b1, b2⟩ := HBX.out.below g1 (by simp; omega); obtain ⟨c0, c1, c2⟩ := HRX.out.below g1 (by simp); obtain ⟨z0, z1, z2⟩ := HRF.out.below g1 (by simp); have B1 := Lib.hid (ccall2 HB0.out g1 HB0.out.size); have L1 := Lib.hid g1.size; clear g1)
          | fail)
        obtain ⟨p0, p1, p2⟩ := BoxD.store ⟨c0, c1, c2⟩ 0 0 0
        refine bodyPost_ret (v := .tuple #[.agg #[.int .i64 0, .int .i64 0, .int .i64 0], .int .i64 5]) (by simp [results, Tryd.results20, go_sem, p0, p1, p2]) rfl (RetAM.no HN.out ⟨rfl, ?_⟩)
        exact stores3 B1.out _ _ _ _ (Nat.le_succ _)
      · have q1 : decide (n < -1300) = false := by simpa using hlo
        have q2 : 1300 < n := by omega
        clear hn1
        go_enter Tryd.func20, Tryd.ntmps20
        go_wp2_with (first
          | (go_at_call 41; (with_reducible refine (hid _).mono ?_); rintro e w1 ⟨rfl, g1⟩; obtain ⟨b0, b1, b2⟩ := HBX.out.below g1 (by simp; omega); obtain ⟨c0, c1, c2⟩ := HRX.out.below g1 (by simp); obtain ⟨z0, z1, z2⟩ := HRF.out.below g1 (by simp); have B1 := Lib.hid (ccall2 HB0.out g1 HB0.out.size); have L1 := Lib.hid g1.size; clear g1)
          | fail)
        obtain ⟨p0, p1, p2⟩ := BoxD.store ⟨c0, c1, c2⟩ 0 0 0
        refine bodyPost_ret (v := .tuple #[.agg #[.int .i64 0, .int .i64 0, .int .i64 0], .int .i64 5]) (by simp [results, Tryd.results20, go_sem, p0, p1, p2]) rfl (RetAM.no HN.out ⟨rfl, ?_⟩)
        exact stores3 B1.out _ _ _ _ (Nat.le_succ _)
set_option maxHeartbeats 4000000 in
set_option maxRecDepth 100000 in
theorem calendarMonths_any (y m d : Int) (hd : (-9223372036854775808 ≤ y ∧ y ≤ 9223372036854775807) ∧ (-9223372036854775808 ≤ m ∧ m ≤ 9223372036854775807) ∧ (-9223372036854775808 ≤ d ∧ d ≤ 9223372036854775807)) (n : Int) (hn : -9223372036854775808 ≤ n ∧ n ≤ 9223372036854775807) (w : World) (hT : MonT w) :
    Calls Tryd.prog 5 #[.agg #[.int .i64 y, .int .i64 m, .int .i64 d], .int .i64 n] w (RetB1 w true) := by
  have hp1 := fun w hT => pdim_any y m w hT
  have hr1 := rdim_any y m
  have hp2 := fun w hT => addMonths_any y m d n hd.1.1 hd.1.2 hn w hT
  have hr2 := raddMonths_any y m d n hd.1.1 hd.1.2 hn
  unfold RetAM at hp2 hr2
  obtain ⟨V, HV⟩ : ∃ v, Hid (dimV y m = v) := ⟨_, rfl⟩
  obtain ⟨E, HE⟩ : ∃ v, Hid (dimE y m = v) := ⟨_, rfl⟩
  obtain ⟨Y, HY⟩ : ∃ v, Hid (amY y m d n = v) := ⟨_, rfl⟩
  obtain ⟨M, HM⟩ : ∃ v, Hid (amM y m d n = v) := ⟨_, rfl⟩
  obtain ⟨D, HD⟩ : ∃ v, Hid (amD y m d n = v) := ⟨_, rfl⟩
  obtain ⟨F, HF⟩ : ∃ v, Hid (amE y m d n = v) := ⟨_, rfl⟩
  rw [HV.out, HE.out] at hp1 hr1
  rw [HY.out, HM.out, HD.out, HF.out] at hp2 hr2
  have HT0 := Lib.hid (hT.box (.cells #[Value.int IntKind.i64 y, Value.int IntKind.i64 m, Value.int IntKind.i64 d] 23))
  have HBX := Lib.hid (box_new w y m d 23)
  clear hT hd
  go_enter Tryd.func5, Tryd.ntmps5
  go_wp2_with (first
    | (go_at_call 17; (with_reducible refine (hp1 _ HT0.out).mono ?_); rintro e w1 ⟨rfl, rfl⟩)
    | (go_at_call 18; (with_reducible refine (hr1 _).mono ?_); rintro e w1 ⟨rfl, rfl⟩)
    | (go_at_call 19; (with_reducible refine (hp2 _ HT0.out).mono ?_); rintro e w3 ⟨rfl, g3⟩; obtain ⟨a0, a1, a2⟩ := (HBX.out.below g3 (by simp)).alloc (by have := g3.size; simp at this; omega) (.cells #[Value.int IntKind.i64 Y, Value.int IntKind.i64 M, Value.int IntKind.i64 D] 23); have HT3 := Lib.hid (HT0.out.below g3 (Nat.le_refl _)); have G3 := Lib.hid (ccall g3); clear g3)
    | (go_at_call 20; (with_reducible refine (hr2 _).mono ?_); rintro e w4 ⟨rfl, g4⟩; obtain ⟨b0, b1, b2⟩ := ((box_new w3 Y M D 23).below g4 (by simp)).alloc (by have := g4.size; simp at this; omega) (.cells #[Value.int IntKind.i64 Y, Value.int IntKind.i64 M, Value.int IntKind.i64 D] 23); have HT4 := Lib.hid ((HT3.out.box _).below g4 (Nat.le_refl _)); have G4 := Lib.hid (ccall2 G3.out (ccall g4) G3.out.size); clear g4)
    | (go_at_call 16; (with_reducible refine (awake6_any _ (HT4.out.box _)).mono ?_); rintro e w7 ⟨rfl, g7⟩)
    | fail)
  go_ret
  exact ⟨rfl, ccall2 (G4.out.alloc G4.out.size _) g7 (by have := G4.out.size; simp; omega)⟩
end Go.Proofs.YtpcagheghmbjfaaDoor

