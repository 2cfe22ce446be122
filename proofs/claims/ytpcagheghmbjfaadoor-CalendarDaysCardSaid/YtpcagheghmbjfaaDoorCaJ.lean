/-
  Calendar: the laws on minutes and on days.
-/
import Derived.Test.YtpcagheghmbjfaaDoorCaI
set_option linter.unusedVariables false
set_option linter.unusedSimpArgs false
namespace Go.Proofs.YtpcagheghmbjfaaDoor
open Go.RowKit

set_option maxHeartbeats 4000000 in
set_option maxRecDepth 100000 in
theorem calendarMinutes_any (t : Int) (ht : -9223372036854775808 ≤ t ∧ t ≤ 9223372036854775807) (w : World) (hT : MonT w) : Calls Tryd.prog 6 #[.int .i64 t] w (RetB1 w true) := by
  obtain ⟨h0, h1⟩ := ht
  have hp := splitMinute_any t h0 h1
  have hr := rsplitMinute_any t h0 h1
  have r0 : 0 ≤ t % 1440 := Int.emod_nonneg _ (by omega)
  have r1 : t % 1440 < 1440 := Int.emod_lt_of_pos _ (by omega)
  obtain ⟨q, Hq⟩ : ∃ v, Hid (t / 1440 = v) := ⟨_, rfl⟩
  obtain ⟨r, Hr⟩ : ∃ v, Hid (t % 1440 = v) := ⟨_, rfl⟩
  rw [Hq.out, Hr.out] at hp hr
  rw [Hr.out] at r0 r1
  go_enter Tryd.func6, Tryd.ntmps6
  go_wp2_with (first
    | (go_at_call 21; (with_reducible refine (hp _).mono ?_); rintro e w1 ⟨rfl, k1, rfl⟩)
    | (go_at_call 22; (with_reducible refine (hr _).mono ?_); rintro e w2 ⟨rfl, k2, rfl⟩)
    | (go_at_call 16; (with_reducible refine (awake6_any _ (by first | exact (hT.drewN _).drewN _ | exact hT.drewN _)).mono ?_); rintro e w3 ⟨rfl, g3⟩)
    | fail)
  go_ret
  first
  | exact ⟨rfl, (below_drewN (Below.refl _ _) _).trans (g3.mono (by simp))⟩
  | exact ⟨rfl, (below_drewN (below_drewN (Below.refl _ _) _) _).trans (g3.mono (by simp))⟩
set_option maxHeartbeats 4000000 in
set_option maxRecDepth 100000 in
theorem calendarDays_any (y m d : Int) (hd : (-9223372036854775808 ≤ y ∧ y ≤ 9223372036854775807) ∧ (-9223372036854775808 ≤ m ∧ m ≤ 9223372036854775807) ∧ (-9223372036854775808 ≤ d ∧ d ≤ 9223372036854775807)) (t : Int) (ht : -9223372036854775808 ≤ t ∧ t ≤ 9223372036854775807) (w : World) (hT : MonT w) :
    Calls Tryd.prog 3 #[.agg #[.int .i64 y, .int .i64 m, .int .i64 d], .int .i64 t] w (RetB1 w true) := by
  obtain ⟨h0, h1⟩ := ht
  have hp1 := fun w hT => dayNumber2_any y m d hd.1.1 hd.1.2 w hT
  have hr1 := rdayNumber_any y m d
  have hp2 := fun w hT => dateOf3_any t h0 h1 w hT
  have hr2 := rdateOf3_any t h0 h1
  have hp3 := weekday_any t h0 h1
  have hr3 := rweekday_any t h0 h1
  unfold dateV at hp1 hr1
  unfold RetDF at hp2 hr2
  obtain ⟨V, HV⟩ : ∃ v, Hid (numV y m d = v) := ⟨_, rfl⟩
  obtain ⟨E, HE⟩ : ∃ v, Hid (numE y m d = v) := ⟨_, rfl⟩
  obtain ⟨Y, HY⟩ : ∃ v, Hid (dY t = v) := ⟨_, rfl⟩
  obtain ⟨M, HM⟩ : ∃ v, Hid (dM t = v) := ⟨_, rfl⟩
  obtain ⟨D, HD⟩ : ∃ v, Hid (dD t = v) := ⟨_, rfl⟩
  obtain ⟨F, HF⟩ : ∃ v, Hid (dE t = v) := ⟨_, rfl⟩
  obtain ⟨K, HK⟩ : ∃ v, Hid (wdayN t = v) := ⟨_, rfl⟩
  rw [HV.out, HE.out] at hp1 hr1
  rw [HY.out, HM.out, HD.out, HF.out] at hp2 hr2
  rw [HK.out] at hp3 hr3
  have HBX := Lib.hid (box_new w y m d 23)
  have HT0 := Lib.hid (hT.box (.cells #[Value.int IntKind.i64 y, Value.int IntKind.i64 m, Value.int IntKind.i64 d] 23))
  clear hT hd
  go_enter Tryd.func3, Tryd.ntmps3
  go_wp2_with (first
    | (go_at_call 10; (with_reducible refine (hp1 _ HT0.out).mono ?_); rintro e w1 ⟨rfl, g1⟩; obtain ⟨a0, a1, a2⟩ := HBX.out.below g1 (by simp); have HT1 := Lib.hid (HT0.out.below g1 (Nat.le_refl _)); have G1 := Lib.hid (ccall g1); clear g1)
    | (go_at_call 11; (with_reducible refine (hr1 _).mono ?_); rintro e w2 ⟨rfl, g2⟩; have HT2 := Lib.hid (HT1.out.below g2 (Nat.le_refl _)); have G2 := Lib.hid (ccall2 G1.out g2 G1.out.size); clear g2)
    | (go_at_call 12; (with_reducible refine (hp2 _ HT2.out).mono ?_); rintro e w3 ⟨rfl, g3⟩; have HT3 := Lib.hid (HT2.out.below g3 (Nat.le_refl _)); have G3 := Lib.hid (ccall2 G2.out g3 G2.out.size); clear g3)
    | (go_at_call 13; (with_reducible refine (hr2 _).mono ?_); rintro e w4 ⟨rfl, g4⟩; obtain ⟨b0, b1, b2⟩ := ((box_new w3 Y M D 23).below g4 (by simp)).alloc (by have := g4.size; simp at this; omega) (.cells #[Value.int IntKind.i64 Y, Value.int IntKind.i64 ↑M, Value.int IntKind.i64 D] 23); have ne1 : ¬ w3.heap.size = w4.heap.size := (by have := g4.size; simp at this; omega); have ne2 : ¬ w4.heap.size = w3.heap.size := (by omega); have HT4 := Lib.hid ((HT3.out.box _).below g4 (Nat.le_refl _)); have G4 := Lib.hid (ccall2 G3.out (ccall g4) G3.out.size); clear g4)
    | (go_at_call 14; (with_reducible refine (hp3 _).mono ?_); rintro e w5 ⟨rfl, k5, rfl⟩)
    | (go_at_call 15; (with_reducible refine (hr3 _).mono ?_); rintro e w6 ⟨rfl, rfl⟩)
    | (go_at_call 16; (with_reducible refine (awake6_any _ ((HT4.out.box _).drewN _)).mono ?_); rintro e w7 ⟨rfl, g7⟩)
    | fail)
  go_ret
  exact ⟨rfl, ccall2 (below_drewN (G4.out.alloc G4.out.size _) _) g7 (by have := G4.out.size; simp; omega)⟩
end Go.Proofs.YtpcagheghmbjfaaDoor

