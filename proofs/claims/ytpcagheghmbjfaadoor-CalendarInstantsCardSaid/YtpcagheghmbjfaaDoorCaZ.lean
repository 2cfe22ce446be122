/-
  Calendar: writing instants, on both sides.
-/
import Derived.Test.YtpcagheghmbjfaaDoorCaY
set_option linter.unusedVariables false
set_option linter.unusedSimpArgs false
namespace Go.Proofs.YtpcagheghmbjfaaDoor
open Go.RowKit

set_option maxHeartbeats 2000000 in
theorem isInstant_any (t : Int) (w : World) : Calls Tryd.prog 62 #[.int .i64 t] w (RetQ w (decide (0 ≤ t ∧ t < 52596000))) := by
  obtain ⟨B, HB⟩ : ∃ v, Hid (decide (0 ≤ t ∧ t < 52596000) = v) := ⟨_, rfl⟩
  rw [HB.out]
  by_cases h1 : 0 ≤ t
  · by_cases h2 : t < 52596000
    · obtain rfl : B = true := by rw [← HB.out]; simp [h1, h2]
      go_enter Tryd.func62, Tryd.ntmps62
      go_wp2
      go_ret
      exact ⟨rfl, rfl⟩
    · obtain rfl : B = false := by rw [← HB.out]; simp [h2]
      have h3 : decide (t < 52596000) = false := by simpa using h2
      go_enter Tryd.func62, Tryd.ntmps62
      go_wp2
      go_ret
      exact ⟨rfl, rfl⟩
  · obtain rfl : B = false := by rw [← HB.out]; simp [h1]
    have h3 : decide (0 ≤ t) = false := by simpa using h1
    go_enter Tryd.func62, Tryd.ntmps62
    go_wp2
    go_ret
    exact ⟨rfl, rfl⟩
/-- The pieces of an instant's text. -/
theorem inst_parts {y k d h m : Nat} (hy : y < 10000) (hk : k < 100) (hd : d < 100) (hh : h < 100) (hm : m < 100) : ∃ P X Q : List UInt8, dateT y k d = P ∧ clockT h m = Q ∧
    (⟨P.toArray⟩ : ByteArray).size = 10 ∧ (⟨X.toArray⟩ : ByteArray).size = 11 ∧ (⟨Q.toArray⟩ : ByteArray).size = 5 ∧
    (⟨P.toArray⟩ : ByteArray) ++ ⟨#[32]⟩ = ⟨X.toArray⟩ ∧ (⟨X.toArray⟩ : ByteArray) ++ ⟨Q.toArray⟩ = ⟨(dateT y k d ++ [32] ++ clockT h m).toArray⟩ := by
  have l1 := dateT_len hy hk hd
  have l2 := clockT_len hh hm
  refine ⟨_, dateT y k d ++ [32], _, rfl, rfl, ?_, ?_, ?_, str_app _ [32], str_app _ _⟩
  all_goals rw [bsize]; simp only [List.length_append, List.length_cons, List.length_nil, l1, l2]
theorem dateOf4_any (day : Int) (hi : inDay day) (w : World) (hT : MonT w) : Calls Tryd.prog 43 #[.int .i64 day] w (fun en w' => en = .returned (.agg #[.int .i64 (dY day), .int .i64 (dM day : Int), .int .i64 (dD day)]) ∧ Below w.heap.size w w') := by
  have hb := hi
  obtain ⟨b1, b2⟩ := hb
  refine (dateOf_any day (by omega) (by omega) w hT).mono ?_
  rintro en w' ⟨y, d, m, he, hI, hN, hB⟩
  obtain ⟨g1, g2⟩ := dP_in hi
  obtain ⟨rfl, rfl, rfl⟩ := hI.unique g1 (by rw [hN, g2])
  exact ⟨he, hB⟩
set_option maxHeartbeats 4000000 in
set_option maxRecDepth 100000 in
theorem formatInstant_any (t : Int) (w : World) (hT : MonT w) (hP : PowT w) : Calls Tryd.prog 37 #[.int .i64 t] w (RetTE w (fiT t) (fiE t)) := by
  have hin := isInstant_any t
  unfold fiT fiE
  by_cases h : 0 ≤ t ∧ t < 52596000
  · rw [if_pos h, if_pos h]
    rw [decide_eq_true h] at hin
    have hd := fun w hT => dateOf4_any (t / 1440) (inst_in h) w hT
    have hs := splitMinute_any t (by omega) (by omega)
    obtain ⟨Y, k, D, H, M, eY, ek, eD, hI, y1, y2, k2, d2, hN, hH, hM, h2, m2, hIT⟩ := inst_fields h
    rw [hIT]
    rw [eY, ek, eD] at hd
    obtain ⟨c, hc⟩ : ∃ c : Nat, t % 1440 = (c : Int) := ⟨(t % 1440).toNat, by omega⟩
    have hcl : c < 1440 := by omega
    have hct := fun w hP => clockText_any c hcl w hP
    rw [show c / 60 = H by omega, show c % 60 = M by omega] at hct
    have hdt := fun w hP => dateText_any Y k D (by omega) (by omega) (by omega) w hP
    obtain ⟨P, X, Q, e1, e2, s1, s2, s3, a1, a2⟩ := inst_parts (y := Y) (k := k) (d := D) (h := H) (m := M) (by omega) (by omega) (by omega) (by omega) (by omega)
    rw [e1] at hdt
    rw [e2] at hct
    obtain ⟨R, HR⟩ : ∃ v, Hid (dateT Y k D ++ [32] ++ clockT H M = v) := ⟨_, Lib.hid rfl⟩
    rw [HR.out] at a2 ⊢
    have hs32 : (⟨#[32]⟩ : ByteArray).size = 1 := rfl
    rw [hc] at hs
    obtain ⟨q, Hq⟩ : ∃ v, Hid (t / 1440 = v) := ⟨_, rfl⟩
    rw [Hq.out] at hs hd
    have K0 := Lib.hid (Keep.start hT hP)
    clear hT hP h eY ek eD hI hN hH hM hc hIT e1 e2
    go_enter Tryd.func37, Tryd.ntmps37
    go_wp2_with (first
      | (go_at_call 62; (with_reducible refine (hin _).mono ?_); rintro e w1 ⟨rfl, rfl⟩)
      | (go_at_call 21; (with_reducible refine (hs _).mono ?_); rintro e w2 ⟨rfl, k2, rfl⟩)
      | (go_at_call 43; (with_reducible refine (hd _ (K0.out.t.drewN _)).mono ?_); rintro e w3 ⟨rfl, g3⟩; have K3 := Lib.hid ((⟨K0.out.t.drewN _, K0.out.p.drewN _, below_drewN K0.out.b _⟩ : Keep _ _).call g3); clear g3)
      | (go_at_call 52; (with_reducible refine (hdt _ K3.out.p).mono ?_); rintro e w4 ⟨rfl, g4⟩; have K4 := Lib.hid (K3.out.call g4); clear g4)
      | (go_at_call 54; (with_reducible refine (hct _ K4.out.p).mono ?_); rintro e w5 ⟨rfl, g5⟩; have K5 := Lib.hid (K4.out.call g5); clear g5)
      | fail)
    go_ret2
    exact ⟨rfl, K5.out.b⟩
  · rw [if_neg h, if_neg h]
    rw [decide_eq_false h] at hin
    clear hT hP h
    go_enter Tryd.func37, Tryd.ntmps37
    go_wp2_with (first
      | (go_at_call 62; (with_reducible refine (hin _).mono ?_); rintro e w1 ⟨rfl, rfl⟩)
      | fail)
    go_ret2
    exact ⟨rfl, Below.refl _ _⟩
set_option maxHeartbeats 4000000 in
set_option maxRecDepth 100000 in
theorem rformatInstant_any (t : Int) (w : World) (hP : PowT w) : Calls Tryd.prog 38 #[.int .i64 t] w (RetTE w (fiT t) (fiE t)) := by
  unfold fiT fiE
  by_cases h : 0 ≤ t ∧ t < 52596000
  · rw [if_pos h, if_pos h]
    have hi := inst_in h
    have hd := rdateOf3_any (t / 1440) (by omega) (by omega)
    unfold RetDF at hd
    rw [dE_in hi] at hd
    have hs := rsplitMinute_any t (by omega) (by omega)
    obtain ⟨Y, k, D, H, M, eY, ek, eD, hI, y1, y2, k2, d2, hN, hH, hM, h2, m2, hIT⟩ := inst_fields h
    rw [hIT]
    rw [eY, ek, eD] at hd
    obtain ⟨c, hc⟩ : ∃ c : Nat, t % 1440 = (c : Int) := ⟨(t % 1440).toNat, by omega⟩
    have hcl : c < 1440 := by omega
    have hct := fun w hP => rformatClock_any (c : Int) w hP
    have hdt := fun w hP => rformatDate_any (Y : Int) (k : Int) (D : Int) w hP
    have hdB : dateB (Y : Int) (k : Int) (D : Int) = true := date_of hI (by omega) (by omega)
    have f1 : fdT (Y : Int) (k : Int) (D : Int) = dateT Y k D := by unfold fdT; rw [if_pos hdB]; rfl
    have f2 : fdE (Y : Int) (k : Int) (D : Int) = 0 := by unfold fdE; rw [if_pos hdB]
    have f3 : fcT (c : Int) = clockT H M := by
      unfold fcT; rw [if_pos ⟨by omega, by omega⟩, show ((c : Int) / 60).toNat = H by omega, show ((c : Int) % 60).toNat = M by omega]
    have f4 : fcE (c : Int) = 0 := by unfold fcE; rw [if_pos ⟨by omega, by omega⟩]
    rw [f1, f2] at hdt
    rw [f3, f4] at hct
    obtain ⟨P, X, Q, e1, e2, s1, s2, s3, a1, a2⟩ := inst_parts (y := Y) (k := k) (d := D) (h := H) (m := M) (by omega) (by omega) (by omega) (by omega) (by omega)
    rw [e1] at hdt
    rw [e2] at hct
    obtain ⟨R, HR⟩ : ∃ v, Hid (dateT Y k D ++ [32] ++ clockT H M = v) := ⟨_, Lib.hid rfl⟩
    rw [HR.out] at a2 ⊢
    have hs32 : (⟨#[32]⟩ : ByteArray).size = 1 := rfl
    rw [hc] at hs
    obtain ⟨q, Hq⟩ : ∃ v, Hid (t / 1440 = v) := ⟨_, rfl⟩
    rw [Hq.out] at hs hd
    obtain ⟨h1, h3⟩ := h
    have q1 : decide (t < 0) = false := by simp; omega
    have q2 : decide ((52596000 : Int) ≤ t) = false := by simp; omega
    have P0 := Lib.hid hP
    clear hP eY ek eD hI hN hH hM hc hIT e1 e2 f1 f2 f3 f4 hdB hi
    go_enter Tryd.func38, Tryd.ntmps38
    go_wp2_with (first
      | (go_at_call 22; (with_reducible refine (hs _).mono ?_); rintro e w2 ⟨rfl, k2, rfl⟩)
      | (go_at_call 13; (with_reducible refine (hd _).mono ?_); rintro e w3 ⟨rfl, g3⟩; have B3 := Lib.hid ((below_drewN (Below.refl w.heap.size w) k2).trans (g3.mono (by simp))); have P3 := Lib.hid (((P0.out.drewN _).below g3 (Nat.le_refl _)).box (.cells #[Value.int IntKind.i64 ↑Y, Value.int IntKind.i64 ↑k, Value.int IntKind.i64 ↑D] 23)); have B4 := Lib.hid (B3.out.alloc B3.out.size (.cells #[Value.int IntKind.i64 ↑Y, Value.int IntKind.i64 ↑k, Value.int IntKind.i64 ↑D] 23)); clear g3)
      | (go_at_call 26; (with_reducible refine (hdt _ P3.out).mono ?_); rintro e w4 ⟨rfl, g4⟩; have P4 := Lib.hid (P3.out.below g4 (Nat.le_refl _)); have B5 := Lib.hid (ccall2 B4.out g4 B4.out.size); clear g4)
      | (go_at_call 30; (with_reducible refine (hct _ P4.out).mono ?_); rintro e w5 ⟨rfl, g5⟩; have B6 := Lib.hid (ccall2 B5.out g5 B5.out.size); clear g5)
      | fail)
    go_ret2
    exact ⟨rfl, B6.out⟩
  · rw [if_neg h, if_neg h]
    clear hP
    by_cases hlo : t < 0
    · clear h
      go_enter Tryd.func38, Tryd.ntmps38
      go_wp2_with fail
      go_ret2
      exact ⟨rfl, Below.refl _ _⟩
    · have q1 : decide (t < 0) = false := by simpa using hlo
      have q2 : 52596000 ≤ t := by omega
      clear h
      go_enter Tryd.func38, Tryd.ntmps38
      go_wp2_with fail
      go_ret2
      exact ⟨rfl, Below.refl _ _⟩
end Go.Proofs.YtpcagheghmbjfaaDoor

