/-
  Calendar: the date of a day as a function; weekdays and minutes of the reference; the check of all laws.
-/
import Derived.Test.YtiohakpbgmignaaCaH
set_option linter.unusedVariables false
set_option linter.unusedSimpArgs false
namespace Go.Proofs.Ytiohakpbgmignaa
open Go.RowKit

theorem date_next {y d : Int} {m : Nat} (h : IsD y m d) : ∃ (y' d' : Int) (m' : Nat), IsD y' m' d' ∧ dayN y' m' d' = dayN y m d + 1 := by
  by_cases h1 : d < mlB (leapB y) m
  · exact ⟨y, d + 1, m, h.next1 h1⟩
  · have h2 : d = mlB (leapB y) m := by have := h.d2; omega
    by_cases h3 : m < 12
    · exact ⟨y, 1, m + 1, h.next2 h2 h3⟩
    · exact ⟨y + 1, 1, 1, h.next3 h2 (by have := h.m2; omega)⟩
theorem date_ex : ∀ n : Nat, ∃ (y d : Int) (m : Nat), IsD y m d ∧ dayN y m d = (n : Int) - 365
  | 0 => ⟨1999, 1, 1, ⟨by omega, by omega, by omega, by decide⟩, by decide⟩
  | n + 1 => by
    obtain ⟨y, d, m, h, hn⟩ := date_ex n
    obtain ⟨y', d', m', h', hn'⟩ := date_next h
    exact ⟨y', d', m', h', by rw [hn', hn]; omega⟩
def inDay (day : Int) : Prop := -365 ≤ day ∧ day ≤ 36889
theorem date_ex2 (day : Int) : ∃ p : Int × Nat × Int, (inDay day → IsD p.1 p.2.1 p.2.2 ∧ dayN p.1 p.2.1 p.2.2 = day) ∧ (¬ inDay day → p = (0, 0, 0)) := by
  by_cases h : inDay day
  · obtain ⟨y, d, m, h1, h2⟩ := date_ex (day + 365).toNat
    exact ⟨(y, m, d), fun _ => ⟨h1, by rw [h2]; have := h.1; omega⟩, fun h3 => absurd h h3⟩
  · exact ⟨(0, 0, 0), fun h3 => absurd h3 h, fun _ => rfl⟩
noncomputable def dP (day : Int) : Int × Nat × Int := Classical.choose (date_ex2 day)
noncomputable def dY (day : Int) : Int := (dP day).1
noncomputable def dM (day : Int) : Nat := (dP day).2.1
noncomputable def dD (day : Int) : Int := (dP day).2.2
open Classical in
noncomputable def dE (day : Int) : Int := if inDay day then 0 else 5
theorem dP_in {day : Int} (h : inDay day) : IsD (dY day) (dM day) (dD day) ∧ dayN (dY day) (dM day) (dD day) = day := (Classical.choose_spec (date_ex2 day)).1 h
theorem dP_out {day : Int} (h : ¬ inDay day) : dY day = 0 ∧ dM day = 0 ∧ dD day = 0 := by
  have := (Classical.choose_spec (date_ex2 day)).2 h
  unfold dY dM dD dP
  rw [this]
  exact ⟨rfl, rfl, rfl⟩
theorem dE_in {day : Int} (h : inDay day) : dE day = 0 := by unfold dE; rw [if_pos h]
theorem dE_out {day : Int} (h : ¬ inDay day) : dE day = 5 := by unfold dE; rw [if_neg h]
theorem dP_years {day : Int} (h : inDay day) : 1999 ≤ dY day ∧ dY day ≤ 2100 := by
  obtain ⟨h1, h2⟩ := dP_in h
  refine h1.years.2 ?_
  rw [h2]; exact h
def RetDF (w : World) (day : Int) (en : Ending) (w' : World) : Prop := en = .returned (.tuple #[.agg #[.int .i64 (dY day), .int .i64 (dM day : Int), .int .i64 (dD day)], .int .i64 (dE day)]) ∧ Below w.heap.size w w'
theorem RetDD.fn {w w' : World} {day : Int} {en : Ending} (h : RetDD w day en w') : RetDF w day en w' := by
  rcases h with ⟨y, d, m, he, hi, y1, y2, hn, hb⟩ | ⟨ho, he, hb⟩
  · have hin : inDay day := by
      have := hi.years.1 ⟨y1, y2⟩
      rw [hn] at this; exact this
    obtain ⟨g1, g2⟩ := dP_in hin
    obtain ⟨rfl, rfl, rfl⟩ := hi.unique g1 (by rw [hn, g2])
    exact ⟨by rw [he, dE_in hin]; rfl, hb⟩
  · obtain ⟨e1, e2, e3⟩ := dP_out ho
    exact ⟨by rw [he, dE_out ho, e1, e2, e3]; rfl, hb⟩
theorem wday_of {d r s : Int} (hr : d.tmod 7 = r) (hs : (r + 5).tmod 7 = s) : (s < 0 → wdayN d = s + 7) ∧ (¬ s < 0 → wdayN d = s) ∧ -7 < r ∧ r < 7 ∧ -7 < s ∧ s < 7 := by
  obtain ⟨f1, f2, f3, f4⟩ := floor_of (n := d) (b := 7) (by omega) rfl hr
  obtain ⟨g1, g2, g3, g4⟩ := floor_of (n := r + 5) (b := 7) (by omega) rfl hs
  unfold wdayN
  refine ⟨fun h => ?_, fun h => ?_, f3, f4, g3, g4⟩
  · by_cases hr0 : r < 0
    · have := (f1 hr0).2; have := (g1 h).2; omega
    · have := (f2 hr0).2; have := (g1 h).2; omega
  · by_cases hr0 : r < 0
    · have := (f1 hr0).2; have := (g2 h).2; omega
    · have := (f2 hr0).2; have := (g2 h).2; omega
theorem wrap_back {t q r : Int} (h0 : -9223372036854775808 ≤ t) (h1 : t ≤ 9223372036854775807) (hq : t / 1440 = q) (hr : t % 1440 = r) : IntKind.i64.wrap (t - IntKind.i64.wrap (1440 * q)) = r := by
  rw [IntKind.wrap_i64, IntKind.wrap_i64]; omega
set_option maxHeartbeats 4000000 in
set_option maxRecDepth 100000 in
theorem rsplitMinute_any (d : Int) (h0 : -9223372036854775808 ≤ d) (h1 : d ≤ 9223372036854775807) (w : World) : Calls Try.prog 38 #[.int .i64 d] w (RetDM w (d / 1440) (d % 1440)) := by
  have hf := rfloor_any d 1440 (by omega) (by omega) h0 h1
  have hw := wrap_back h0 h1 rfl rfl
  obtain ⟨q, Hq⟩ : ∃ v, Hid (d / 1440 = v) := ⟨_, rfl⟩
  obtain ⟨r, Hr⟩ : ∃ v, Hid (d % 1440 = v) := ⟨_, rfl⟩
  rw [Hq.out] at hf
  rw [Hq.out, Hr.out] at hw ⊢
  obtain ⟨X, HX⟩ : ∃ v, IntKind.i64.wrap (1440 * q) = v := ⟨_, rfl⟩
  rw [HX] at hw
  go_enter Try.func38, Try.ntmps38
  go_wp2_with (first | (go_at_call 53; (with_reducible refine (hf _).mono ?_); rintro e w1 ⟨rfl, rfl⟩) | fail)
  go_ret2
  exact ⟨by first | rfl | simp [hw], 0, rfl⟩

theorem num_awake : numV 2000 3 1 = 60 ∧ numE 2000 3 1 = 0 ∧ wdayN 60 = 2 := ⟨by decide, by decide, by decide⟩
end Go.Proofs.Ytiohakpbgmignaa

