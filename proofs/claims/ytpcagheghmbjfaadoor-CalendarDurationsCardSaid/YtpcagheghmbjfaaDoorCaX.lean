/-
  Calendar: reading inverts writing; the law on dates.
-/
import Derived.Test.YtpcagheghmbjfaaDoorCaW
import Derived.Test.YtpcagheghmbjfaaDoorCaI
set_option linter.unusedVariables false
set_option linter.unusedSimpArgs false
namespace Go.Proofs.YtpcagheghmbjfaaDoor
open Go.RowKit

theorem list2 {l : List UInt8} (h : l.length = 2) : ∃ a b, l = [a, b] := by
  match l, h with
  | [a, b], _ => exact ⟨a, b, rfl⟩
theorem list4 {l : List UInt8} (h : l.length = 4) : ∃ a b c d, l = [a, b, c, d] := by
  match l, h with
  | [a, b, c, d], _ => exact ⟨a, b, c, d, rfl⟩
theorem dateT_len {y m d : Nat} (hy : y < 10000) (hm : m < 100) (hd : d < 100) : (dateT y m d).length = 10 := by
  unfold dateT
  simp only [List.length_append, List.length_cons, List.length_nil, pad_len (four_le hy), pad_len (two_le hm), pad_len (two_le hd)]
theorem clockT_len {h m : Nat} (hh : h < 100) (hm : m < 100) : (clockT h m).length = 5 := by
  unfold clockT
  simp only [List.length_append, List.length_cons, List.length_nil, pad_len (two_le hh), pad_len (two_le hm)]
theorem date_back {y m d : Nat} (hy : y < 10000) (hm : m < 100) (hd : d < 100) : formB (dateT y m d) dateF = true ∧ pdy (dateT y m d) = y ∧ pdm (dateT y m d) = m ∧ pdd (dateT y m d) = d := by
  have a1 := pad_all y 4
  have a2 := pad_all m 2
  have a3 := pad_all d 2
  have v1 := pad_dec y 4
  have v2 := pad_dec m 2
  have v3 := pad_dec d 2
  obtain ⟨p, q, r, s, e1⟩ := list4 (pad_len (four_le hy))
  obtain ⟨t, u, e2⟩ := list2 (pad_len (two_le hm))
  obtain ⟨v, x, e3⟩ := list2 (pad_len (two_le hd))
  have hT : dateT y m d = [p, q, r, s, 45, t, u, 45, v, x] := by unfold dateT; rw [e1, e2, e3]; rfl
  rw [e1] at a1 v1
  rw [e2] at a2 v2
  rw [e3] at a3 v3
  rw [hT]
  exact ⟨date_form rfl rfl rfl a1 a2 a3, v1, v2, v3⟩
theorem clock_back {h m : Nat} (hh : h < 100) (hm : m < 100) : formB (clockT h m) clockF = true ∧ pcH (clockT h m) = h ∧ pcM (clockT h m) = m := by
  have a1 := pad_all h 2
  have a2 := pad_all m 2
  have v1 := pad_dec h 2
  have v2 := pad_dec m 2
  obtain ⟨p, q, e1⟩ := list2 (pad_len (two_le hh))
  obtain ⟨t, u, e2⟩ := list2 (pad_len (two_le hm))
  have hT : clockT h m = [p, q, 58, t, u] := by unfold clockT; rw [e1, e2]; rfl
  rw [e1] at a1 v1
  rw [e2] at a2 v2
  rw [hT]
  exact ⟨clock_form rfl rfl a1 a2, v1, v2⟩
theorem fd_len (y m d : Int) : (fdT y m d).length ≤ 10 := by
  unfold fdT
  by_cases h : dateB y m d = true
  · obtain ⟨Y, k, D, rfl, rfl, rfl, hk, y1, y2, d2⟩ := date_nat h
    have := hk.m2
    rw [if_pos h, dateT_len (by omega) (by omega) (by omega)]; exact Nat.le_refl _
  · rw [if_neg h]; exact Nat.zero_le _
theorem fc_len (c : Int) : (fcT c).length ≤ 10 := by
  unfold fcT
  by_cases h : 0 ≤ c ∧ c < 1440
  · rw [if_pos h, clockT_len (by omega) (by omega)]; omega
  · rw [if_neg h]; exact Nat.zero_le _
theorem fd_back {y m d : Int} (h : dateB y m d = true) : fdE y m d = 0 ∧ pdE (fdT y m d) = 0 ∧ pdY (fdT y m d) = y ∧ pdM (fdT y m d) = m ∧ pdD (fdT y m d) = d := by
  obtain ⟨Y, k, D, rfl, rfl, rfl, hk, y1, y2, d2⟩ := date_nat h
  have := hk.m2
  obtain ⟨h1, h2, h3, h4⟩ := date_back (y := Y) (m := k) (d := D) (by omega) (by omega) (by omega)
  have hT : fdT (Y : Int) (k : Int) (D : Int) = dateT Y k D := by unfold fdT; rw [if_pos h]; rfl
  unfold fdE pdE pdY pdM pdD pdO
  rw [hT, h1, h2, h3, h4, h]
  exact ⟨rfl, rfl, rfl, rfl, rfl⟩
theorem fc_back {c : Int} (h : 0 ≤ c ∧ c < 1440) : fcE c = 0 ∧ pcE (fcT c) = 0 ∧ pcV (fcT c) = c := by
  obtain ⟨h1, h2, h3⟩ := clock_back (h := (c / 60).toNat) (m := (c % 60).toNat) (by omega) (by omega)
  have hT : fcT c = clockT (c / 60).toNat (c % 60).toNat := by unfold fcT; rw [if_pos h]
  unfold fcE pcE pcV
  rw [hT, h1, h2, h3, if_pos h, if_pos rfl, if_pos rfl, if_pos ⟨by omega, by omega⟩, if_pos ⟨by omega, by omega⟩]
  exact ⟨rfl, rfl, by omega⟩

structure Keep (w w' : World) : Prop where
  t : MonT w'
  p : PowT w'
  b : Below w.heap.size w w'
theorem Keep.call {w w1 w2 : World} (h : Keep w w1) (g : Below w1.heap.size w1 w2) : Keep w w2 := ⟨h.t.below g (Nat.le_refl _), h.p.below g (Nat.le_refl _), h.b.trans (g.mono h.b.size)⟩
theorem Keep.alloc {w w1 : World} (h : Keep w w1) (o : Obj) : Keep w (w1.alloc o) := ⟨h.t.box o, h.p.box o, h.b.alloc h.b.size o⟩
theorem Keep.start {w : World} (h : MonT w) (h2 : PowT w) : Keep w w := ⟨h, h2, Below.refl _ _⟩
theorem BoxD.lt {w : World} {b : Nat} {y m d : Int} (h : BoxD w b y m d) : b < w.heap.size := World.block_lt_of_cell? _ _ h.1
theorem BoxD.call {w w' : World} {b : Nat} {y m d : Int} (h : BoxD w b y m d) (g : Below w.heap.size w w') : BoxD w' b y m d := h.below g h.lt
theorem BoxD.more {w : World} {b : Nat} {y m d : Int} (h : BoxD w b y m d) (o : Obj) : BoxD (w.alloc o) b y m d := h.alloc h.lt o

set_option maxHeartbeats 4000000 in
set_option maxRecDepth 1000000 in
theorem calendarDates_any (l : List UInt8) (hl : l.length ≤ 9223372036854775807) (r : List UInt8) (hr : r.length ≤ 9223372036854775807) (y m d : Int) (hd : (-9223372036854775808 ≤ y ∧ y ≤ 9223372036854775807) ∧ (-9223372036854775808 ≤ m ∧ m ≤ 9223372036854775807) ∧ (-9223372036854775808 ≤ d ∧ d ≤ 9223372036854775807)) (c : Int) (w : World) (hT : MonT w) (hP : PowT w) :
    Calls Tryd.prog 7 #[.string ⟨l.toArray⟩, .string ⟨r.toArray⟩, .agg #[.int .i64 y, .int .i64 m, .int .i64 d], .int .i64 c] w (RetB1 w true) := by
  have hp1 := fun w hT => parseDate_any l hl w hT
  have hr1 := rparseDate_any l hl
  have hp2 := fun w hT hP => formatDate_any y m d hd.1.1 hd.1.2 w hT hP
  have hr2 := fun w hP => rformatDate_any y m d w hP
  have hp3 := parseClock_any r hr
  have hr3 := rparseClock_any r hr
  have hp4 := fun w hP => formatClock_any c w hP
  have hr4 := fun w hP => rformatClock_any c w hP
  have hp5 := fun w hT => parseDate_any (fdT y m d) (by have := fd_len y m d; omega) w hT
  have hp6 := parseClock_any (fcT c) (by have := fc_len c; omega)
  have hb5 := @fd_back y m d
  have hb6 := @fc_back c
  have hn5 : dateB y m d = false → fdE y m d = 5 := fun h => by unfold fdE; rw [h]; rfl
  have hn6 : ¬ (0 ≤ c ∧ c < 1440) → fcE c = 5 := fun h => by unfold fcE; rw [if_neg h]
  unfold RetPD at hp1 hr1 hp5
  unfold RetTE at hp2 hr2 hp4 hr4
  unfold RetNE at hp3 hr3 hp6
  obtain ⟨A1, HA1⟩ : ∃ v, Hid (pdY l = v) := ⟨_, rfl⟩
  obtain ⟨A2, HA2⟩ : ∃ v, Hid (pdM l = v) := ⟨_, rfl⟩
  obtain ⟨A3, HA3⟩ : ∃ v, Hid (pdD l = v) := ⟨_, rfl⟩
  obtain ⟨E1, HE1⟩ : ∃ v, Hid (pdE l = v) := ⟨_, rfl⟩
  obtain ⟨V3, HV3⟩ : ∃ v, Hid (pcV r = v) := ⟨_, rfl⟩
  obtain ⟨E3, HE3⟩ : ∃ v, Hid (pcE r = v) := ⟨_, rfl⟩
  simp only [HA1.out, HA2.out, HA3.out, HE1.out] at hp1 hr1
  simp only [HV3.out, HE3.out] at hp3 hr3
  obtain ⟨S2, HS2⟩ : ∃ v, Hid (fdT y m d = v) := ⟨_, rfl⟩
  obtain ⟨S4, HS4⟩ : ∃ v, Hid (fcT c = v) := ⟨_, rfl⟩
  simp only [HS2.out] at hp2 hr2 hp5 hb5
  simp only [HS4.out] at hp4 hr4 hp6 hb6
  obtain ⟨Q1, HQ1⟩ : ∃ v, Hid (pdY S2 = v) := ⟨_, rfl⟩
  obtain ⟨Q2, HQ2⟩ : ∃ v, Hid (pdM S2 = v) := ⟨_, rfl⟩
  obtain ⟨Q3, HQ3⟩ : ∃ v, Hid (pdD S2 = v) := ⟨_, rfl⟩
  obtain ⟨E5, HE5⟩ : ∃ v, Hid (pdE S2 = v) := ⟨_, rfl⟩
  obtain ⟨V6, HV6⟩ : ∃ v, Hid (pcV S4 = v) := ⟨_, rfl⟩
  obtain ⟨E6, HE6⟩ : ∃ v, Hid (pcE S4 = v) := ⟨_, rfl⟩
  simp only [HQ1.out, HQ2.out, HQ3.out, HE5.out] at hp5 hb5
  simp only [HV6.out, HE6.out] at hp6 hb6
  obtain ⟨E2, HE2⟩ : ∃ v, Hid (fdE y m d = v) := ⟨_, rfl⟩
  obtain ⟨E4, HE4⟩ : ∃ v, Hid (fcE c = v) := ⟨_, rfl⟩
  simp only [HE2.out] at hp2 hr2 hb5 hn5
  simp only [HE4.out] at hp4 hr4 hb6 hn6
  have K0 := Lib.hid ((Keep.start hT hP).alloc (.cells #[Value.int IntKind.i64 y, Value.int IntKind.i64 m, Value.int IntKind.i64 d] 23))
  have D0 := Lib.hid (box_new w y m d 23)
  clear hT hP hd hl hr
  cases hB : dateB y m d with
  | true =>
    obtain ⟨rfl, rfl, q1, q2, q3⟩ := hb5 hB
    simp only [q1, q2, q3] at hp5
    clear hb5 hn5 hB q1 q2 q3
    by_cases hC : 0 ≤ c ∧ c < 1440
    · obtain ⟨rfl, rfl, q4⟩ := hb6 hC
      simp only [q4] at hp6
      clear hb6 hn6 hC q4
      go_enter Tryd.func7, Tryd.ntmps7
      go_wp2_with (first
        | (go_at_call 23; first
            | ((with_reducible refine (hp1 _ K0.out.t).mono ?_); rintro e w1 ⟨rfl, g1⟩; have K1 := Lib.hid ((K0.out.call g1).alloc (.cells #[Value.int IntKind.i64 A1, Value.int IntKind.i64 A2, Value.int IntKind.i64 A3] 23)); have D1 := Lib.hid ((D0.out.call g1).more (.cells #[Value.int IntKind.i64 A1, Value.int IntKind.i64 A2, Value.int IntKind.i64 A3] 23)); have A_1 := Lib.hid (box_new w1 A1 A2 A3 23); clear g1)
            | ((with_reducible refine (hp5 _ K8.out.t).mono ?_); rintro e w9 ⟨rfl, g9⟩; have K9 := Lib.hid ((K8.out.call g9).alloc (.cells #[Value.int IntKind.i64 y, Value.int IntKind.i64 m, Value.int IntKind.i64 d] 23)); obtain ⟨n0, n1, n2⟩ := (D8.out.call g9).more (.cells #[Value.int IntKind.i64 y, Value.int IntKind.i64 m, Value.int IntKind.i64 d] 23); clear g9))
        | (go_at_call 24; (with_reducible refine (hr1 _).mono ?_); rintro e w2 ⟨rfl, g2⟩; have K2 := Lib.hid ((K1.out.call g2).alloc (.cells #[Value.int IntKind.i64 A1, Value.int IntKind.i64 A2, Value.int IntKind.i64 A3] 23)); have D2 := Lib.hid ((D1.out.call g2).more (.cells #[Value.int IntKind.i64 A1, Value.int IntKind.i64 A2, Value.int IntKind.i64 A3] 23)); obtain ⟨d0, d1, d2⟩ := D2.out; have A_2 := Lib.hid ((A_1.out.call g2).more (.cells #[Value.int IntKind.i64 A1, Value.int IntKind.i64 A2, Value.int IntKind.i64 A3] 23)); have B_2 := Lib.hid (box_new w2 A1 A2 A3 23); clear g2)
        | (go_at_call 25; (with_reducible refine (hp2 _ K2.out.t K2.out.p).mono ?_); rintro e w3 ⟨rfl, g3⟩; have K3 := Lib.hid (K2.out.call g3); have D3 := Lib.hid (D2.out.call g3); obtain ⟨f0, f1, f2⟩ := D3.out; have A_3 := Lib.hid (A_2.out.call g3); have B_3 := Lib.hid (B_2.out.call g3); clear g3)
        | (go_at_call 26; (with_reducible refine (hr2 _ K3.out.p).mono ?_); rintro e w4 ⟨rfl, g4⟩; have K4 := Lib.hid (K3.out.call g4); have D4 := Lib.hid (D3.out.call g4); obtain ⟨a0, a1, a2⟩ := A_3.out.call g4; obtain ⟨b0, b1, b2⟩ := B_3.out.call g4; clear g4)
        | (go_at_call 27; first
            | ((with_reducible refine (hp3 _).mono ?_); rintro e w5 ⟨rfl, g5⟩; have K5 := Lib.hid (K4.out.call g5); have D5 := Lib.hid (D4.out.call g5); clear g5)
            | ((with_reducible refine (hp6 _).mono ?_); rintro e w10 ⟨rfl, g10⟩; have K10 := Lib.hid (K9.out.call g10); clear g10))
        | (go_at_call 28; (with_reducible refine (hr3 _).mono ?_); rintro e w6 ⟨rfl, g6⟩; have K6 := Lib.hid (K5.out.call g6); have D6 := Lib.hid (D5.out.call g6); clear g6)
        | (go_at_call 29; (with_reducible refine (hp4 _ K6.out.p).mono ?_); rintro e w7 ⟨rfl, g7⟩; have K7 := Lib.hid (K6.out.call g7); have D7 := Lib.hid (D6.out.call g7); clear g7)
        | (go_at_call 30; (with_reducible refine (hr4 _ K7.out.p).mono ?_); rintro e w8 ⟨rfl, g8⟩; have K8 := Lib.hid (K7.out.call g8); have D8 := Lib.hid (D7.out.call g8); clear g8)
        | (go_at_call 16; (with_reducible refine (awake6_any _ K10.out.t).mono ?_); rintro e w11 ⟨rfl, g11⟩; have K11 := Lib.hid (K10.out.call g11))
        | fail)
      go_ret
      exact ⟨rfl, K11.out.b⟩
    · obtain rfl := hn6 hC
      clear hb6 hn6 hC
      go_enter Tryd.func7, Tryd.ntmps7
      go_wp2_with (first
        | (go_at_call 23; first
            | ((with_reducible refine (hp1 _ K0.out.t).mono ?_); rintro e w1 ⟨rfl, g1⟩; have K1 := Lib.hid ((K0.out.call g1).alloc (.cells #[Value.int IntKind.i64 A1, Value.int IntKind.i64 A2, Value.int IntKind.i64 A3] 23)); have D1 := Lib.hid ((D0.out.call g1).more (.cells #[Value.int IntKind.i64 A1, Value.int IntKind.i64 A2, Value.int IntKind.i64 A3] 23)); have A_1 := Lib.hid (box_new w1 A1 A2 A3 23); clear g1)
            | ((with_reducible refine (hp5 _ K8.out.t).mono ?_); rintro e w9 ⟨rfl, g9⟩; have K9 := Lib.hid ((K8.out.call g9).alloc (.cells #[Value.int IntKind.i64 y, Value.int IntKind.i64 m, Value.int IntKind.i64 d] 23)); obtain ⟨n0, n1, n2⟩ := (D8.out.call g9).more (.cells #[Value.int IntKind.i64 y, Value.int IntKind.i64 m, Value.int IntKind.i64 d] 23); clear g9))
        | (go_at_call 24; (with_reducible refine (hr1 _).mono ?_); rintro e w2 ⟨rfl, g2⟩; have K2 := Lib.hid ((K1.out.call g2).alloc (.cells #[Value.int IntKind.i64 A1, Value.int IntKind.i64 A2, Value.int IntKind.i64 A3] 23)); have D2 := Lib.hid ((D1.out.call g2).more (.cells #[Value.int IntKind.i64 A1, Value.int IntKind.i64 A2, Value.int IntKind.i64 A3] 23)); obtain ⟨d0, d1, d2⟩ := D2.out; have A_2 := Lib.hid ((A_1.out.call g2).more (.cells #[Value.int IntKind.i64 A1, Value.int IntKind.i64 A2, Value.int IntKind.i64 A3] 23)); have B_2 := Lib.hid (box_new w2 A1 A2 A3 23); clear g2)
        | (go_at_call 25; (with_reducible refine (hp2 _ K2.out.t K2.out.p).mono ?_); rintro e w3 ⟨rfl, g3⟩; have K3 := Lib.hid (K2.out.call g3); have D3 := Lib.hid (D2.out.call g3); obtain ⟨f0, f1, f2⟩ := D3.out; have A_3 := Lib.hid (A_2.out.call g3); have B_3 := Lib.hid (B_2.out.call g3); clear g3)
        | (go_at_call 26; (with_reducible refine (hr2 _ K3.out.p).mono ?_); rintro e w4 ⟨rfl, g4⟩; have K4 := Lib.hid (K3.out.call g4); have D4 := Lib.hid (D3.out.call g4); obtain ⟨a0, a1, a2⟩ := A_3.out.call g4; obtain ⟨b0, b1, b2⟩ := B_3.out.call g4; clear g4)
        | (go_at_call 27; first
            | ((with_reducible refine (hp3 _).mono ?_); rintro e w5 ⟨rfl, g5⟩; have K5 := Lib.hid (K4.out.call g5); have D5 := Lib.hid (D4.out.call g5); clear g5)
            | ((with_reducible refine (hp6 _).mono ?_); rintro e w10 ⟨rfl, g10⟩; have K10 := Lib.hid (K9.out.call g10); clear g10))
        | (go_at_call 28; (with_reducible refine (hr3 _).mono ?_); rintro e w6 ⟨rfl, g6⟩; have K6 := Lib.hid (K5.out.call g6); have D6 := Lib.hid (D5.out.call g6); clear g6)
        | (go_at_call 29; (with_reducible refine (hp4 _ K6.out.p).mono ?_); rintro e w7 ⟨rfl, g7⟩; have K7 := Lib.hid (K6.out.call g7); have D7 := Lib.hid (D6.out.call g7); clear g7)
        | (go_at_call 30; (with_reducible refine (hr4 _ K7.out.p).mono ?_); rintro e w8 ⟨rfl, g8⟩; have K8 := Lib.hid (K7.out.call g8); have D8 := Lib.hid (D7.out.call g8); clear g8)
        | (go_at_call 16; (with_reducible refine (awake6_any _ K9.out.t).mono ?_); rintro e w11 ⟨rfl, g11⟩; have K11 := Lib.hid (K9.out.call g11))
        | fail)
      go_ret
      exact ⟨rfl, K11.out.b⟩
  | false =>
    obtain rfl := hn5 hB
    clear hb5 hn5 hB
    by_cases hC : 0 ≤ c ∧ c < 1440
    · obtain ⟨rfl, rfl, q4⟩ := hb6 hC
      simp only [q4] at hp6
      clear hb6 hn6 hC q4
      go_enter Tryd.func7, Tryd.ntmps7
      go_wp2_with (first
        | (go_at_call 23; first
            | ((with_reducible refine (hp1 _ K0.out.t).mono ?_); rintro e w1 ⟨rfl, g1⟩; have K1 := Lib.hid ((K0.out.call g1).alloc (.cells #[Value.int IntKind.i64 A1, Value.int IntKind.i64 A2, Value.int IntKind.i64 A3] 23)); have D1 := Lib.hid ((D0.out.call g1).more (.cells #[Value.int IntKind.i64 A1, Value.int IntKind.i64 A2, Value.int IntKind.i64 A3] 23)); have A_1 := Lib.hid (box_new w1 A1 A2 A3 23); clear g1)
            | ((with_reducible refine (hp5 _ K8.out.t).mono ?_); rintro e w9 ⟨rfl, g9⟩; have K9 := Lib.hid ((K8.out.call g9).alloc (.cells #[Value.int IntKind.i64 y, Value.int IntKind.i64 m, Value.int IntKind.i64 d] 23)); obtain ⟨n0, n1, n2⟩ := (D8.out.call g9).more (.cells #[Value.int IntKind.i64 y, Value.int IntKind.i64 m, Value.int IntKind.i64 d] 23); clear g9))
        | (go_at_call 24; (with_reducible refine (hr1 _).mono ?_); rintro e w2 ⟨rfl, g2⟩; have K2 := Lib.hid ((K1.out.call g2).alloc (.cells #[Value.int IntKind.i64 A1, Value.int IntKind.i64 A2, Value.int IntKind.i64 A3] 23)); have D2 := Lib.hid ((D1.out.call g2).more (.cells #[Value.int IntKind.i64 A1, Value.int IntKind.i64 A2, Value.int IntKind.i64 A3] 23)); obtain ⟨d0, d1, d2⟩ := D2.out; have A_2 := Lib.hid ((A_1.out.call g2).more (.cells #[Value.int IntKind.i64 A1, Value.int IntKind.i64 A2, Value.int IntKind.i64 A3] 23)); have B_2 := Lib.hid (box_new w2 A1 A2 A3 23); clear g2)
        | (go_at_call 25; (with_reducible refine (hp2 _ K2.out.t K2.out.p).mono ?_); rintro e w3 ⟨rfl, g3⟩; have K3 := Lib.hid (K2.out.call g3); have D3 := Lib.hid (D2.out.call g3); obtain ⟨f0, f1, f2⟩ := D3.out; have A_3 := Lib.hid (A_2.out.call g3); have B_3 := Lib.hid (B_2.out.call g3); clear g3)
        | (go_at_call 26; (with_reducible refine (hr2 _ K3.out.p).mono ?_); rintro e w4 ⟨rfl, g4⟩; have K4 := Lib.hid (K3.out.call g4); have D4 := Lib.hid (D3.out.call g4); obtain ⟨a0, a1, a2⟩ := A_3.out.call g4; obtain ⟨b0, b1, b2⟩ := B_3.out.call g4; clear g4)
        | (go_at_call 27; first
            | ((with_reducible refine (hp3 _).mono ?_); rintro e w5 ⟨rfl, g5⟩; have K5 := Lib.hid (K4.out.call g5); have D5 := Lib.hid (D4.out.call g5); clear g5)
            | ((with_reducible refine (hp6 _).mono ?_); rintro e w10 ⟨rfl, g10⟩; have K10 := Lib.hid (K8.out.call g10); clear g10))
        | (go_at_call 28; (with_reducible refine (hr3 _).mono ?_); rintro e w6 ⟨rfl, g6⟩; have K6 := Lib.hid (K5.out.call g6); have D6 := Lib.hid (D5.out.call g6); clear g6)
        | (go_at_call 29; (with_reducible refine (hp4 _ K6.out.p).mono ?_); rintro e w7 ⟨rfl, g7⟩; have K7 := Lib.hid (K6.out.call g7); have D7 := Lib.hid (D6.out.call g7); clear g7)
        | (go_at_call 30; (with_reducible refine (hr4 _ K7.out.p).mono ?_); rintro e w8 ⟨rfl, g8⟩; have K8 := Lib.hid (K7.out.call g8); have D8 := Lib.hid (D7.out.call g8); clear g8)
        | (go_at_call 16; (with_reducible refine (awake6_any _ K10.out.t).mono ?_); rintro e w11 ⟨rfl, g11⟩; have K11 := Lib.hid (K10.out.call g11))
        | fail)
      go_ret
      exact ⟨rfl, K11.out.b⟩
    · obtain rfl := hn6 hC
      clear hb6 hn6 hC
      go_enter Tryd.func7, Tryd.ntmps7
      go_wp2_with (first
        | (go_at_call 23; first
            | ((with_reducible refine (hp1 _ K0.out.t).mono ?_); rintro e w1 ⟨rfl, g1⟩; have K1 := Lib.hid ((K0.out.call g1).alloc (.cells #[Value.int IntKind.i64 A1, Value.int IntKind.i64 A2, Value.int IntKind.i64 A3] 23)); have D1 := Lib.hid ((D0.out.call g1).more (.cells #[Value.int IntKind.i64 A1, Value.int IntKind.i64 A2, Value.int IntKind.i64 A3] 23)); have A_1 := Lib.hid (box_new w1 A1 A2 A3 23); clear g1)
            | ((with_reducible refine (hp5 _ K8.out.t).mono ?_); rintro e w9 ⟨rfl, g9⟩; have K9 := Lib.hid ((K8.out.call g9).alloc (.cells #[Value.int IntKind.i64 y, Value.int IntKind.i64 m, Value.int IntKind.i64 d] 23)); obtain ⟨n0, n1, n2⟩ := (D8.out.call g9).more (.cells #[Value.int IntKind.i64 y, Value.int IntKind.i64 m, Value.int IntKind.i64 d] 23); clear g9))
        | (go_at_call 24; (with_reducible refine (hr1 _).mono ?_); rintro e w2 ⟨rfl, g2⟩; have K2 := Lib.hid ((K1.out.call g2).alloc (.cells #[Value.int IntKind.i64 A1, Value.int IntKind.i64 A2, Value.int IntKind.i64 A3] 23)); have D2 := Lib.hid ((D1.out.call g2).more (.cells #[Value.int IntKind.i64 A1, Value.int IntKind.i64 A2, Value.int IntKind.i64 A3] 23)); obtain ⟨d0, d1, d2⟩ := D2.out; have A_2 := Lib.hid ((A_1.out.call g2).more (.cells #[Value.int IntKind.i64 A1, Value.int IntKind.i64 A2, Value.int IntKind.i64 A3] 23)); have B_2 := Lib.hid (box_new w2 A1 A2 A3 23); clear g2)
        | (go_at_call 25; (with_reducible refine (hp2 _ K2.out.t K2.out.p).mono ?_); rintro e w3 ⟨rfl, g3⟩; have K3 := Lib.hid (K2.out.call g3); have D3 := Lib.hid (D2.out.call g3); obtain ⟨f0, f1, f2⟩ := D3.out; have A_3 := Lib.hid (A_2.out.call g3); have B_3 := Lib.hid (B_2.out.call g3); clear g3)
        | (go_at_call 26; (with_reducible refine (hr2 _ K3.out.p).mono ?_); rintro e w4 ⟨rfl, g4⟩; have K4 := Lib.hid (K3.out.call g4); have D4 := Lib.hid (D3.out.call g4); obtain ⟨a0, a1, a2⟩ := A_3.out.call g4; obtain ⟨b0, b1, b2⟩ := B_3.out.call g4; clear g4)
        | (go_at_call 27; first
            | ((with_reducible refine (hp3 _).mono ?_); rintro e w5 ⟨rfl, g5⟩; have K5 := Lib.hid (K4.out.call g5); have D5 := Lib.hid (D4.out.call g5); clear g5)
            | ((with_reducible refine (hp6 _).mono ?_); rintro e w10 ⟨rfl, g10⟩; have K10 := Lib.hid (K8.out.call g10); clear g10))
        | (go_at_call 28; (with_reducible refine (hr3 _).mono ?_); rintro e w6 ⟨rfl, g6⟩; have K6 := Lib.hid (K5.out.call g6); have D6 := Lib.hid (D5.out.call g6); clear g6)
        | (go_at_call 29; (with_reducible refine (hp4 _ K6.out.p).mono ?_); rintro e w7 ⟨rfl, g7⟩; have K7 := Lib.hid (K6.out.call g7); have D7 := Lib.hid (D6.out.call g7); clear g7)
        | (go_at_call 30; (with_reducible refine (hr4 _ K7.out.p).mono ?_); rintro e w8 ⟨rfl, g8⟩; have K8 := Lib.hid (K7.out.call g8); have D8 := Lib.hid (D7.out.call g8); clear g8)
        | (go_at_call 16; (with_reducible refine (awake6_any _ K8.out.t).mono ?_); rintro e w11 ⟨rfl, g11⟩; have K11 := Lib.hid (K8.out.call g11))
        | fail)
      go_ret
      exact ⟨rfl, K11.out.b⟩
end Go.Proofs.YtpcagheghmbjfaaDoor

