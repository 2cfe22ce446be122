/-
  Calendar: reading instants by the reference; the law on instants.
-/
import Derived.Test.YtpcagheghmbjfaaDoorCcA
set_option linter.unusedVariables false
set_option linter.unusedSimpArgs false
namespace Go.Proofs.YtpcagheghmbjfaaDoor
open Go.RowKit

theorem numV_of {y d : Int} {m : Nat} (h : IsD y m d) (h1 : 1999 ≤ y) (h2 : y ≤ 2100) : numV y m d = dayN y m d ∧ numE y m d = 0 := by
  unfold numV numE
  rw [if_pos (date_of h h1 h2), if_pos (date_of h h1 h2)]
  exact ⟨rfl, rfl⟩
set_option maxHeartbeats 4000000 in
set_option maxRecDepth 100000 in
theorem rparseInstant_any (l : List UInt8) (hl : l.length ≤ 9223372036854775807) (w : World) : Calls Tryd.prog 36 #[.string ⟨l.toArray⟩] w (RetNE w (piV l) (piE l)) := by
  have hsz := bsize l
  have hsyn := @pi_syn l
  have hlen : formB l instF = true → l.length = 16 := fun h => form_len h
  have hff := @form_inst l
  obtain ⟨L, HL⟩ : ∃ v, Hid (l.length = v) := ⟨_, rfl⟩
  rw [HL.out] at hsz hl hlen hff
  by_cases hL : L = 16
  · subst hL
    replace hff := hff rfl
    have hg := bget (l := l) (k := 10) (by rw [HL.out]; omega)
    obtain ⟨c, HC⟩ : ∃ v, Hid ((bAt l 10).toNat = v) := ⟨_, rfl⟩
    have hgc : ∀ h, ((⟨l.toArray⟩ : ByteArray)[10]'h).toNat = c := fun h => by rw [hg h]; exact HC.out
    rw [HC.out] at hff
    clear hg
    by_cases h32 : c = 32
    · subst h32
      rw [decide_eq_true rfl, Bool.true_and] at hff
      have x1 : (⟨l.toArray⟩ : ByteArray).extract 0 10 = ⟨(l.take 10).toArray⟩ := by rw [ext_take, List.drop_zero]
      have x2 : (⟨l.toArray⟩ : ByteArray).extract 11 16 = ⟨(l.drop 11).toArray⟩ := by rw [ext_take, List.take_of_length_le (by rw [HL.out]; omega)]
      have hd := fun w => rparseDate_any (l.take 10) (by rw [List.length_take]; omega) w
      have hc := rparseClock_any (l.drop 11) (by rw [List.length_drop, HL.out]; omega)
      unfold RetPD at hd
      have hO : piO l = (formB l instF && (dateB (pdy (l.take 10) : Int) (pdm (l.take 10) : Int) (pdd (l.take 10) : Int) && (decide (pcH (l.drop 11) < 24 ∧ pcM (l.drop 11) < 60) && decide (0 ≤ piN l ∧ piN l < 52596000)))) := rfl
      have hN : piN l = 1440 * dayN (pdy (l.take 10) : Int) (pdm (l.take 10)) (pdd (l.take 10) : Int) + (60 * (pcH (l.drop 11) : Int) + (pcM (l.drop 11) : Int)) := rfl
      have hrng := @pi_rng l
      have hgood := @pi_good l
      obtain ⟨P, HP⟩ : ∃ v, Hid (l.take 10 = v) := ⟨_, rfl⟩
      obtain ⟨Q, HQ⟩ : ∃ v, Hid (l.drop 11 = v) := ⟨_, rfl⟩
      rw [HP.out] at x1 hff hO hN
      rw [HQ.out] at x2 hff hO hN
      simp only [HP.out] at hd
      rw [HQ.out] at hc
      rcases pd_cases P with ⟨q1, q2⟩ | ⟨q0, q1, q2⟩ | ⟨q0, q1, q2, q3, q4, q5⟩
      · have hF : formB l instF = false := by rw [hff, q1]; rfl
        have HR := Lib.hid (hsyn hF)
        clear hF hff hO hN hrng hgood hsyn hlen q1
        obtain ⟨A1, HA1⟩ : ∃ v, Hid (pdY P = v) := ⟨_, rfl⟩
        obtain ⟨A2, HA2⟩ : ∃ v, Hid (pdM P = v) := ⟨_, rfl⟩
        obtain ⟨A3, HA3⟩ : ∃ v, Hid (pdD P = v) := ⟨_, rfl⟩
        simp only [q2, HA1.out, HA2.out, HA3.out] at hd
        obtain ⟨V, HV⟩ : ∃ v, Hid (pcV Q = v) := ⟨_, rfl⟩
        obtain ⟨E, HE⟩ : ∃ v, Hid (pcE Q = v) := ⟨_, rfl⟩
        rw [HV.out, HE.out] at hc
        obtain ⟨r1, r2⟩ := HR.out
        rw [r1, r2]
        clear r1 r2
        go_enter Tryd.func36, Tryd.ntmps36
        go_wp2_with (first
          | (go_at_call 24; (with_reducible refine (hd _).mono ?_); rintro e w2 ⟨rfl, g2⟩; have B2 := Lib.hid (g2.alloc g2.size (.cells #[Value.int IntKind.i64 A1, Value.int IntKind.i64 A2, Value.int IntKind.i64 A3] 23)); have D2 := Lib.hid (box_new w2 A1 A2 A3 23))
          | (go_at_call 28; (with_reducible refine (hc _).mono ?_); rintro e w3 ⟨rfl, g3⟩; have B3 := Lib.hid (ccall2 B2.out g3 B2.out.size); obtain ⟨d0, d1, d2⟩ := D2.out.call g3)
          | fail)
        go_ret2
        exact ⟨rfl, B3.out⟩
      · rcases pc_cases Q with ⟨p1, p2⟩ | ⟨p0, p1, p2⟩ | ⟨p0, p1, p2, p3⟩
        · have hF : formB l instF = false := by rw [hff, q0, p1]; rfl
          have HR := Lib.hid (hsyn hF)
          clear hF hff hO hN hrng hgood hsyn hlen q0 q1 p1
          obtain ⟨A1, HA1⟩ : ∃ v, Hid (pdY P = v) := ⟨_, rfl⟩
          obtain ⟨A2, HA2⟩ : ∃ v, Hid (pdM P = v) := ⟨_, rfl⟩
          obtain ⟨A3, HA3⟩ : ∃ v, Hid (pdD P = v) := ⟨_, rfl⟩
          simp only [q2, HA1.out, HA2.out, HA3.out] at hd
          obtain ⟨V, HV⟩ : ∃ v, Hid (pcV Q = v) := ⟨_, rfl⟩
          rw [HV.out, p2] at hc
          obtain ⟨r1, r2⟩ := HR.out
          rw [r1, r2]
          clear r1 r2
          go_enter Tryd.func36, Tryd.ntmps36
          go_wp2_with (first
            | (go_at_call 24; (with_reducible refine (hd _).mono ?_); rintro e w2 ⟨rfl, g2⟩; have B2 := Lib.hid (g2.alloc g2.size (.cells #[Value.int IntKind.i64 A1, Value.int IntKind.i64 A2, Value.int IntKind.i64 A3] 23)); have D2 := Lib.hid (box_new w2 A1 A2 A3 23))
            | (go_at_call 28; (with_reducible refine (hc _).mono ?_); rintro e w3 ⟨rfl, g3⟩; have B3 := Lib.hid (ccall2 B2.out g3 B2.out.size); obtain ⟨d0, d1, d2⟩ := D2.out.call g3)
            | fail)
          go_ret2
          exact ⟨rfl, B3.out⟩
        · have hF : formB l instF = true := by rw [hff, q0, p0]; rfl
          have HR := Lib.hid (hrng hF (by rw [hO, hF, q1]; rfl))
          clear hF hff hO hN hrng hgood hsyn hlen q0 q1 p0 p1
          obtain ⟨A1, HA1⟩ : ∃ v, Hid (pdY P = v) := ⟨_, rfl⟩
          obtain ⟨A2, HA2⟩ : ∃ v, Hid (pdM P = v) := ⟨_, rfl⟩
          obtain ⟨A3, HA3⟩ : ∃ v, Hid (pdD P = v) := ⟨_, rfl⟩
          simp only [q2, HA1.out, HA2.out, HA3.out] at hd
          obtain ⟨V, HV⟩ : ∃ v, Hid (pcV Q = v) := ⟨_, rfl⟩
          rw [HV.out, p2] at hc
          obtain ⟨r1, r2⟩ := HR.out
          rw [r1, r2]
          clear r1 r2
          go_enter Tryd.func36, Tryd.ntmps36
          go_wp2_with (first
            | (go_at_call 24; (with_reducible refine (hd _).mono ?_); rintro e w2 ⟨rfl, g2⟩; have B2 := Lib.hid (g2.alloc g2.size (.cells #[Value.int IntKind.i64 A1, Value.int IntKind.i64 A2, Value.int IntKind.i64 A3] 23)); have D2 := Lib.hid (box_new w2 A1 A2 A3 23))
            | (go_at_call 28; (with_reducible refine (hc _).mono ?_); rintro e w3 ⟨rfl, g3⟩; have B3 := Lib.hid (ccall2 B2.out g3 B2.out.size); obtain ⟨d0, d1, d2⟩ := D2.out.call g3)
            | fail)
          go_ret2
          exact ⟨rfl, B3.out⟩
        · have hF : formB l instF = true := by rw [hff, q0, p0]; rfl
          have HR := Lib.hid (hrng hF (by rw [hO, hF, q1]; rfl))
          clear hF hff hO hN hrng hgood hsyn hlen q0 q1 p0 p1 p3
          obtain ⟨A1, HA1⟩ : ∃ v, Hid (pdY P = v) := ⟨_, rfl⟩
          obtain ⟨A2, HA2⟩ : ∃ v, Hid (pdM P = v) := ⟨_, rfl⟩
          obtain ⟨A3, HA3⟩ : ∃ v, Hid (pdD P = v) := ⟨_, rfl⟩
          simp only [q2, HA1.out, HA2.out, HA3.out] at hd
          obtain ⟨V, HV⟩ : ∃ v, Hid (pcV Q = v) := ⟨_, rfl⟩
          rw [HV.out, p2] at hc
          obtain ⟨r1, r2⟩ := HR.out
          rw [r1, r2]
          clear r1 r2
          go_enter Tryd.func36, Tryd.ntmps36
          go_wp2_with (first
            | (go_at_call 24; (with_reducible refine (hd _).mono ?_); rintro e w2 ⟨rfl, g2⟩; have B2 := Lib.hid (g2.alloc g2.size (.cells #[Value.int IntKind.i64 A1, Value.int IntKind.i64 A2, Value.int IntKind.i64 A3] 23)); have D2 := Lib.hid (box_new w2 A1 A2 A3 23))
            | (go_at_call 28; (with_reducible refine (hc _).mono ?_); rintro e w3 ⟨rfl, g3⟩; have B3 := Lib.hid (ccall2 B2.out g3 B2.out.size); obtain ⟨d0, d1, d2⟩ := D2.out.call g3)
            | fail)
          go_ret2
          exact ⟨rfl, B3.out⟩
      · rcases pc_cases Q with ⟨p1, p2⟩ | ⟨p0, p1, p2⟩ | ⟨p0, p1, p2, p3⟩
        · have hF : formB l instF = false := by rw [hff, q0, p1]; rfl
          have HR := Lib.hid (hsyn hF)
          clear hF hff hO hN hrng hgood hsyn hlen q0 q1 p1 q3 q4 q5
          obtain ⟨A1, HA1⟩ : ∃ v, Hid (pdY P = v) := ⟨_, rfl⟩
          obtain ⟨A2, HA2⟩ : ∃ v, Hid (pdM P = v) := ⟨_, rfl⟩
          obtain ⟨A3, HA3⟩ : ∃ v, Hid (pdD P = v) := ⟨_, rfl⟩
          simp only [q2, HA1.out, HA2.out, HA3.out] at hd
          obtain ⟨V, HV⟩ : ∃ v, Hid (pcV Q = v) := ⟨_, rfl⟩
          rw [HV.out, p2] at hc
          obtain ⟨r1, r2⟩ := HR.out
          rw [r1, r2]
          clear r1 r2
          go_enter Tryd.func36, Tryd.ntmps36
          go_wp2_with (first
            | (go_at_call 24; (with_reducible refine (hd _).mono ?_); rintro e w2 ⟨rfl, g2⟩; have B2 := Lib.hid (g2.alloc g2.size (.cells #[Value.int IntKind.i64 A1, Value.int IntKind.i64 A2, Value.int IntKind.i64 A3] 23)); have D2 := Lib.hid (box_new w2 A1 A2 A3 23))
            | (go_at_call 28; (with_reducible refine (hc _).mono ?_); rintro e w3 ⟨rfl, g3⟩; have B3 := Lib.hid (ccall2 B2.out g3 B2.out.size); obtain ⟨d0, d1, d2⟩ := D2.out.call g3)
            | fail)
          go_ret2
          exact ⟨rfl, B3.out⟩
        · have hF : formB l instF = true := by rw [hff, q0, p0]; rfl
          have HR := Lib.hid (hrng hF (by rw [hO, hF, q1, decide_eq_false p1]; rfl))
          clear hF hff hO hN hrng hgood hsyn hlen q0 q1 p0 p1 q3 q4 q5
          obtain ⟨A1, HA1⟩ : ∃ v, Hid (pdY P = v) := ⟨_, rfl⟩
          obtain ⟨A2, HA2⟩ : ∃ v, Hid (pdM P = v) := ⟨_, rfl⟩
          obtain ⟨A3, HA3⟩ : ∃ v, Hid (pdD P = v) := ⟨_, rfl⟩
          simp only [q2, HA1.out, HA2.out, HA3.out] at hd
          obtain ⟨V, HV⟩ : ∃ v, Hid (pcV Q = v) := ⟨_, rfl⟩
          rw [HV.out, p2] at hc
          obtain ⟨r1, r2⟩ := HR.out
          rw [r1, r2]
          clear r1 r2
          go_enter Tryd.func36, Tryd.ntmps36
          go_wp2_with (first
            | (go_at_call 24; (with_reducible refine (hd _).mono ?_); rintro e w2 ⟨rfl, g2⟩; have B2 := Lib.hid (g2.alloc g2.size (.cells #[Value.int IntKind.i64 A1, Value.int IntKind.i64 A2, Value.int IntKind.i64 A3] 23)); have D2 := Lib.hid (box_new w2 A1 A2 A3 23))
            | (go_at_call 28; (with_reducible refine (hc _).mono ?_); rintro e w3 ⟨rfl, g3⟩; have B3 := Lib.hid (ccall2 B2.out g3 B2.out.size); obtain ⟨d0, d1, d2⟩ := D2.out.call g3)
            | fail)
          go_ret2
          exact ⟨rfl, B3.out⟩
        · have hF : formB l instF = true := by rw [hff, q0, p0]; rfl
          rw [hF, q1, decide_eq_true p1, Bool.true_and, Bool.true_and, Bool.true_and] at hO
          simp only [q2, q3, q4, q5] at hd
          rw [p2, p3] at hc
          have hnum := rdayNumber_any (pdy P : Int) (pdm P : Int) (pdd P : Int)
          unfold dateV at hnum
          obtain ⟨y1, y2, k, hk, hI⟩ := date_true q1
          have hk2 : k = pdm P := by omega
          subst hk2
          obtain ⟨z1, z2⟩ := numV_of hI y1 y2
          rw [z1, z2] at hnum
          have hdb := hI.years.1 ⟨y1, y2⟩
          rw [hN] at hO hgood
          obtain ⟨A1, HA1⟩ : ∃ v : Int, Hid ((pdy P : Int) = v) := ⟨_, rfl⟩
          obtain ⟨A3, HA3⟩ : ∃ v : Int, Hid ((pdd P : Int) = v) := ⟨_, rfl⟩
          obtain ⟨N, HN⟩ : ∃ v : Int, Hid (dayN (pdy P : Int) (pdm P) (pdd P : Int) = v) := ⟨_, rfl⟩
          simp only [HN.out] at hnum hdb hO hgood
          obtain ⟨A2, HA2⟩ : ∃ v : Int, Hid ((pdm P : Int) = v) := ⟨_, rfl⟩
          simp only [HA1.out, HA2.out, HA3.out] at hd hnum
          obtain ⟨V, HV⟩ : ∃ v : Int, Hid (60 * (pcH Q : Int) + (pcM Q : Int) = v) := ⟨_, rfl⟩
          have vb : 0 ≤ V ∧ V < 1440 := by have := HV.out; omega
          rw [HV.out] at hc hO hgood
          obtain ⟨n1, n2⟩ := hdb
          obtain ⟨v1, v2⟩ := vb
          have hgood2 := hgood hF
          have hrng2 := hrng hF
          clear hF hff hN hrng hgood hsyn hlen q0 q1 p0 p1 p2 p3 q2 q3 q4 q5 z1 z2 hI hk y1 y2
          by_cases hlo : 1440 * N + V < 0
          · have HR := Lib.hid (hrng2 (by rw [hO]; exact decide_eq_false (by omega)))
            rw [HR.out.1, HR.out.2]
            clear hO hgood2 hrng2
            go_enter Tryd.func36, Tryd.ntmps36
            go_wp2_with (first
              | (go_at_call 24; (with_reducible refine (hd _).mono ?_); rintro e w2 ⟨rfl, g2⟩; have B2 := Lib.hid (g2.alloc g2.size (.cells #[Value.int IntKind.i64 A1, Value.int IntKind.i64 A2, Value.int IntKind.i64 A3] 23)); have D2 := Lib.hid (box_new w2 A1 A2 A3 23))
              | (go_at_call 28; (with_reducible refine (hc _).mono ?_); rintro e w3 ⟨rfl, g3⟩; have B3 := Lib.hid (ccall2 B2.out g3 B2.out.size); obtain ⟨d0, d1, d2⟩ := D2.out.call g3)
              | (go_at_call 11; (with_reducible refine (hnum _).mono ?_); rintro e w4 ⟨rfl, g4⟩; have B4 := Lib.hid (ccall2 B3.out g4 B3.out.size))
              | fail)
            go_ret2
            exact ⟨rfl, B4.out⟩
          · have j1 : decide (1440 * N + V < 0) = false := by simpa using hlo
            by_cases hhi : 52596000 ≤ 1440 * N + V
            · have HR := Lib.hid (hrng2 (by rw [hO]; exact decide_eq_false (by omega)))
              rw [HR.out.1, HR.out.2]
              clear hO hgood2 hrng2
              go_enter Tryd.func36, Tryd.ntmps36
              go_wp2_with (first
                | (go_at_call 24; (with_reducible refine (hd _).mono ?_); rintro e w2 ⟨rfl, g2⟩; have B2 := Lib.hid (g2.alloc g2.size (.cells #[Value.int IntKind.i64 A1, Value.int IntKind.i64 A2, Value.int IntKind.i64 A3] 23)); have D2 := Lib.hid (box_new w2 A1 A2 A3 23))
                | (go_at_call 28; (with_reducible refine (hc _).mono ?_); rintro e w3 ⟨rfl, g3⟩; have B3 := Lib.hid (ccall2 B2.out g3 B2.out.size); obtain ⟨d0, d1, d2⟩ := D2.out.call g3)
                | (go_at_call 11; (with_reducible refine (hnum _).mono ?_); rintro e w4 ⟨rfl, g4⟩; have B4 := Lib.hid (ccall2 B3.out g4 B3.out.size))
                | fail)
              go_ret2
              exact ⟨rfl, B4.out⟩
            · have j2 : decide (52596000 ≤ 1440 * N + V) = false := by simpa using hhi
              have HR := Lib.hid (hgood2 (by rw [hO]; exact decide_eq_true (by omega)))
              rw [HR.out.1, HR.out.2]
              clear hO hgood2 hrng2
              go_enter Tryd.func36, Tryd.ntmps36
              go_wp2_with (first
                | (go_at_call 24; (with_reducible refine (hd _).mono ?_); rintro e w2 ⟨rfl, g2⟩; have B2 := Lib.hid (g2.alloc g2.size (.cells #[Value.int IntKind.i64 A1, Value.int IntKind.i64 A2, Value.int IntKind.i64 A3] 23)); have D2 := Lib.hid (box_new w2 A1 A2 A3 23))
                | (go_at_call 28; (with_reducible refine (hc _).mono ?_); rintro e w3 ⟨rfl, g3⟩; have B3 := Lib.hid (ccall2 B2.out g3 B2.out.size); obtain ⟨d0, d1, d2⟩ := D2.out.call g3)
                | (go_at_call 11; (with_reducible refine (hnum _).mono ?_); rintro e w4 ⟨rfl, g4⟩; have B4 := Lib.hid (ccall2 B3.out g4 B3.out.size))
                | fail)
              go_ret2
              exact ⟨rfl, B4.out⟩
    · have hF : formB l instF = false := by rw [hff, decide_eq_false h32]; simp
      obtain ⟨r1, r2⟩ := hsyn hF
      rw [r1, r2]
      have e4 : ((c : Int) == 32) = false := by simp; omega
      have e5 : ((c : Int) != 32) = true := by rw [bne, e4]; rfl
      have e6 : ¬ (c : Int) = 32 := by omega
      clear r1 r2 hF hff hsyn hlen
      go_enter Tryd.func36, Tryd.ntmps36
      go_wp2_with fail
      go_ret2
      exact ⟨rfl, Below.refl _ _⟩
  · have hF : formB l instF = false := by
      rw [Bool.eq_false_iff]; intro h; exact hL (hlen h)
    obtain ⟨r1, r2⟩ := hsyn hF
    rw [r1, r2]
    have e4 : ((L : Int) == 16) = false := by simp; omega
    have e5 : ((L : Int) != 16) = true := by rw [bne, e4]; rfl
    have e6 : ¬ (L : Int) = 16 := by omega
    clear r1 r2 hF hff hsyn hlen
    go_enter Tryd.func36, Tryd.ntmps36
    go_wp2_with fail
    go_ret2
    exact ⟨rfl, Below.refl _ _⟩

theorem fi_len (t : Int) : (fiT t).length ≤ 16 := by
  unfold fiT
  by_cases h : 0 ≤ t ∧ t < 52596000
  · obtain ⟨Y, k, D, H, M, _, _, _, hI, y1, y2, k2, d2, hN, hH, hM, h2, m2, hT⟩ := inst_fields h
    rw [if_pos h, hT]
    simp only [List.length_append, List.length_cons, List.length_nil, dateT_len (y := Y) (m := k) (d := D) (by omega) (by omega) (by omega), clockT_len (h := H) (m := M) (by omega) (by omega)]
    omega
  · rw [if_neg h]; exact Nat.zero_le _
theorem fi_back {t : Int} (h : 0 ≤ t ∧ t < 52596000) : fiE t = 0 ∧ piE (fiT t) = 0 ∧ piV (fiT t) = t := by
  refine ⟨by unfold fiE; rw [if_pos h], ?_⟩
  obtain ⟨Y, k, D, H, M, _, _, _, hI, y1, y2, k2, d2, hN, hH, hM, h2, m2, hT⟩ := inst_fields h
  have hF : fiT t = dateT Y k D ++ [32] ++ clockT H M := by unfold fiT; rw [if_pos h, hT]
  rw [hF]
  obtain ⟨f1, g1, g2, g3⟩ := date_back (y := Y) (m := k) (d := D) (by omega) (by omega) (by omega)
  obtain ⟨f2, g4, g5⟩ := clock_back (h := H) (m := M) (by omega) (by omega)
  obtain ⟨a, b, c, d, e, f, g, i, j, x, e1⟩ := list10 (dateT_len (y := Y) (m := k) (d := D) (by omega) (by omega) (by omega))
  obtain ⟨p, q, r, s, u, e2⟩ := list5 (clockT_len (h := H) (m := M) (by omega) (by omega))
  rw [e1] at f1 g1 g2 g3
  rw [e2] at f2 g4 g5
  rw [e1, e2]
  have hL : ([a, b, c, d, e, f, g, i, j, x] ++ [32] ++ [p, q, r, s, u] : List UInt8).length = 16 := rfl
  have t1 : ([a, b, c, d, e, f, g, i, j, x] ++ [32] ++ [p, q, r, s, u] : List UInt8).take 10 = [a, b, c, d, e, f, g, i, j, x] := rfl
  have t2 : ([a, b, c, d, e, f, g, i, j, x] ++ [32] ++ [p, q, r, s, u] : List UInt8).drop 11 = [p, q, r, s, u] := rfl
  have t3 : bAt ([a, b, c, d, e, f, g, i, j, x] ++ [32] ++ [p, q, r, s, u] : List UInt8) 10 = 32 := rfl
  obtain ⟨l, Hl⟩ : ∃ v, ([a, b, c, d, e, f, g, i, j, x] ++ [32] ++ [p, q, r, s, u] : List UInt8) = v := ⟨_, rfl⟩
  rw [Hl] at hL t1 t2 t3 ⊢
  have hB : formB l instF = true := by rw [form_inst hL, t1, t2, t3, f1, f2]; rfl
  have hPN : piN l = t := by
    unfold piN
    rw [t1, t2, g1, g2, g3, g4, g5, hN]; omega
  have hdB : dateB (Y : Int) (k : Int) (D : Int) = true := date_of hI (by omega) (by omega)
  have hO : piO l = true := by
    unfold piO
    rw [hB, t1, t2, g1, g2, g3, g4, g5, hdB, hPN, decide_eq_true ⟨h2, m2⟩, decide_eq_true h]; rfl
  obtain ⟨r1, r2⟩ := pi_good hB hO
  exact ⟨r2, r1.trans hPN⟩

set_option maxHeartbeats 4000000 in
set_option maxRecDepth 1000000 in
theorem calendarInstants_any (l : List UInt8) (hl : l.length ≤ 9223372036854775807) (t : Int) (u : Int) (w : World) (hT : MonT w) (hP : PowT w) :
    Calls Tryd.prog 9 #[.string ⟨l.toArray⟩, .int .i64 t, .int .i64 u] w (RetB1 w true) := by
  have hp1 := fun w hT => parseInstant_any l hl w hT
  have hr1 := rparseInstant_any l hl
  have hp2 := fun w hT hP => formatInstant_any t w hT hP
  have hr2 := fun w hP => rformatInstant_any t w hP
  have hp3 := fun w hT hP => formatInstant_any u w hT hP
  have hp4 := fun w hT => parseInstant_any (fiT t) (by have := fi_len t; omega) w hT
  unfold RetNE at hp1 hr1 hp4
  unfold RetTE at hp2 hr2 hp3
  obtain ⟨V1, HV1⟩ : ∃ v, Hid (piV l = v) := ⟨_, rfl⟩
  obtain ⟨E1, HE1⟩ : ∃ v, Hid (piE l = v) := ⟨_, rfl⟩
  simp only [HV1.out, HE1.out] at hp1 hr1
  have hless := @inst_less t u
  have hb := @fi_back t
  have hn : ¬ (0 ≤ t ∧ t < 52596000) → fiE t = 5 := fun h => by unfold fiE; rw [if_neg h]
  have hnu : ¬ (0 ≤ u ∧ u < 52596000) → fiE u = 5 := fun h => by unfold fiE; rw [if_neg h]
  have hpu : (0 ≤ u ∧ u < 52596000) → fiE u = 0 := fun h => by unfold fiE; rw [if_pos h]
  obtain ⟨S2, HS2⟩ : ∃ v, Hid (fiT t = v) := ⟨_, rfl⟩
  simp only [HS2.out] at hp2 hr2 hp4 hb hless
  obtain ⟨V4, HV4⟩ : ∃ v, Hid (piV S2 = v) := ⟨_, rfl⟩
  obtain ⟨E4, HE4⟩ : ∃ v, Hid (piE S2 = v) := ⟨_, rfl⟩
  simp only [HV4.out, HE4.out] at hp4 hb
  obtain ⟨E2, HE2⟩ : ∃ v, Hid (fiE t = v) := ⟨_, rfl⟩
  simp only [HE2.out] at hp2 hr2 hb hn
  have K0 := Lib.hid (Keep.start hT hP)
  clear hT hP hl
  by_cases htu : t = u
  · subst htu
    simp only [HS2.out, HE2.out] at hp3 hless
    by_cases hin : 0 ≤ t ∧ t < 52596000
    · obtain ⟨rfl, rfl, rfl⟩ := hb hin
      have hl2 := hless hin hin
      rw [decide_eq_false (by omega)] at hl2
      have j1 : decide (V4 < V4) = false := by simp
      clear hb hn hnu hpu hless hin
      go_enter Tryd.func9, Tryd.ntmps9
      go_wp2_with (first
        | (go_at_call 35; first
            | ((with_reducible refine (hp1 _ K0.out.t).mono ?_); rintro e w1 ⟨rfl, g1⟩; have K1 := Lib.hid (K0.out.call g1); clear g1)
            | ((with_reducible refine (hp4 _ K5.out.t).mono ?_); rintro e w6 ⟨rfl, g6⟩; have K6 := Lib.hid (K5.out.call g6); clear g6))
        | (go_at_call 36; (with_reducible refine (hr1 _).mono ?_); rintro e w2 ⟨rfl, g2⟩; have K2 := Lib.hid (K1.out.call g2); clear g2)
        | (go_at_call 37; first
            | ((with_reducible refine (hp3 _ K4.out.t K4.out.p).mono ?_); rintro e w5 ⟨rfl, g5⟩; have K5 := Lib.hid (K4.out.call g5); clear g5)
            | ((with_reducible refine (hp2 _ K2.out.t K2.out.p).mono ?_); rintro e w3 ⟨rfl, g3⟩; have K3 := Lib.hid (K2.out.call g3); clear g3))
        | (go_at_call 38; (with_reducible refine (hr2 _ K3.out.p).mono ?_); rintro e w4 ⟨rfl, g4⟩; have K4 := Lib.hid (K3.out.call g4); clear g4)
        | (go_at_call 16; (with_reducible refine (awake6_any _ K6.out.t).mono ?_); rintro e w7 ⟨rfl, g7⟩; have K7 := Lib.hid (K6.out.call g7))
        | fail)
      go_ret
      exact ⟨rfl, K7.out.b⟩
    · obtain rfl := hn hin
      clear hb hn hnu hpu hless hin
      go_enter Tryd.func9, Tryd.ntmps9
      go_wp2_with (first
        | (go_at_call 35; first
            | ((with_reducible refine (hp1 _ K0.out.t).mono ?_); rintro e w1 ⟨rfl, g1⟩; have K1 := Lib.hid (K0.out.call g1); clear g1)
            | ((with_reducible refine (hp4 _ K5.out.t).mono ?_); rintro e w6 ⟨rfl, g6⟩; have K6 := Lib.hid (K5.out.call g6); clear g6))
        | (go_at_call 36; (with_reducible refine (hr1 _).mono ?_); rintro e w2 ⟨rfl, g2⟩; have K2 := Lib.hid (K1.out.call g2); clear g2)
        | (go_at_call 37; first
            | ((with_reducible refine (hp3 _ K4.out.t K4.out.p).mono ?_); rintro e w5 ⟨rfl, g5⟩; have K5 := Lib.hid (K4.out.call g5); clear g5)
            | ((with_reducible refine (hp2 _ K2.out.t K2.out.p).mono ?_); rintro e w3 ⟨rfl, g3⟩; have K3 := Lib.hid (K2.out.call g3); clear g3))
        | (go_at_call 38; (with_reducible refine (hr2 _ K3.out.p).mono ?_); rintro e w4 ⟨rfl, g4⟩; have K4 := Lib.hid (K3.out.call g4); clear g4)
        | (go_at_call 16; (with_reducible refine (awake6_any _ K5.out.t).mono ?_); rintro e w7 ⟨rfl, g7⟩; have K7 := Lib.hid (K5.out.call g7))
        | fail)
      go_ret
      exact ⟨rfl, K7.out.b⟩
  · obtain ⟨S3, HS3⟩ : ∃ v, Hid (fiT u = v) := ⟨_, rfl⟩
    obtain ⟨E3, HE3⟩ : ∃ v, Hid (fiE u = v) := ⟨_, rfl⟩
    simp only [HS3.out, HE3.out] at hp3 hless hnu hpu
    by_cases hin : 0 ≤ t ∧ t < 52596000
    · obtain ⟨rfl, rfl, e4⟩ := hb hin
      simp only [e4] at hp4
      by_cases hiu : 0 ≤ u ∧ u < 52596000
      · obtain rfl := hpu hiu
        have hl2 := hless hin hiu
        by_cases hlt : t < u
        · rw [decide_eq_true hlt] at hl2
          clear hb hn hnu hpu hless hin hiu
          go_enter Tryd.func9, Tryd.ntmps9
          go_wp2_with (first
            | (go_at_call 35; first
                | ((with_reducible refine (hp1 _ K0.out.t).mono ?_); rintro e w1 ⟨rfl, g1⟩; have K1 := Lib.hid (K0.out.call g1); clear g1)
                | ((with_reducible refine (hp4 _ K5.out.t).mono ?_); rintro e w6 ⟨rfl, g6⟩; have K6 := Lib.hid (K5.out.call g6); clear g6))
            | (go_at_call 36; (with_reducible refine (hr1 _).mono ?_); rintro e w2 ⟨rfl, g2⟩; have K2 := Lib.hid (K1.out.call g2); clear g2)
            | (go_at_call 37; first
                | ((with_reducible refine (hp3 _ K4.out.t K4.out.p).mono ?_); rintro e w5 ⟨rfl, g5⟩; have K5 := Lib.hid (K4.out.call g5); clear g5)
                | ((with_reducible refine (hp2 _ K2.out.t K2.out.p).mono ?_); rintro e w3 ⟨rfl, g3⟩; have K3 := Lib.hid (K2.out.call g3); clear g3))
            | (go_at_call 38; (with_reducible refine (hr2 _ K3.out.p).mono ?_); rintro e w4 ⟨rfl, g4⟩; have K4 := Lib.hid (K3.out.call g4); clear g4)
            | (go_at_call 16; (with_reducible refine (awake6_any _ K6.out.t).mono ?_); rintro e w7 ⟨rfl, g7⟩; have K7 := Lib.hid (K6.out.call g7))
            | fail)
          go_ret
          exact ⟨rfl, K7.out.b⟩
        · rw [decide_eq_false hlt] at hl2
          have j1 : decide (t < u) = false := by simpa using hlt
          clear hb hn hnu hpu hless hin hiu
          go_enter Tryd.func9, Tryd.ntmps9
          go_wp2_with (first
            | (go_at_call 35; first
                | ((with_reducible refine (hp1 _ K0.out.t).mono ?_); rintro e w1 ⟨rfl, g1⟩; have K1 := Lib.hid (K0.out.call g1); clear g1)
                | ((with_reducible refine (hp4 _ K5.out.t).mono ?_); rintro e w6 ⟨rfl, g6⟩; have K6 := Lib.hid (K5.out.call g6); clear g6))
            | (go_at_call 36; (with_reducible refine (hr1 _).mono ?_); rintro e w2 ⟨rfl, g2⟩; have K2 := Lib.hid (K1.out.call g2); clear g2)
            | (go_at_call 37; first
                | ((with_reducible refine (hp3 _ K4.out.t K4.out.p).mono ?_); rintro e w5 ⟨rfl, g5⟩; have K5 := Lib.hid (K4.out.call g5); clear g5)
                | ((with_reducible refine (hp2 _ K2.out.t K2.out.p).mono ?_); rintro e w3 ⟨rfl, g3⟩; have K3 := Lib.hid (K2.out.call g3); clear g3))
            | (go_at_call 38; (with_reducible refine (hr2 _ K3.out.p).mono ?_); rintro e w4 ⟨rfl, g4⟩; have K4 := Lib.hid (K3.out.call g4); clear g4)
            | (go_at_call 16; (with_reducible refine (awake6_any _ K6.out.t).mono ?_); rintro e w7 ⟨rfl, g7⟩; have K7 := Lib.hid (K6.out.call g7))
            | fail)
          go_ret
          exact ⟨rfl, K7.out.b⟩
      · obtain rfl := hnu hiu
        clear hb hn hnu hpu hless hin hiu
        go_enter Tryd.func9, Tryd.ntmps9
        go_wp2_with (first
          | (go_at_call 35; first
              | ((with_reducible refine (hp1 _ K0.out.t).mono ?_); rintro e w1 ⟨rfl, g1⟩; have K1 := Lib.hid (K0.out.call g1); clear g1)
              | ((with_reducible refine (hp4 _ K5.out.t).mono ?_); rintro e w6 ⟨rfl, g6⟩; have K6 := Lib.hid (K5.out.call g6); clear g6))
          | (go_at_call 36; (with_reducible refine (hr1 _).mono ?_); rintro e w2 ⟨rfl, g2⟩; have K2 := Lib.hid (K1.out.call g2); clear g2)
          | (go_at_call 37; first
              | ((with_reducible refine (hp3 _ K4.out.t K4.out.p).mono ?_); rintro e w5 ⟨rfl, g5⟩; have K5 := Lib.hid (K4.out.call g5); clear g5)
              | ((with_reducible refine (hp2 _ K2.out.t K2.out.p).mono ?_); rintro e w3 ⟨rfl, g3⟩; have K3 := Lib.hid (K2.out.call g3); clear g3))
          | (go_at_call 38; (with_reducible refine (hr2 _ K3.out.p).mono ?_); rintro e w4 ⟨rfl, g4⟩; have K4 := Lib.hid (K3.out.call g4); clear g4)
          | (go_at_call 16; (with_reducible refine (awake6_any _ K5.out.t).mono ?_); rintro e w7 ⟨rfl, g7⟩; have K7 := Lib.hid (K5.out.call g7))
          | fail)
        go_ret
        exact ⟨rfl, K7.out.b⟩
    · obtain rfl := hn hin
      clear hb hn hnu hpu hless hin
      go_enter Tryd.func9, Tryd.ntmps9
      go_wp2_with (first
        | (go_at_call 35; first
            | ((with_reducible refine (hp1 _ K0.out.t).mono ?_); rintro e w1 ⟨rfl, g1⟩; have K1 := Lib.hid (K0.out.call g1); clear g1)
            | ((with_reducible refine (hp4 _ K5.out.t).mono ?_); rintro e w6 ⟨rfl, g6⟩; have K6 := Lib.hid (K5.out.call g6); clear g6))
        | (go_at_call 36; (with_reducible refine (hr1 _).mono ?_); rintro e w2 ⟨rfl, g2⟩; have K2 := Lib.hid (K1.out.call g2); clear g2)
        | (go_at_call 37; first
            | ((with_reducible refine (hp3 _ K4.out.t K4.out.p).mono ?_); rintro e w5 ⟨rfl, g5⟩; have K5 := Lib.hid (K4.out.call g5); clear g5)
            | ((with_reducible refine (hp2 _ K2.out.t K2.out.p).mono ?_); rintro e w3 ⟨rfl, g3⟩; have K3 := Lib.hid (K2.out.call g3); clear g3))
        | (go_at_call 38; (with_reducible refine (hr2 _ K3.out.p).mono ?_); rintro e w4 ⟨rfl, g4⟩; have K4 := Lib.hid (K3.out.call g4); clear g4)
        | (go_at_call 16; (with_reducible refine (awake6_any _ K5.out.t).mono ?_); rintro e w7 ⟨rfl, g7⟩; have K7 := Lib.hid (K5.out.call g7))
        | fail)
      go_ret
      exact ⟨rfl, K7.out.b⟩
end Go.Proofs.YtpcagheghmbjfaaDoor

