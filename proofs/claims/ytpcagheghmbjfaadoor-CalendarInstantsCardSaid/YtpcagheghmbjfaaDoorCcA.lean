/-
  Calendar: reading instants, on both sides.
-/
import Derived.Test.YtpcagheghmbjfaaDoorCaZ
set_option linter.unusedVariables false
set_option linter.unusedSimpArgs false
namespace Go.Proofs.YtpcagheghmbjfaaDoor
open Go.RowKit

def instF : List UInt8 := [48, 48, 48, 48, 45, 48, 48, 45, 48, 48, 32, 48, 48, 58, 48, 48]
theorem list16 {l : List UInt8} (h : l.length = 16) : ∃ a b c d e f g h i j k l' m n o p, l = [a, b, c, d, e, f, g, h, i, j, k, l', m, n, o, p] := by
  match l, h with
  | [a, b, c, d, e, f, g, h, i, j, k, l', m, n, o, p], _ => exact ⟨a, b, c, d, e, f, g, h, i, j, k, l', m, n, o, p, rfl⟩
theorem form_inst {l : List UInt8} (hlen : l.length = 16) : formB l instF = (formB (l.take 10) dateF && (decide ((bAt l 10).toNat = 32) && formB (l.drop 11) clockF)) := by
  obtain ⟨a, b, c, d, e, f, g, h, i, j, k, l, m, n, o, p, rfl⟩ := list16 hlen
  clear hlen
  have hk : fmOk k 32 = decide (k.toNat = 32) := rfl
  have e1 : formB [a, b, c, d, e, f, g, h, i, j, k, l, m, n, o, p] instF = (fmOk a 48 && (fmOk b 48 && (fmOk c 48 && (fmOk d 48 && (fmOk e 45 && (fmOk f 48 && (fmOk g 48 && (fmOk h 45 && (fmOk i 48 && (fmOk j 48 && (fmOk k 32 && (fmOk l 48 && (fmOk m 48 && (fmOk n 58 && (fmOk o 48 && (fmOk p 48 && true)))))))))))))))) := rfl
  have e2 : formB ([a, b, c, d, e, f, g, h, i, j, k, l, m, n, o, p].take 10) dateF = (fmOk a 48 && (fmOk b 48 && (fmOk c 48 && (fmOk d 48 && (fmOk e 45 && (fmOk f 48 && (fmOk g 48 && (fmOk h 45 && (fmOk i 48 && (fmOk j 48 && true)))))))))) := rfl
  have e3 : formB ([a, b, c, d, e, f, g, h, i, j, k, l, m, n, o, p].drop 11) clockF = (fmOk l 48 && (fmOk m 48 && (fmOk n 58 && (fmOk o 48 && (fmOk p 48 && true))))) := rfl
  rw [e1, e2, e3, show (bAt [a, b, c, d, e, f, g, h, i, j, k, l, m, n, o, p] 10) = k from rfl, ← hk]
  simp only [Bool.and_assoc, Bool.and_true, Bool.true_and]
/-- What a text denotes as an instant. -/
def piN (l : List UInt8) : Int := 1440 * dayN (pdy (l.take 10) : Int) (pdm (l.take 10)) (pdd (l.take 10) : Int) + (60 * (pcH (l.drop 11) : Int) + (pcM (l.drop 11) : Int))
def piO (l : List UInt8) : Bool := formB l instF && (dateB (pdy (l.take 10) : Int) (pdm (l.take 10) : Int) (pdd (l.take 10) : Int) && (decide (pcH (l.drop 11) < 24 ∧ pcM (l.drop 11) < 60) && decide (0 ≤ piN l ∧ piN l < 52596000)))
def piV (l : List UInt8) : Int := if piO l = true then piN l else 0
def piE (l : List UInt8) : Int := if formB l instF = true then (if piO l = true then 0 else 5) else 1
theorem pi_syn {l : List UInt8} (h : formB l instF = false) : piV l = 0 ∧ piE l = 1 := by
  unfold piV piE piO
  rw [h]; exact ⟨rfl, rfl⟩
theorem pi_rng {l : List UInt8} (h : formB l instF = true) (h2 : piO l = false) : piV l = 0 ∧ piE l = 5 := by
  unfold piV piE
  rw [h, h2]; exact ⟨rfl, rfl⟩
theorem pi_good {l : List UInt8} (h : formB l instF = true) (h2 : piO l = true) : piV l = piN l ∧ piE l = 0 := by
  unfold piV piE
  rw [h, h2]; exact ⟨rfl, rfl⟩
theorem pd_cases (p : List UInt8) : (formB p dateF = false ∧ pdE p = 1) ∨ (formB p dateF = true ∧ dateB (pdy p : Int) (pdm p : Int) (pdd p : Int) = false ∧ pdE p = 5) ∨ (formB p dateF = true ∧ dateB (pdy p : Int) (pdm p : Int) (pdd p : Int) = true ∧ pdE p = 0 ∧ pdY p = (pdy p : Int) ∧ pdM p = (pdm p : Int) ∧ pdD p = (pdd p : Int)) := by
  unfold pdE pdY pdM pdD pdO
  cases h1 : formB p dateF with
  | false => exact .inl ⟨rfl, rfl⟩
  | true =>
    cases h2 : dateB (pdy p : Int) (pdm p : Int) (pdd p : Int) with
    | false => exact .inr (.inl ⟨rfl, rfl, rfl⟩)
    | true => exact .inr (.inr ⟨rfl, rfl, rfl, rfl, rfl, rfl⟩)
theorem pc_cases (p : List UInt8) : (formB p clockF = false ∧ pcE p = 1) ∨ (formB p clockF = true ∧ ¬ (pcH p < 24 ∧ pcM p < 60) ∧ pcE p = 5) ∨ (formB p clockF = true ∧ (pcH p < 24 ∧ pcM p < 60) ∧ pcE p = 0 ∧ pcV p = 60 * (pcH p : Int) + (pcM p : Int)) := by
  unfold pcE pcV
  cases h1 : formB p clockF with
  | false => exact .inl ⟨rfl, rfl⟩
  | true =>
    by_cases h2 : pcH p < 24 ∧ pcM p < 60
    · rw [if_pos rfl, if_pos h2, if_pos rfl, if_pos h2]
      exact .inr (.inr ⟨rfl, h2, rfl, rfl⟩)
    · rw [if_pos rfl, if_neg h2]
      exact .inr (.inl ⟨rfl, h2, rfl⟩)
set_option maxHeartbeats 4000000 in
set_option maxRecDepth 100000 in
theorem parseInstant_any (l : List UInt8) (hl : l.length ≤ 9223372036854775807) (w : World) (hT : MonT w) : Calls Tryd.prog 35 #[.string ⟨l.toArray⟩] w (RetNE w (piV l) (piE l)) := by
  have hf : ∀ w, Calls Tryd.prog 49 #[.string ⟨l.toArray⟩, .string ⟨#[48, 48, 48, 48, 45, 48, 48, 45, 48, 48, 32, 48, 48, 58, 48, 48]⟩] w (RetB1 w (formB l instF)) := fun w => hasForm_any l instF hl (by decide) w
  cases hB : formB l instF with
  | false =>
    rw [hB] at hf
    obtain ⟨e1, e2⟩ := pi_syn hB
    rw [e1, e2]
    clear hB e1 e2 hT
    go_enter Tryd.func35, Tryd.ntmps35
    go_wp2_with (first
      | (go_at_call 49; (with_reducible refine (hf _).mono ?_); rintro e w1 ⟨rfl, g1⟩)
      | fail)
    go_ret2
    exact ⟨rfl, g1⟩
  | true =>
    rw [hB] at hf
    have hL : l.length = 16 := form_len hB
    have hff := form_inst hL
    rw [hB] at hff
    have hff2 := hff.symm
    simp only [Bool.and_eq_true] at hff2
    obtain ⟨f1, _, f2⟩ := hff2
    have hsz := bsize l
    rw [hL] at hsz
    have x1 : (⟨l.toArray⟩ : ByteArray).extract 0 10 = ⟨(l.take 10).toArray⟩ := by rw [ext_take, List.drop_zero]
    have x2 : (⟨l.toArray⟩ : ByteArray).extract 11 16 = ⟨(l.drop 11).toArray⟩ := by rw [ext_take, List.take_of_length_le (by omega)]
    have hd := fun w hT => parseDate_any (l.take 10) (by rw [List.length_take]; omega) w hT
    have hc := parseClock_any (l.drop 11) (by rw [List.length_drop]; omega)
    unfold RetPD at hd
    have hO : piO l = (dateB (pdy (l.take 10) : Int) (pdm (l.take 10) : Int) (pdd (l.take 10) : Int) && (decide (pcH (l.drop 11) < 24 ∧ pcM (l.drop 11) < 60) && decide (0 ≤ piN l ∧ piN l < 52596000))) := by
      unfold piO; rw [hB]; rfl
    have hN : piN l = 1440 * dayN (pdy (l.take 10) : Int) (pdm (l.take 10)) (pdd (l.take 10) : Int) + (60 * (pcH (l.drop 11) : Int) + (pcM (l.drop 11) : Int)) := rfl
    have hrng := @pi_rng l hB
    have hgood := @pi_good l hB
    have K0 := Lib.hid hT
    clear hT hff
    obtain ⟨P, HP⟩ : ∃ v, Hid (l.take 10 = v) := ⟨_, rfl⟩
    obtain ⟨Q, HQ⟩ : ∃ v, Hid (l.drop 11 = v) := ⟨_, rfl⟩
    rw [HP.out] at x1 f1 hO hN
    rw [HQ.out] at x2 f2 hO hN
    simp only [HP.out] at hd
    rw [HQ.out] at hc
    rcases pd_cases P with ⟨q1, _⟩ | ⟨_, q1, q2⟩ | ⟨_, q1, q2, q3, q4, q5⟩
    · rw [f1] at q1; exact Bool.noConfusion q1
    · rw [q1, Bool.false_and] at hO
      obtain ⟨r1, r2⟩ := hrng hO
      rw [r1, r2]
      obtain ⟨A1, HA1⟩ : ∃ v, Hid (pdY P = v) := ⟨_, rfl⟩
      obtain ⟨A2, HA2⟩ : ∃ v, Hid (pdM P = v) := ⟨_, rfl⟩
      obtain ⟨A3, HA3⟩ : ∃ v, Hid (pdD P = v) := ⟨_, rfl⟩
      simp only [q2, HA1.out, HA2.out, HA3.out] at hd
      clear hO hN hrng hgood r1 r2 q1 q2 f1 f2 hB hc
      go_enter Tryd.func35, Tryd.ntmps35
      go_wp2_with (first
        | (go_at_call 49; (with_reducible refine (hf _).mono ?_); rintro e w1 ⟨rfl, g1⟩; have T1 := Lib.hid (K0.out.below g1 (Nat.le_refl _)))
        | (go_at_call 23; (with_reducible refine (hd _ T1.out).mono ?_); rintro e w2 ⟨rfl, g2⟩; have B2 := Lib.hid ((ccallT g1 g2).alloc (ccallT g1 g2).size (.cells #[Value.int IntKind.i64 A1, Value.int IntKind.i64 A2, Value.int IntKind.i64 A3] 23)))
        | fail)
      go_ret2
      exact ⟨rfl, B2.out⟩
    · simp only [q2, q3, q4, q5] at hd
      obtain ⟨y1, y2, k, hk, hI⟩ := date_true q1
      have hk2 : k = pdm P := by omega
      subst hk2
      have hnum := fun w hT => dayNumber_any (pdy P : Int) (pdd P : Int) (pdm P) hI y1 y2 w hT
      unfold dateV at hnum
      have hdb := hI.years.1 ⟨y1, y2⟩
      rw [q1, Bool.true_and] at hO
      rcases pc_cases Q with ⟨p1, _⟩ | ⟨_, p1, p2⟩ | ⟨_, p1, p2, p3⟩
      · rw [f2] at p1; exact Bool.noConfusion p1
      · rw [decide_eq_false p1, Bool.false_and] at hO
        obtain ⟨r1, r2⟩ := hrng hO
        rw [r1, r2]
        obtain ⟨V, HV⟩ : ∃ v, Hid (pcV Q = v) := ⟨_, rfl⟩
        rw [HV.out, p2] at hc
        obtain ⟨A1, HA1⟩ : ∃ v : Int, Hid ((pdy P : Int) = v) := ⟨_, rfl⟩
        obtain ⟨A2, HA2⟩ : ∃ v : Int, Hid ((pdm P : Int) = v) := ⟨_, rfl⟩
        obtain ⟨A3, HA3⟩ : ∃ v : Int, Hid ((pdd P : Int) = v) := ⟨_, rfl⟩
        simp only [HA1.out, HA2.out, HA3.out] at hd
        clear hO hN hrng hgood r1 r2 q1 q2 f1 f2 hB p1 p2 hnum hI hdb q3 q4 q5 hk y1 y2
        go_enter Tryd.func35, Tryd.ntmps35
        go_wp2_with (first
          | (go_at_call 49; (with_reducible refine (hf _).mono ?_); rintro e w1 ⟨rfl, g1⟩; have T1 := Lib.hid (K0.out.below g1 (Nat.le_refl _)))
          | (go_at_call 23; (with_reducible refine (hd _ T1.out).mono ?_); rintro e w2 ⟨rfl, g2⟩; have B2 := Lib.hid ((ccallT g1 g2).alloc (ccallT g1 g2).size (.cells #[Value.int IntKind.i64 A1, Value.int IntKind.i64 A2, Value.int IntKind.i64 A3] 23)))
          | (go_at_call 27; (with_reducible refine (hc _).mono ?_); rintro e w3 ⟨rfl, g3⟩; have B3 := Lib.hid (ccall2 B2.out g3 B2.out.size))
          | fail)
        go_ret2
        exact ⟨rfl, B3.out⟩
      · rw [decide_eq_true p1, Bool.true_and] at hO
        rw [p2, p3] at hc
        rw [hN] at hO hgood
        obtain ⟨A1, HA1⟩ : ∃ v : Int, Hid ((pdy P : Int) = v) := ⟨_, rfl⟩
        obtain ⟨A3, HA3⟩ : ∃ v : Int, Hid ((pdd P : Int) = v) := ⟨_, rfl⟩
        obtain ⟨N, HN⟩ : ∃ v : Int, Hid (dayN (pdy P : Int) (pdm P) (pdd P : Int) = v) := ⟨_, rfl⟩
        simp only [HN.out] at hnum hdb hO hgood
        obtain ⟨A2, HA2⟩ : ∃ v : Int, Hid ((pdm P : Int) = v) := ⟨_, rfl⟩
        simp only [HA1.out, HA2.out, HA3.out] at hd hnum
        obtain ⟨V, HV⟩ : ∃ v : Int, Hid (60 * (pcH Q : Int) + (pcM Q : Int) = v) := ⟨_, rfl⟩
        have vb : 0 ≤ V ∧ V < 1440 := by have := HV.out; omega
        rw [HV.out] at hc hO hgood
        obtain ⟨n1, n2⟩ := hdb
        obtain ⟨v1, v2⟩ := vb
        have hin := isInstant_any (N * 1440 + V)
        replace hO : piO l = decide (0 ≤ N * 1440 + V ∧ N * 1440 + V < 52596000) := by rw [hO]; exact decide_eq_decide.2 (by omega)
        rw [← hO] at hin
        clear hN q1 q2 f1 f2 hB p1 p2 p3 hI q3 q4 q5 hk y1 y2 hO
        obtain ⟨O, HO⟩ : ∃ v, Hid (piO l = v) := ⟨_, rfl⟩
        rw [HO.out] at hin
        have hgood2 := fun h => hgood (HO.out.trans h)
        have hrng2 := fun h => hrng (HO.out.trans h)
        clear hgood hrng
        cases O with
        | false =>
          obtain ⟨r1, r2⟩ := hrng2 rfl
          rw [r1, r2]
          clear r1 r2 hrng2 hgood2
          go_enter Tryd.func35, Tryd.ntmps35
          go_wp2_with (first
            | (go_at_call 49; (with_reducible refine (hf _).mono ?_); rintro e w1 ⟨rfl, g1⟩; have T1 := Lib.hid (K0.out.below g1 (Nat.le_refl _)))
            | (go_at_call 23; (with_reducible refine (hd _ T1.out).mono ?_); rintro e w2 ⟨rfl, g2⟩; have B2 := Lib.hid ((ccallT g1 g2).alloc (ccallT g1 g2).size (.cells #[Value.int IntKind.i64 A1, Value.int IntKind.i64 A2, Value.int IntKind.i64 A3] 23)); have T2 := Lib.hid ((T1.out.below g2 (Nat.le_refl _)).box (.cells #[Value.int IntKind.i64 A1, Value.int IntKind.i64 A2, Value.int IntKind.i64 A3] 23)); have D2 := Lib.hid (box_new w2 A1 A2 A3 23))
            | (go_at_call 27; (with_reducible refine (hc _).mono ?_); rintro e w3 ⟨rfl, g3⟩; have B3 := Lib.hid (ccall2 B2.out g3 B2.out.size); have T3 := Lib.hid (T2.out.below g3 (Nat.le_refl _)); obtain ⟨d0, d1, d2⟩ := D2.out.call g3)
            | (go_at_call 40; (with_reducible refine (hnum _ T3.out).mono ?_); rintro e w4 ⟨rfl, g4⟩; have B4 := Lib.hid (ccall2 B3.out g4 B3.out.size))
            | (go_at_call 62; (with_reducible refine (hin _).mono ?_); rintro e w5 ⟨rfl, rfl⟩)
            | fail)
          go_ret2
          exact ⟨rfl, B4.out⟩
        | true =>
          obtain ⟨r1, r2⟩ := hgood2 rfl
          rw [r1, r2]
          have hVV : 1440 * N + V = N * 1440 + V := by omega
          rw [hVV]
          clear r1 r2 hrng2 hgood2 hVV
          go_enter Tryd.func35, Tryd.ntmps35
          go_wp2_with (first
            | (go_at_call 49; (with_reducible refine (hf _).mono ?_); rintro e w1 ⟨rfl, g1⟩; have T1 := Lib.hid (K0.out.below g1 (Nat.le_refl _)))
            | (go_at_call 23; (with_reducible refine (hd _ T1.out).mono ?_); rintro e w2 ⟨rfl, g2⟩; have B2 := Lib.hid ((ccallT g1 g2).alloc (ccallT g1 g2).size (.cells #[Value.int IntKind.i64 A1, Value.int IntKind.i64 A2, Value.int IntKind.i64 A3] 23)); have T2 := Lib.hid ((T1.out.below g2 (Nat.le_refl _)).box (.cells #[Value.int IntKind.i64 A1, Value.int IntKind.i64 A2, Value.int IntKind.i64 A3] 23)); have D2 := Lib.hid (box_new w2 A1 A2 A3 23))
            | (go_at_call 27; (with_reducible refine (hc _).mono ?_); rintro e w3 ⟨rfl, g3⟩; have B3 := Lib.hid (ccall2 B2.out g3 B2.out.size); have T3 := Lib.hid (T2.out.below g3 (Nat.le_refl _)); obtain ⟨d0, d1, d2⟩ := D2.out.call g3)
            | (go_at_call 40; (with_reducible refine (hnum _ T3.out).mono ?_); rintro e w4 ⟨rfl, g4⟩; have B4 := Lib.hid (ccall2 B3.out g4 B3.out.size))
            | (go_at_call 62; (with_reducible refine (hin _).mono ?_); rintro e w5 ⟨rfl, rfl⟩)
            | fail)
          go_ret2
          exact ⟨rfl, B4.out⟩
end Go.Proofs.YtpcagheghmbjfaaDoor

