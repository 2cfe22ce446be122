/-
  Texts of fractions: the program's Parse.
-/
import Derived.Test.YtekoeohkkabkdaaGreatTeF
set_option linter.unusedVariables false
set_option linter.unusedSimpArgs false
set_option warningAsError false
namespace Go.Proofs.YtekoeohkkabkdaaGreat
open Go.RowKit

theorem qr_int (k : Int) : rn k 1 = k ∧ rd k 1 = 1 := r_self (by decide) (by rw [Int.gcd_one])
def pfE (l : List UInt8) : Int := if 400 < l.length then 10 else if ctF47 l = true then pqE (ct147 l) (ct247 l) else if ctF46 l = true then pdE (ct146 l) (ct246 l) else parE l
def pfN (l : List UInt8) : Int := if 400 < l.length then 0 else if ctF47 l = true then pqN (ct147 l) (ct247 l) else if ctF46 l = true then pdN (ct146 l) (ct246 l) else if parE l = 0 then parZ l else 0
def pfD (l : List UInt8) : Int := if 400 < l.length then 0 else if ctF47 l = true then pqD (ct147 l) (ct247 l) else if ctF46 l = true then pdD (ct146 l) (ct246 l) else if parE l = 0 then 1 else 0
theorem ct_len47 {l : List UInt8} (h : ctF47 l = true) : (ct147 l).length ≤ l.length ∧ (ct247 l).length + 1 ≤ l.length := by
  have h0 : 0 ≤ fx l 47 := of_decide_eq_true h
  have h1 := fx_hi l 47
  unfold ct147 ct247
  rw [if_pos h0, if_pos h0, List.length_take, List.length_drop]
  omega
theorem ct_len46 {l : List UInt8} (h : ctF46 l = true) : (ct146 l).length ≤ l.length ∧ (ct246 l).length + 1 ≤ l.length := by
  have h0 : 0 ≤ fx l 46 := of_decide_eq_true h
  have h1 := fx_hi l 46
  unfold ct146 ct246
  rw [if_pos h0, if_pos h0, List.length_take, List.length_drop]
  omega
theorem parE_01 {l : List UInt8} (h : ¬ 400 < l.length) : parE l = 0 ∨ parE l = 1 := by
  unfold parE
  rw [if_neg h]
  split
  · exact .inl rfl
  · exact .inr rfl
/-- The five ways of a text. -/
theorem pf_cases (l : List UInt8) :
    (400 < l.length ∧ pfN l = 0 ∧ pfD l = 0 ∧ pfE l = 10) ∨
    (¬ 400 < l.length ∧ ctF47 l = true ∧ pfN l = pqN (ct147 l) (ct247 l) ∧ pfD l = pqD (ct147 l) (ct247 l) ∧ pfE l = pqE (ct147 l) (ct247 l)) ∨
    (¬ 400 < l.length ∧ ctF47 l = false ∧ ctF46 l = true ∧ pfN l = pdN (ct146 l) (ct246 l) ∧ pfD l = pdD (ct146 l) (ct246 l) ∧ pfE l = pdE (ct146 l) (ct246 l)) ∨
    (¬ 400 < l.length ∧ ctF47 l = false ∧ ctF46 l = false ∧ parE l = 1 ∧ pfN l = 0 ∧ pfD l = 0 ∧ pfE l = 1) ∨
    (¬ 400 < l.length ∧ ctF47 l = false ∧ ctF46 l = false ∧ parE l = 0 ∧ pfN l = parZ l ∧ pfD l = 1 ∧ pfE l = 0) := by
  by_cases h : 400 < l.length
  · exact .inl ⟨h, by unfold pfN; rw [if_pos h], by unfold pfD; rw [if_pos h], by unfold pfE; rw [if_pos h]⟩
  · by_cases h7 : ctF47 l = true
    · exact .inr (.inl ⟨h, h7, by unfold pfN; rw [if_neg h, if_pos h7], by unfold pfD; rw [if_neg h, if_pos h7], by unfold pfE; rw [if_neg h, if_pos h7]⟩)
    · have h7' : ctF47 l = false := by simpa using h7
      by_cases h6 : ctF46 l = true
      · exact .inr (.inr (.inl ⟨h, h7', h6, by unfold pfN; rw [if_neg h, if_neg h7, if_pos h6], by unfold pfD; rw [if_neg h, if_neg h7, if_pos h6], by unfold pfE; rw [if_neg h, if_neg h7, if_pos h6]⟩))
      · have h6' : ctF46 l = false := by simpa using h6
        rcases parE_01 h with he | he
        · exact .inr (.inr (.inr (.inr ⟨h, h7', h6', he, by unfold pfN; rw [if_neg h, if_neg h7, if_neg h6, if_pos he], by unfold pfD; rw [if_neg h, if_neg h7, if_neg h6, if_pos he], by unfold pfE; rw [if_neg h, if_neg h7, if_neg h6, he]⟩)))
        · have hn : ¬ parE l = 0 := by omega
          exact .inr (.inr (.inr (.inl ⟨h, h7', h6', he, by unfold pfN; rw [if_neg h, if_neg h7, if_neg h6, if_neg hn], by unfold pfD; rw [if_neg h, if_neg h7, if_neg h6, if_neg hn], by unfold pfE; rw [if_neg h, if_neg h7, if_neg h6, he]⟩)))

set_option maxHeartbeats 8000000 in
set_option maxRecDepth 100000 in
theorem qparse_at (l : List UInt8) (hl : l.length ≤ 100000) (w : World) :
    Calls Tryz.prog 7 #[.string ⟨l.toArray⟩] w (RetFE w (pfN l) (pfD l) (pfE l)) := by
  have H0 := (St.start w).new 26 (Plains.four false none 0 0 false none 0 0)
  have HH := Lib.hid H0
  clear H0
  have hc7 := fun w' => cutS_any47 l (by omega) w'
  have hc6 := fun w' => cutS_any46 l (by omega) w'
  have pp := fun w' => parse_at l hl w'
  have zZ := parZ_sz l
  have hl7 := @ct_len47 l
  have hl6 := @ct_len46 l
  have hcs := pf_cases l
  unfold RetC347 at hc7
  unfold RetC346 at hc6
  unfold RetO at pp
  obtain ⟨P7, HP7⟩ : ∃ v, Hid (ct147 l = v) := ⟨_, rfl⟩
  obtain ⟨Q7, HQ7⟩ : ∃ v, Hid (ct247 l = v) := ⟨_, rfl⟩
  obtain ⟨F7, HF7⟩ : ∃ v, Hid (ctF47 l = v) := ⟨_, rfl⟩
  obtain ⟨P6, HP6⟩ : ∃ v, Hid (ct146 l = v) := ⟨_, rfl⟩
  obtain ⟨Q6, HQ6⟩ : ∃ v, Hid (ct246 l = v) := ⟨_, rfl⟩
  obtain ⟨F6, HF6⟩ : ∃ v, Hid (ctF46 l = v) := ⟨_, rfl⟩
  obtain ⟨Z, HZ⟩ : ∃ v, Hid (parZ l = v) := ⟨_, rfl⟩
  obtain ⟨E, HE⟩ : ∃ v, Hid (parE l = v) := ⟨_, rfl⟩
  rw [HP7.out, HQ7.out, HF7.out] at hc7 hl7
  rw [HP6.out, HQ6.out, HF6.out] at hc6 hl6
  rw [HZ.out, HE.out] at pp
  rw [HZ.out] at zZ
  have kZ := zZ.ok
  have zZ2 : Sz Z 2000 := zZ.mono (by decide)
  rw [HP7.out, HQ7.out, HF7.out, HP6.out, HQ6.out, HF6.out, HZ.out, HE.out] at hcs
  have hsz := str_size l
  obtain ⟨x, HX⟩ : ∃ v, Hid (pfN l = v) := ⟨_, rfl⟩
  obtain ⟨y, HY⟩ : ∃ v, Hid (pfD l = v) := ⟨_, rfl⟩
  obtain ⟨er, HER⟩ : ∃ v, Hid (pfE l = v) := ⟨_, rfl⟩
  rw [HX.out, HY.out, HER.out] at hcs
  rw [HX.out, HY.out, HER.out]
  obtain ⟨L, HL⟩ : ∃ v, Hid (l.length = v) := ⟨_, rfl⟩
  rw [HL.out] at hsz hl7 hl6 hcs hl
  have hri := qr_int Z
  have HRI := Lib.hid hri
  have HL7 := Lib.hid hl7
  have HL6 := Lib.hid hl6
  clear hl7 hl6 hri
  rcases hcs with ⟨h1, rfl, rfl, rfl⟩ | ⟨h1, rfl, u1, u2, u3⟩ | ⟨h1, rfl, rfl, u1, u2, u3⟩ | ⟨h1, rfl, rfl, rfl, rfl, rfl, rfl⟩ | ⟨h1, rfl, rfl, rfl, u1, u2, rfl⟩
  · have q1_ : decide ((400 : Int) < (L : Int)) = true := decide_eq_true (by omega)
    have q2_ : (400 : Int) < (L : Int) := by omega
    go_enter Tryz.func7, Tryz.ntmps7
    go_upto_region 2 with fail
    have K := HH.out
    clear HH
    have K := (K.add (CanAt.zero_ _)).add (CanAt.zero_ _)
    obtain ⟨⟨q0, q1, q2, q3⟩, _⟩ := K.facts
    obtain ⟨f0, f1, f2, f3⟩ := K.free (i := 0) rfl
    have K4 := K.put4 0 rfl false none 0 0 false none 0 0
    simp only [List.set] at K4
    obtain ⟨⟨r0, r1, r2, r3⟩, _⟩ := K4.facts
    go_wp2_with fail
    first
    | exact bodyPost_ret (v := .tuple #[.agg #[.bool (decide ((0 : Int) < 0)), .slice none 0 0, .bool (decide ((0 : Int) < 0)), .slice none 0 0], .int .i64 10]) (by simp [results, Tryz.results7, go_sem, r0, r1, r2, r3]) rfl (RetFE.of_st (x := 0) (y := 0) K4)
    | exact bodyPost_ret (v := .tuple #[.agg #[.bool (decide ((0 : Int) < 0)), .slice none 0 0, .bool (decide ((0 : Int) < 0)), .slice none 0 0], .int .i64 10]) (by simp [results, Tryz.results7, go_sem, q0, q1, q2, q3]) rfl (RetFE.of_st (x := 0) (y := 0) K)
  · have q1_ : decide ((400 : Int) < (L : Int)) = false := by simp; omega
    have q2_ : ¬ (400 : Int) < (L : Int) := by omega
    obtain ⟨t1, t2⟩ := HL7.out rfl
    have pq := fun w' => parseQuotient_at P7 Q7 (by omega) (by omega) w'
    rw [← u1, ← u2, ← u3] at pq
    unfold RetFE at pq
    clear u1 u2 u3
    go_enter Tryz.func7, Tryz.ntmps7
    go_wp2_with (first
      | (go_at_call 17; first | ((with_reducible refine (hc7 _).mono ?_); have K := HH.out; clear HH; rintro e w7 ⟨rfl, g7⟩; have K := K.call g7) | ((with_reducible refine (hc6 _).mono ?_); rintro e w6 ⟨rfl, g6⟩; have K := K.call g6))
      | (go_at_call 18; (with_reducible refine (pq _).mono ?_); rintro e w3 ⟨A3, n3, c3, A4, n4, c4, rfl, d3, d4, g3⟩; have K := ((K.call g3).add d4).add d3; obtain ⟨⟨q0, q1, q2, q3⟩, _⟩ := K.facts; obtain ⟨f0, f1, f2, f3⟩ := K.free (i := 0) rfl)
      | fail)
    have K4 := K.put4 0 rfl (decide (x < 0)) A3 n3 c3 (decide (y < 0)) A4 n4 c4
    simp only [List.set] at K4
    obtain ⟨⟨r0, r1, r2, r3⟩, _⟩ := K4.facts
    exact bodyPost_ret (v := .tuple #[.agg #[.bool (decide (x < 0)), .slice A3 n3 c3, .bool (decide (y < 0)), .slice A4 n4 c4], .int .i64 er]) (by simp [results, Tryz.results7, go_sem, r0, r1, r2, r3]) rfl (RetFE.of_st (x := x) (y := y) K4)
  · have q1_ : decide ((400 : Int) < (L : Int)) = false := by simp; omega
    have q2_ : ¬ (400 : Int) < (L : Int) := by omega
    obtain ⟨t1, t2⟩ := HL6.out rfl
    have pd := fun w' => parseDecimal_at P6 Q6 (by omega) (by omega) w'
    rw [← u1, ← u2, ← u3] at pd
    unfold RetFE at pd
    clear u1 u2 u3
    go_enter Tryz.func7, Tryz.ntmps7
    go_wp2_with (first
      | (go_at_call 17; first | ((with_reducible refine (hc7 _).mono ?_); have K := HH.out; clear HH; rintro e w7 ⟨rfl, g7⟩; have K := K.call g7) | ((with_reducible refine (hc6 _).mono ?_); rintro e w6 ⟨rfl, g6⟩; have K := K.call g6))
      | (go_at_call 19; (with_reducible refine (pd _).mono ?_); rintro e w3 ⟨A3, n3, c3, A4, n4, c4, rfl, d3, d4, g3⟩; have K := ((K.call g3).add d4).add d3; obtain ⟨⟨q0, q1, q2, q3⟩, _⟩ := K.facts; obtain ⟨f0, f1, f2, f3⟩ := K.free (i := 0) rfl)
      | fail)
    have K4 := K.put4 0 rfl (decide (x < 0)) A3 n3 c3 (decide (y < 0)) A4 n4 c4
    simp only [List.set] at K4
    obtain ⟨⟨r0, r1, r2, r3⟩, _⟩ := K4.facts
    exact bodyPost_ret (v := .tuple #[.agg #[.bool (decide (x < 0)), .slice A3 n3 c3, .bool (decide (y < 0)), .slice A4 n4 c4], .int .i64 er]) (by simp [results, Tryz.results7, go_sem, r0, r1, r2, r3]) rfl (RetFE.of_st (x := x) (y := y) K4)
  · have q1_ : decide ((400 : Int) < (L : Int)) = false := by simp; omega
    have q2_ : ¬ (400 : Int) < (L : Int) := by omega
    go_enter Tryz.func7, Tryz.ntmps7
    go_upto_region 11 with (first
      | (go_at_call 17; first | ((with_reducible refine (hc7 _).mono ?_); have K := HH.out; clear HH; rintro e w7 ⟨rfl, g7⟩; have K := K.call g7) | ((with_reducible refine (hc6 _).mono ?_); rintro e w6 ⟨rfl, g6⟩; have K := K.call g6))
      | (go_at_call 20; (with_reducible refine (pp _).mono ?_); rintro e wa ⟨A1, n1, c1, rfl, d1, ga⟩; have K := ((K.call ga).add d1).new 24 (Plains.two (decide (Z < 0)) A1 n1 c1))
      | fail)
    have K := (K.add (CanAt.zero_ _)).add (CanAt.zero_ _)
    obtain ⟨_, ⟨q0, q1, q2, q3⟩, _⟩ := K.facts
    obtain ⟨f0, f1, f2, f3⟩ := K.free (i := 1) rfl
    have K4 := K.put4 1 rfl false none 0 0 false none 0 0
    simp only [List.set] at K4
    obtain ⟨_, ⟨r0, r1, r2, r3⟩, _⟩ := K4.facts
    go_wp2_with fail
    first
    | exact bodyPost_ret (v := .tuple #[.agg #[.bool (decide ((0 : Int) < 0)), .slice none 0 0, .bool (decide ((0 : Int) < 0)), .slice none 0 0], .int .i64 1]) (by simp [results, Tryz.results7, go_sem, r0, r1, r2, r3]) rfl (RetFE.of_st (x := 0) (y := 0) K4)
    | exact bodyPost_ret (v := .tuple #[.agg #[.bool (decide ((0 : Int) < 0)), .slice none 0 0, .bool (decide ((0 : Int) < 0)), .slice none 0 0], .int .i64 1]) (by simp [results, Tryz.results7, go_sem, q0, q1, q2, q3]) rfl (RetFE.of_st (x := 0) (y := 0) K)
  · have q1_ : decide ((400 : Int) < (L : Int)) = false := by simp; omega
    have q2_ : ¬ (400 : Int) < (L : Int) := by omega
    have u1s := u1.symm
    subst u1s
    have HRJ : Hid (rd Z 1 = y) := HRI.out.2.trans u2.symm
    clear u2
    go_enter Tryz.func7, Tryz.ntmps7
    go_upto_region 12 with (first
      | (go_at_call 17; first | ((with_reducible refine (hc7 _).mono ?_); have K := HH.out; clear HH; rintro e w7 ⟨rfl, g7⟩; have K := K.call g7) | ((with_reducible refine (hc6 _).mono ?_); rintro e w6 ⟨rfl, g6⟩; have K := K.call g6))
      | (go_at_call 20; (with_reducible refine (pp _).mono ?_); rintro e wa ⟨A1, n1, c1, rfl, d1, ga⟩; have K := ((K.call ga).add d1).new 24 (Plains.two (decide (Z < 0)) A1 n1 c1))
      | fail)
    obtain ⟨⟨p0, p1⟩, _⟩ := K.facts
    have iz := K.ints.1.ci kZ
    go_wp2_with (first
      | (go_at_call 21; (with_reducible refine (fromInt_at iz zZ2).mono ?_); rw [HRI.out.1, HRJ.out]; rintro e w3 ⟨A3, n3, c3, A4, n4, c4, rfl, d3, d4, g3⟩; have K := ((K.call g3).add d4).add d3; clear p0 p1; obtain ⟨_, ⟨q0, q1, q2, q3⟩, _⟩ := K.facts; obtain ⟨f0, f1, f2, f3⟩ := K.free (i := 1) rfl)
      | fail)
    have K4 := K.put4 1 rfl (decide (Z < 0)) A3 n3 c3 (decide (y < 0)) A4 n4 c4
    simp only [List.set] at K4
    obtain ⟨_, ⟨r0, r1, r2, r3⟩, _⟩ := K4.facts
    exact bodyPost_ret (v := .tuple #[.agg #[.bool (decide (Z < 0)), .slice A3 n3 c3, .bool (decide (y < 0)), .slice A4 n4 c4], .int .i64 0]) (by simp [results, Tryz.results7, go_sem, r0, r1, r2, r3]) rfl (RetFE.of_st (x := Z) (y := y) K4)
end Go.Proofs.YtekoeohkkabkdaaGreat

