/-
  Texts of fractions: the reference's ParseFrac, the walk.
-/
import Derived.Test.YtekoeohkkabkdaaGreatTeH
set_option linter.unusedVariables false
set_option linter.unusedSimpArgs false
set_option warningAsError false
namespace Go.Proofs.YtekoeohkkabkdaaGreat
open Go.RowKit

def RetQF (w : World) (l : List UInt8) (e : Ending) (w' : World) : Prop := RetFE w (pfN l) (pfD l) (pfE l) e w'

set_option maxHeartbeats 16000000 in
set_option maxRecDepth 100000 in
theorem rqparse_long (l : List UInt8) (hl : l.length ≤ 100000) (w : World) (h1 : 400 < l.length) :
    Calls Tryz.prog 8 #[.string ⟨l.toArray⟩] w (RetFE w (pfN l) (pfD l) (pfE l)) := by
  have H0 := (St.start w).new 26 (Plains.four false none 0 0 false none 0 0)
  have HH := Lib.hid H0
  clear H0
  have hf7 : ∀ w', Calls Tryz.prog 22 #[.string ⟨l.toArray⟩, .int .u8 47] w' (RetF0 w' (fx l 47)) := fun w' => find_any l (by omega) 47 w'
  have hf6 : ∀ w', Calls Tryz.prog 22 #[.string ⟨l.toArray⟩, .int .u8 46] w' (RetF0 w' (fx l 46)) := fun w' => find_any l (by omega) 46 w'
  unfold RetF0 at hf7 hf6
  have hsz := str_size l
  have hu : pfN l = 0 ∧ pfD l = 0 ∧ pfE l = 10 := by unfold pfN pfD pfE; rw [if_pos h1, if_pos h1, if_pos h1]; exact ⟨rfl, rfl, rfl⟩
  rw [hu.1, hu.2.1, hu.2.2]
  clear hu
  obtain ⟨L, HL⟩ : ∃ v, Hid (l.length = v) := ⟨_, rfl⟩
  rw [HL.out] at hsz h1 hl
  · have q1_ : decide ((400 : Int) < (L : Int)) = true := decide_eq_true (by omega)
    have q2_ : (400 : Int) < (L : Int) := by omega
    go_enter Tryz.func8, Tryz.ntmps8
    go_upto_region 2 with fail
    have K := HH.out
    clear HH
    have K := (K.add (CanAt.zero_ _)).add (CanAt.zero_ _)
    obtain ⟨⟨q0, q1, q2, q3⟩, _⟩ := K.facts
    obtain ⟨f0, f1, f2, f3⟩ := K.free (i := 0) rfl
    have K4 := K.put4 0 rfl false none 0 0 false none 0 0
    simp only [List.set] at K4
    obtain ⟨⟨r0, r1, r2, r3⟩, _⟩ := K4.facts
    go_wp2_with fail
    first
    | exact bodyPost_ret (v := .tuple #[.agg #[.bool (decide ((0 : Int) < 0)), .slice none 0 0, .bool (decide ((0 : Int) < 0)), .slice none 0 0], .int .i64 10]) (by simp [results, Tryz.results8, go_sem, r0, r1, r2, r3]) rfl (RetFE.of_st (x := 0) (y := 0) K4)
    | exact bodyPost_ret (v := .tuple #[.agg #[.bool (decide ((0 : Int) < 0)), .slice none 0 0, .bool (decide ((0 : Int) < 0)), .slice none 0 0], .int .i64 10]) (by simp [results, Tryz.results8, go_sem, q0, q1, q2, q3]) rfl (RetFE.of_st (x := 0) (y := 0) K)
    | exact bodyPost_ret (v := .tuple #[.agg #[.bool (decide ((0 : Int) < 0)), .slice none 0 0, .bool (decide ((0 : Int) < 0)), .slice none 0 0], .int .i64 10]) (by simp [results, Tryz.results8, go_sem, q0, q1, q2, q3]) rfl (RetFE.of_st (x := 0) (y := 0) K)

set_option maxHeartbeats 16000000 in
set_option maxRecDepth 100000 in
theorem rqparse_int (l : List UInt8) (hl : l.length ≤ 100000) (w : World) (h1 : ¬ 400 < l.length) (h7 : ctF47 l = false) (h6 : ctF46 l = false) :
    Calls Tryz.prog 8 #[.string ⟨l.toArray⟩] w (RetFE w (pfN l) (pfD l) (pfE l)) := by
  have H0 := (St.start w).new 26 (Plains.four false none 0 0 false none 0 0)
  have HH := Lib.hid H0
  clear H0
  have hf7 : ∀ w', Calls Tryz.prog 22 #[.string ⟨l.toArray⟩, .int .u8 47] w' (RetF0 w' (fx l 47)) := fun w' => find_any l (by omega) 47 w'
  have hf6 : ∀ w', Calls Tryz.prog 22 #[.string ⟨l.toArray⟩, .int .u8 46] w' (RetF0 w' (fx l 46)) := fun w' => find_any l (by omega) 46 w'
  unfold RetF0 at hf7 hf6
  have hsz := str_size l
  have hcs := pf_cases l
  rw [h7, h6] at hcs
  have m7 : fx l 47 = -1 := by
    have := fx_lo l 47
    have : ¬ 0 ≤ fx l 47 := of_decide_eq_false h7
    omega
  have m6 : fx l 46 = -1 := by
    have := fx_lo l 46
    have : ¬ 0 ≤ fx l 46 := of_decide_eq_false h6
    omega
  rw [m7] at hf7
  rw [m6] at hf6
  have pp := fun w' => rparse_at l hl w'
  have zZ := parZ_sz l
  unfold RetO at pp
  obtain ⟨Z, HZ⟩ : ∃ v, Hid (parZ l = v) := ⟨_, rfl⟩
  obtain ⟨E, HE⟩ : ∃ v, Hid (parE l = v) := ⟨_, rfl⟩
  rw [HZ.out, HE.out] at pp
  rw [HZ.out] at zZ
  rw [HZ.out, HE.out] at hcs
  have kZ := zZ.ok
  have zZ2 : Sz Z 1900 := zZ.mono (by decide)
  obtain ⟨x, HX⟩ : ∃ v, Hid (pfN l = v) := ⟨_, rfl⟩
  obtain ⟨y, HY⟩ : ∃ v, Hid (pfD l = v) := ⟨_, rfl⟩
  obtain ⟨er, HER⟩ : ∃ v, Hid (pfE l = v) := ⟨_, rfl⟩
  rw [HX.out, HY.out, HER.out] at hcs
  rw [HX.out, HY.out, HER.out]
  obtain ⟨L, HL⟩ : ∃ v, Hid (l.length = v) := ⟨_, rfl⟩
  rw [HL.out] at hsz hcs hl h1
  have HRI := Lib.hid (qr_int Z)
  rcases hcs with ⟨h1', _⟩ | ⟨_, hb, _⟩ | ⟨_, _, hb, _⟩ | ⟨_, _, _, rfl, rfl, rfl, rfl⟩ | ⟨_, _, _, rfl, u1, u2, rfl⟩
  · exact absurd h1' h1
  · exact absurd hb (by decide)
  · exact absurd hb (by decide)
  · have q1_ : decide ((400 : Int) < (L : Int)) = false := by simp; omega
    have q2_ : ¬ (400 : Int) < (L : Int) := by omega
    go_enter Tryz.func8, Tryz.ntmps8
    go_upto_region 22 with (first
      | (go_at_call_of 22 (Value.string ⟨l.toArray⟩); first | ((with_reducible refine (hf7 _).mono ?_); have K := HH.out; clear HH; rintro e w7 ⟨rfl, rfl⟩) | ((with_reducible refine (hf6 _).mono ?_); rintro e w6 ⟨rfl, rfl⟩))
      | (go_at_call 23; (with_reducible refine (pp _).mono ?_); rintro e wa ⟨A1, n1, c1, rfl, d1, ga⟩; have K := ((K.call ga).add d1).new 24 (Plains.two (decide (Z < 0)) A1 n1 c1))
      | fail)
    have K := (K.add (CanAt.zero_ _)).add (CanAt.zero_ _)
    obtain ⟨_, ⟨q0, q1, q2, q3⟩, _⟩ := K.facts
    obtain ⟨f0, f1, f2, f3⟩ := K.free (i := 1) rfl
    have K4 := K.put4 1 rfl false none 0 0 false none 0 0
    simp only [List.set] at K4
    obtain ⟨_, ⟨r0, r1, r2, r3⟩, _⟩ := K4.facts
    go_wp2_with fail
    first
    | exact bodyPost_ret (v := .tuple #[.agg #[.bool (decide ((0 : Int) < 0)), .slice none 0 0, .bool (decide ((0 : Int) < 0)), .slice none 0 0], .int .i64 1]) (by simp [results, Tryz.results8, go_sem, r0, r1, r2, r3]) rfl (RetFE.of_st (x := 0) (y := 0) K4)
    | exact bodyPost_ret (v := .tuple #[.agg #[.bool (decide ((0 : Int) < 0)), .slice none 0 0, .bool (decide ((0 : Int) < 0)), .slice none 0 0], .int .i64 1]) (by simp [results, Tryz.results8, go_sem, q0, q1, q2, q3]) rfl (RetFE.of_st (x := 0) (y := 0) K)
  · have q1_ : decide ((400 : Int) < (L : Int)) = false := by simp; omega
    have q2_ : ¬ (400 : Int) < (L : Int) := by omega
    have u1s := u1.symm
    subst u1s
    have HRJ : Hid (rd Z 1 = y) := HRI.out.2.trans u2.symm
    clear u2
    go_enter Tryz.func8, Tryz.ntmps8
    go_upto_region 23 with (first
      | (go_at_call_of 22 (Value.string ⟨l.toArray⟩); first | ((with_reducible refine (hf7 _).mono ?_); have K := HH.out; clear HH; rintro e w7 ⟨rfl, rfl⟩) | ((with_reducible refine (hf6 _).mono ?_); rintro e w6 ⟨rfl, rfl⟩))
      | (go_at_call 23; (with_reducible refine (pp _).mono ?_); rintro e wa ⟨A1, n1, c1, rfl, d1, ga⟩; have K := ((K.call ga).add d1).new 24 (Plains.two (decide (Z < 0)) A1 n1 c1))
      | fail)
    obtain ⟨⟨p0, p1⟩, _⟩ := K.facts
    have iz := K.ints.1.ci kZ
    go_wp2_with (first
      | (go_at_call 30; (with_reducible refine (rfromInt_at iz zZ2).mono ?_); rw [HRI.out.1, HRJ.out]; rintro e w3 ⟨A3, n3, c3, A4, n4, c4, rfl, d3, d4, g3⟩; have K := ((K.call g3).add d4).add d3; clear p0 p1; obtain ⟨_, ⟨q0, q1, q2, q3⟩, _⟩ := K.facts; obtain ⟨f0, f1, f2, f3⟩ := K.free (i := 1) rfl)
      | fail)
    have K4 := K.put4 1 rfl (decide (Z < 0)) A3 n3 c3 (decide (y < 0)) A4 n4 c4
    simp only [List.set] at K4
    obtain ⟨_, ⟨r0, r1, r2, r3⟩, _⟩ := K4.facts
    exact bodyPost_ret (v := .tuple #[.agg #[.bool (decide (Z < 0)), .slice A3 n3 c3, .bool (decide (y < 0)), .slice A4 n4 c4], .int .i64 0]) (by simp [results, Tryz.results8, go_sem, r0, r1, r2, r3]) rfl (RetFE.of_st (x := Z) (y := y) K4)

set_option maxHeartbeats 16000000 in
set_option maxRecDepth 100000 in
theorem rqparse_quo (l : List UInt8) (hl : l.length ≤ 100000) (w : World) (h1 : ¬ 400 < l.length) (h7 : ctF47 l = true) :
    Calls Tryz.prog 8 #[.string ⟨l.toArray⟩] w (RetFE w (pfN l) (pfD l) (pfE l)) := by
  have H0 := (St.start w).new 26 (Plains.four false none 0 0 false none 0 0)
  have HH := Lib.hid H0
  clear H0
  have hf7 : ∀ w', Calls Tryz.prog 22 #[.string ⟨l.toArray⟩, .int .u8 47] w' (RetF0 w' (fx l 47)) := fun w' => find_any l (by omega) 47 w'
  have hf6 : ∀ w', Calls Tryz.prog 22 #[.string ⟨l.toArray⟩, .int .u8 46] w' (RetF0 w' (fx l 46)) := fun w' => find_any l (by omega) 46 w'
  unfold RetF0 at hf7 hf6
  have hsz := str_size l
  have hu : pfN l = pqN (ct147 l) (ct247 l) ∧ pfD l = pqD (ct147 l) (ct247 l) ∧ pfE l = pqE (ct147 l) (ct247 l) := by unfold pfN pfD pfE; rw [if_neg h1, if_neg h1, if_neg h1, if_pos h7, if_pos h7, if_pos h7]; exact ⟨rfl, rfl, rfl⟩
  rw [hu.1, hu.2.1, hu.2.2]
  clear hu hf6
  have hge : 0 ≤ fx l 47 := of_decide_eq_true h7
  have HF := hf7
  clear hf7
  obtain ⟨i, hii⟩ : ∃ i : Nat, fx l 47 = (i : Int) := ⟨(fx l 47).toNat, by omega⟩
  have hhi := fx_hi l 47
  have hP : ct147 l = l.take i := by unfold ct147; rw [if_pos hge, hii, Int.toNat_natCast]
  have hQ : ct247 l = l.drop (i + 1) := by unfold ct247; rw [if_pos hge, hii, Int.toNat_natCast]
  rw [hii] at HF hhi
  obtain ⟨P, HP⟩ : ∃ v, Hid (ct147 l = v) := ⟨_, rfl⟩
  obtain ⟨Q, HQ⟩ : ∃ v, Hid (ct247 l = v) := ⟨_, rfl⟩
  rw [HP.out] at hP
  rw [HQ.out] at hQ
  have hPl : P.length ≤ 400 := by rw [hP, List.length_take]; omega
  have hQl : Q.length ≤ 399 := by rw [hQ, List.length_drop]; omega
  obtain ⟨L, HL⟩ : ∃ v, Hid (l.length = v) := ⟨_, rfl⟩
  rw [HL.out] at hsz hhi h1 hl
  have hiL : i < L := by omega
  have x1_ : (⟨l.toArray⟩ : ByteArray).extract 0 i = ⟨P.toArray⟩ := by rw [extract_data, List.drop_zero, hP]
  have x2_ : (⟨l.toArray⟩ : ByteArray).extract (i + 1) L = ⟨Q.toArray⟩ := by rw [extract_data, List.take_of_length_le (by rw [HL.out]; exact Nat.le_refl _), hQ]
  clear hP hQ
  have s1 : (0 : Int) ≤ (i : Int) := by omega
  have s2 : (i : Int) ≤ (L : Int) := by omega
  have s3 : (i : Int) + 1 ≤ (L : Int) := by omega
  have s4 : (0 : Int) ≤ (i : Int) + 1 := by omega
  have s5 : IntKind.i64.wrap ((i : Int) + 1) = (i : Int) + 1 := IntWalk.i64_in _ (by omega)
  have s6 : ((i : Int) + 1).toNat = i + 1 := by omega
  have q1_ : decide ((400 : Int) < (L : Int)) = false := by simp; omega
  have q2_ : ¬ (400 : Int) < (L : Int) := by omega
  rw [HP.out, HQ.out]
  have hf7 := HF
  clear HF hge h7 hii
  have hiff := pq_iff (n := P) (d := Q) (by omega)
  have hval := pq_val (d := Q) (by omega)
  have zZ := parZ_sz P
  have zQ := parZ_sz Q
  have pp := fun w' => rparse_at P (by omega) w'
  have hd := fun w' => decimal_any Q (by omega) w'
  have hrd := fun (h : allD Q = true) w' => rread_any Q (by omega) h w'
  have had := @allD_of Q
  obtain ⟨Z, HZ⟩ : ∃ v, Hid (parZ P = v) := ⟨_, rfl⟩
  obtain ⟨E, HE⟩ : ∃ v, Hid (parE P = v) := ⟨_, rfl⟩
  obtain ⟨b, HB⟩ : ∃ v, Hid (decB Q = v) := ⟨_, rfl⟩
  rw [HZ.out, HE.out] at pp
  rw [HZ.out] at zZ
  rw [HE.out, HB.out] at hiff
  rw [HB.out] at hd hval had
  have kZ := zZ.ok
  unfold RetO at pp
  have hs2 := str_size Q
  have hq : (¬ E = 0 ∧ ¬ pqOk P Q) ∨ (E = 0 ∧ b = false ∧ ¬ pqOk P Q) ∨ (E = 0 ∧ b = true ∧ Q = [48] ∧ ¬ pqOk P Q) ∨ (E = 0 ∧ b = true ∧ Q ≠ [48] ∧ pqOk P Q) := by
    rw [hiff]
    by_cases e1 : E = 0
    · cases b
      · exact .inr (.inl ⟨e1, rfl, fun h => Bool.noConfusion h.2.1⟩)
      · by_cases e3 : Q = [48]
        · exact .inr (.inr (.inl ⟨e1, rfl, e3, fun h => h.2.2 e3⟩))
        · exact .inr (.inr (.inr ⟨e1, rfl, e3, e1, rfl, e3⟩))
    · exact .inl ⟨e1, fun h => e1 h.1⟩
  clear hiff
  rcases hq with ⟨e1, hb⟩ | ⟨e1, rfl, hb⟩ | ⟨e1, rfl, e3, hb⟩ | ⟨e1, rfl, e3, hg⟩
  · obtain ⟨u1, u2, u3⟩ := pq_bad hb
    rw [u1, u2, u3]
    clear u1 u2 u3 hb hval hrd had
    have g1 : ((E : Int) == 0) = false := beq_eq_false_iff_ne.2 e1
    have g2 : ((E : Int) != 0) = true := by rw [bne, g1]; rfl
    go_enter Tryz.func8, Tryz.ntmps8
    go_upto_region 7 with (first
      | (go_at_call_of 22 (Value.string ⟨l.toArray⟩); first | ((with_reducible refine (hf7 _).mono ?_); have K := HH.out; clear HH; rintro e w7 ⟨rfl, rfl⟩) | ((with_reducible refine (hf6 _).mono ?_); rintro e w6 ⟨rfl, rfl⟩))
      | (go_at_call 23; (with_reducible refine (pp _).mono ?_); rintro e wa ⟨A1, n1, c1, rfl, d1, ga⟩; have K := ((K.call ga).add d1).new 24 (Plains.two (decide (Z < 0)) A1 n1 c1))
      | (go_at_call 24; (with_reducible refine (hd _).mono ?_); rintro e wd ⟨rfl, gd⟩; have K := K.call gd)
      | fail)
    have K := (K.add (CanAt.zero_ _)).add (CanAt.zero_ _)
    obtain ⟨_, ⟨q0, q1, q2, q3⟩, _⟩ := K.facts
    obtain ⟨f0, f1, f2, f3⟩ := K.free (i := 1) rfl
    have K4 := K.put4 1 rfl false none 0 0 false none 0 0
    simp only [List.set] at K4
    obtain ⟨_, ⟨r0, r1, r2, r3⟩, _⟩ := K4.facts
    go_wp2_with fail
    first
    | exact bodyPost_ret (v := .tuple #[.agg #[.bool (decide ((0 : Int) < 0)), .slice none 0 0, .bool (decide ((0 : Int) < 0)), .slice none 0 0], .int .i64 1]) (by simp [results, Tryz.results8, go_sem, r0, r1, r2, r3]) rfl (RetFE.of_st (x := 0) (y := 0) K4)
    | exact bodyPost_ret (v := .tuple #[.agg #[.bool (decide ((0 : Int) < 0)), .slice none 0 0, .bool (decide ((0 : Int) < 0)), .slice none 0 0], .int .i64 1]) (by simp [results, Tryz.results8, go_sem, q0, q1, q2, q3]) rfl (RetFE.of_st (x := 0) (y := 0) K)
  · obtain ⟨u1, u2, u3⟩ := pq_bad hb
    rw [u1, u2, u3]
    clear u1 u2 u3 hb hval hrd had
    subst e1
    go_enter Tryz.func8, Tryz.ntmps8
    go_upto_region 7 with (first
      | (go_at_call_of 22 (Value.string ⟨l.toArray⟩); first | ((with_reducible refine (hf7 _).mono ?_); have K := HH.out; clear HH; rintro e w7 ⟨rfl, rfl⟩) | ((with_reducible refine (hf6 _).mono ?_); rintro e w6 ⟨rfl, rfl⟩))
      | (go_at_call 23; (with_reducible refine (pp _).mono ?_); rintro e wa ⟨A1, n1, c1, rfl, d1, ga⟩; have K := ((K.call ga).add d1).new 24 (Plains.two (decide (Z < 0)) A1 n1 c1))
      | (go_at_call 24; (with_reducible refine (hd _).mono ?_); rintro e wd ⟨rfl, gd⟩; have K := K.call gd)
      | fail)
    have K := (K.add (CanAt.zero_ _)).add (CanAt.zero_ _)
    obtain ⟨_, ⟨q0, q1, q2, q3⟩, _⟩ := K.facts
    obtain ⟨f0, f1, f2, f3⟩ := K.free (i := 1) rfl
    have K4 := K.put4 1 rfl false none 0 0 false none 0 0
    simp only [List.set] at K4
    obtain ⟨_, ⟨r0, r1, r2, r3⟩, _⟩ := K4.facts
    go_wp2_with fail
    first
    | exact bodyPost_ret (v := .tuple #[.agg #[.bool (decide ((0 : Int) < 0)), .slice none 0 0, .bool (decide ((0 : Int) < 0)), .slice none 0 0], .int .i64 1]) (by simp [results, Tryz.results8, go_sem, r0, r1, r2, r3]) rfl (RetFE.of_st (x := 0) (y := 0) K4)
    | exact bodyPost_ret (v := .tuple #[.agg #[.bool (decide ((0 : Int) < 0)), .slice none 0 0, .bool (decide ((0 : Int) < 0)), .slice none 0 0], .int .i64 1]) (by simp [results, Tryz.results8, go_sem, q0, q1, q2, q3]) rfl (RetFE.of_st (x := 0) (y := 0) K)
  · obtain ⟨u1, u2, u3⟩ := pq_bad hb
    rw [u1, u2, u3]
    clear u1 u2 u3 hb hval hrd had
    subst e1
    have g1 : (Q == [48]) = true := by rw [e3]; decide
    clear e3
    go_enter Tryz.func8, Tryz.ntmps8
    go_upto_region 7 with (first
      | (go_at_call_of 22 (Value.string ⟨l.toArray⟩); first | ((with_reducible refine (hf7 _).mono ?_); have K := HH.out; clear HH; rintro e w7 ⟨rfl, rfl⟩) | ((with_reducible refine (hf6 _).mono ?_); rintro e w6 ⟨rfl, rfl⟩))
      | (go_at_call 23; (with_reducible refine (pp _).mono ?_); rintro e wa ⟨A1, n1, c1, rfl, d1, ga⟩; have K := ((K.call ga).add d1).new 24 (Plains.two (decide (Z < 0)) A1 n1 c1))
      | (go_at_call 24; (with_reducible refine (hd _).mono ?_); rintro e wd ⟨rfl, gd⟩; have K := K.call gd)
      | fail)
    have K := (K.add (CanAt.zero_ _)).add (CanAt.zero_ _)
    obtain ⟨_, ⟨q0, q1, q2, q3⟩, _⟩ := K.facts
    obtain ⟨f0, f1, f2, f3⟩ := K.free (i := 1) rfl
    have K4 := K.put4 1 rfl false none 0 0 false none 0 0
    simp only [List.set] at K4
    obtain ⟨_, ⟨r0, r1, r2, r3⟩, _⟩ := K4.facts
    go_wp2_with fail
    first
    | exact bodyPost_ret (v := .tuple #[.agg #[.bool (decide ((0 : Int) < 0)), .slice none 0 0, .bool (decide ((0 : Int) < 0)), .slice none 0 0], .int .i64 1]) (by simp [results, Tryz.results8, go_sem, r0, r1, r2, r3]) rfl (RetFE.of_st (x := 0) (y := 0) K4)
    | exact bodyPost_ret (v := .tuple #[.agg #[.bool (decide ((0 : Int) < 0)), .slice none 0 0, .bool (decide ((0 : Int) < 0)), .slice none 0 0], .int .i64 1]) (by simp [results, Tryz.results8, go_sem, q0, q1, q2, q3]) rfl (RetFE.of_st (x := 0) (y := 0) K)
  · have hrd2 := hrd (had rfl)
    have hvl := hval rfl
    obtain ⟨u1, u2, u3⟩ := pq_good hg
    have hUp : 0 < parZ Q := hg.2.2
    rw [HZ.out] at u1 u2
    obtain ⟨V, HV⟩ : ∃ v, Hid (decV Q = v) := ⟨_, rfl⟩
    rw [HV.out] at hrd2 hvl
    rw [hvl] at u1 u2 zQ hUp
    clear hrd had hval hvl hg
    have kV := zQ.ok
    have zV2 : Sz ((V : Nat) : Int) 1900 := zQ.mono (by decide)
    have zZ2 : Sz Z 1900 := zZ.mono (by decide)
    obtain ⟨v1, v2, v3⟩ := nw_pos (z := Z) hUp
    obtain ⟨x, HX⟩ : ∃ v, Hid (rn Z (V : Int) = v) := ⟨_, rfl⟩
    obtain ⟨y, HY⟩ : ∃ v, Hid (rd Z (V : Int) = v) := ⟨_, rfl⟩
    rw [u1, u2, u3, HX.out, HY.out]
    rw [HX.out] at v1
    rw [HY.out] at v2
    have HV1 := Lib.hid v1
    have HV2 := Lib.hid v2
    have HV3 := Lib.hid v3
    clear u1 u2 u3 v1 v2 v3 hUp
    subst e1
    have g1 : (Q == [48]) = false := beq_eq_false_iff_ne.2 e3
    clear e3
    go_enter Tryz.func8, Tryz.ntmps8
    go_upto_region 8 with (first
      | (go_at_call_of 22 (Value.string ⟨l.toArray⟩); first | ((with_reducible refine (hf7 _).mono ?_); have K := HH.out; clear HH; rintro e w7 ⟨rfl, rfl⟩) | ((with_reducible refine (hf6 _).mono ?_); rintro e w6 ⟨rfl, rfl⟩))
      | (go_at_call 23; (with_reducible refine (pp _).mono ?_); rintro e wa ⟨A1, n1, c1, rfl, d1, ga⟩; have K := ((K.call ga).add d1).new 24 (Plains.two (decide (Z < 0)) A1 n1 c1))
      | (go_at_call 24; (with_reducible refine (hd _).mono ?_); rintro e wd ⟨rfl, gd⟩; have K := K.call gd)
      | fail)
    (try simp only [World.size_alloc] at K)
    have K2 := K
    clear K
    generalize wa.heap.size = hn at K2 ⊢
    obtain ⟨⟨aa0, aa1⟩, _⟩ := K2.facts
    have Kd := K2.drew
    have iN0 := K2.ints.1.ci kZ
    obtain ⟨⟨a0, a1⟩, _⟩ := Kd.facts
    have iN := Kd.ints.1.ci kZ
    have K := Kd
    clear Kd
    have n1_ := World.new_ne _ _ aa0
    dsimp only at n1_
    have n4_ := Ne.symm n1_
    go_region_held3 (fun w' => w'.cell? ⟨hn, 0, none⟩ = some (.bool (decide (Z < 0))) ∧ w'.cell? ⟨hn, 1, none⟩ = some (.slice A1 n1 c1))
      (go_keep)
      (first
        | (go_at_call 27; (first | ((with_reducible refine (hrd2 _).mono ?_); rintro e x1 ⟨B1, m1, k1, ds1, rfl, hd1, u1, v1, y1_, x3_, g4⟩; have Kw := (Kv.call g4); clear Kv; have Kv := Kw; clear Kw; clear o0 o1 o2 o3 f0 f1 f2 f3 a0 a1; obtain ⟨⟨o0, o1, o2, o3⟩, ⟨a0, a1⟩, _⟩ := Kv.facts; obtain ⟨f0, f1, f2, f3⟩ := Kv.free (i := 0) rfl; replace iN := iN.call g4; have ir : IntAt x1 false B1 m1 k1 (V : Int) := ⟨ds1, hd1, u1, v1, by rw [x3_]; rfl, by omega⟩) | ((with_reducible refine (hrd2 _).mono ?_); rintro e x1 ⟨B1, m1, k1, ds1, rfl, hd1, u1, v1, y1_, x3_, g4⟩; have Kw := (K.call g4); clear K; have K := Kw; clear Kw; clear n1_ n4_ a0 a1; obtain ⟨⟨a0, a1⟩, _⟩ := K.facts; have n1_ := World.new_ne _ _ a0; dsimp only at n1_; have n4_ := Ne.symm n1_; replace iN := iN.call g4; have ir : IntAt x1 false B1 m1 k1 (V : Int) := ⟨ds1, hd1, u1, v1, by rw [x3_]; rfl, by omega⟩) | ((with_reducible refine (hrd2 _).mono ?_); rintro e x1 ⟨B1, m1, k1, ds1, rfl, hd1, u1, v1, y1_, x3_, g4⟩; have Kv := ((K2.new 26 (Plains.four false none 0 0 false none 0 0)).drew.call g4); clear K; clear n1_ n4_ a0 a1; obtain ⟨⟨o0, o1, o2, o3⟩, ⟨a0, a1⟩, _⟩ := Kv.facts; obtain ⟨f0, f1, f2, f3⟩ := Kv.free (i := 0) rfl; obtain ⟨y1, y2⟩ := Kv.ne 0 1 rfl rfl (by decide); obtain ⟨y3, y4⟩ := Kv.ne 0 2 rfl rfl (by decide); have gz := bcall (bnew _ _).drew g4; clear iN; have iN := iN0.call gz; have ir : IntAt x1 false B1 m1 k1 (V : Int) := ⟨ds1, hd1, u1, v1, by rw [x3_]; rfl, by omega⟩)))
        | (go_at_call 26; (first | ((with_reducible refine (rmk_at ir).mono ?_); rintro e x2 ⟨C1, l1, t1, rfl, d3, u3, v3, g5⟩; have Kw := (Kv.call g5); clear Kv; have Kv := Kw; clear Kw; clear o0 o1 o2 o3 f0 f1 f2 f3 a0 a1; obtain ⟨⟨o0, o1, o2, o3⟩, ⟨a0, a1⟩, _⟩ := Kv.facts; obtain ⟨f0, f1, f2, f3⟩ := Kv.free (i := 0) rfl; replace iN := iN.call g5; have im := (CanAt.mk_ d3 u3 v3).at_ kV) | ((with_reducible refine (rmk_at ir).mono ?_); rintro e x2 ⟨C1, l1, t1, rfl, d3, u3, v3, g5⟩; have Kw := (K.call g5); clear K; have K := Kw; clear Kw; clear n1_ n4_ a0 a1; obtain ⟨⟨a0, a1⟩, _⟩ := K.facts; have n1_ := World.new_ne _ _ a0; dsimp only at n1_; have n4_ := Ne.symm n1_; replace iN := iN.call g5; have im := (CanAt.mk_ d3 u3 v3).at_ kV) | ((with_reducible refine (rmk_at (ir.call (bnew _ _))).mono ?_); rintro e x2 ⟨C1, l1, t1, rfl, d3, u3, v3, g5⟩; have Kv := ((K.new 26 (Plains.four false none 0 0 false none 0 0)).call g5); clear K; clear n1_ n4_ a0 a1; obtain ⟨⟨o0, o1, o2, o3⟩, ⟨a0, a1⟩, _⟩ := Kv.facts; obtain ⟨f0, f1, f2, f3⟩ := Kv.free (i := 0) rfl; obtain ⟨y1, y2⟩ := Kv.ne 0 1 rfl rfl (by decide); obtain ⟨y3, y4⟩ := Kv.ne 0 2 rfl rfl (by decide); have gz := bcall (bnew _ _) g5; replace iN := iN.call gz; have im := (CanAt.mk_ d3 u3 v3).at_ kV)))
        | (go_at_call 25; (first | ((with_reducible refine (rnew_at iN im zZ2 zV2).mono ?_); rw [HV1.out, HV2.out, HV3.out]; rintro e x3 ⟨D1, l2, t2, D2, l3, t3, rfl, d5, d6, g6⟩; have Kw := (Kv.call g6).add d6 |>.add d5; clear Kv; have Kv := Kw; clear Kw; clear o0 o1 o2 o3 f0 f1 f2 f3 a0 a1; obtain ⟨⟨o0, o1, o2, o3⟩, ⟨a0, a1⟩, _⟩ := Kv.facts; obtain ⟨f0, f1, f2, f3⟩ := Kv.free (i := 0) rfl; skip) | ((with_reducible refine (rnew_at iN im zZ2 zV2).mono ?_); rw [HV1.out, HV2.out, HV3.out]; rintro e x3 ⟨D1, l2, t2, D2, l3, t3, rfl, d5, d6, g6⟩; have Kw := (K.call g6).add d6 |>.add d5; clear K; have K := Kw; clear Kw; clear n1_ n4_ a0 a1; obtain ⟨⟨a0, a1⟩, _⟩ := K.facts; have n1_ := World.new_ne _ _ a0; dsimp only at n1_; have n4_ := Ne.symm n1_; skip) | ((with_reducible refine (rnew_at (iN.call (bnew _ _)) (im.call (bnew _ _)) zZ2 zV2).mono ?_); rw [HV1.out, HV2.out, HV3.out]; rintro e x3 ⟨D1, l2, t2, D2, l3, t3, rfl, d5, d6, g6⟩; have Kv := ((K.new 26 (Plains.four false none 0 0 false none 0 0)).call g6).add d6 |>.add d5; clear K; clear n1_ n4_ a0 a1; obtain ⟨⟨o0, o1, o2, o3⟩, ⟨a0, a1⟩, _⟩ := Kv.facts; obtain ⟨f0, f1, f2, f3⟩ := Kv.free (i := 0) rfl; obtain ⟨y1, y2⟩ := Kv.ne 0 1 rfl rfl (by decide); obtain ⟨y3, y4⟩ := Kv.ne 0 2 rfl rfl (by decide); have gz := bcall (bnew _ _) g6; skip)))
        | fail)
    all_goals (first
      | (have K5 := Kv.put4 0 rfl (decide (x < 0)) D1 l2 t2 (decide (y < 0)) D2 l3 t3; simp only [List.set] at K5)
      | (have K5 := K.new 26 (Plains.four (decide (x < 0)) D1 l2 t2 (decide (y < 0)) D2 l3 t3)))
    all_goals clear a0 a1
    all_goals obtain ⟨⟨p0, p1, p2, p3⟩, _, ⟨q0, q1, q2, q3⟩, _⟩ := K5.facts
    all_goals (first | clear f0 f1 f2 f3 | skip)
    all_goals obtain ⟨f0, f1, f2, f3⟩ := K5.free (i := 2) rfl
    all_goals have K6 := K5.put4 2 rfl (decide (x < 0)) D1 l2 t2 (decide (y < 0)) D2 l3 t3
    all_goals simp only [List.set] at K6
    all_goals obtain ⟨_, _, ⟨r0, r1, r2, r3⟩, _⟩ := K6.facts
    all_goals go_wp2_with fail
    all_goals exact bodyPost_ret (v := .tuple #[.agg #[.bool (decide (x < 0)), .slice D1 l2 t2, .bool (decide (y < 0)), .slice D2 l3 t3], .int .i64 0]) (by simp [results, Tryz.results8, go_sem, r0, r1, r2, r3]) rfl (RetFE.of_st (x := x) (y := y) K6)
end Go.Proofs.YtekoeohkkabkdaaGreat

