/-
  Texts of fractions: the reference's ParseFrac: decimals, and the whole.
-/
import Derived.Test.YtekoeohkkabkdaaGreatTeI
set_option linter.unusedVariables false
set_option linter.unusedSimpArgs false
set_option warningAsError false
namespace Go.Proofs.YtekoeohkkabkdaaGreat
open Go.RowKit

set_option maxHeartbeats 16000000 in
set_option maxRecDepth 100000 in
theorem rqparse_dec (l : List UInt8) (hl : l.length ≤ 100000) (w : World) (h1 : ¬ 400 < l.length) (h7 : ctF47 l = false) (h6 : ctF46 l = true) :
    Calls Tryz.prog 8 #[.string ⟨l.toArray⟩] w (RetFE w (pfN l) (pfD l) (pfE l)) := by
  have H0 := (St.start w).new 26 (Plains.four false none 0 0 false none 0 0)
  have HH := Lib.hid H0
  clear H0
  have hf7 : ∀ w', Calls Tryz.prog 22 #[.string ⟨l.toArray⟩, .int .u8 47] w' (RetF0 w' (fx l 47)) := fun w' => find_any l (by omega) 47 w'
  have hf6 : ∀ w', Calls Tryz.prog 22 #[.string ⟨l.toArray⟩, .int .u8 46] w' (RetF0 w' (fx l 46)) := fun w' => find_any l (by omega) 46 w'
  unfold RetF0 at hf7 hf6
  have hsz := str_size l
  have hu : pfN l = pdN (ct146 l) (ct246 l) ∧ pfD l = pdD (ct146 l) (ct246 l) ∧ pfE l = pdE (ct146 l) (ct246 l) := by
    have h7' : ¬ ctF47 l = true := by rw [h7]; decide
    unfold pfN pfD pfE
    rw [if_neg h1, if_neg h1, if_neg h1, if_neg h7', if_neg h7', if_neg h7', if_pos h6, if_pos h6, if_pos h6]
    exact ⟨rfl, rfl, rfl⟩
  rw [hu.1, hu.2.1, hu.2.2]
  clear hu
  have m7 : fx l 47 = -1 := by
    have := fx_lo l 47
    have : ¬ 0 ≤ fx l 47 := of_decide_eq_false h7
    omega
  rw [m7] at hf7
  have hge : 0 ≤ fx l 46 := of_decide_eq_true h6
  have HF := hf6
  clear hf6 h7 m7
  obtain ⟨i, hii⟩ : ∃ i : Nat, fx l 46 = (i : Int) := ⟨(fx l 46).toNat, by omega⟩
  have hhi := fx_hi l 46
  have hP : ct146 l = l.take i := by unfold ct146; rw [if_pos hge, hii, Int.toNat_natCast]
  have hQ : ct246 l = l.drop (i + 1) := by unfold ct246; rw [if_pos hge, hii, Int.toNat_natCast]
  rw [hii] at HF hhi
  obtain ⟨P, HP⟩ : ∃ v, Hid (ct146 l = v) := ⟨_, rfl⟩
  obtain ⟨Q, HQ⟩ : ∃ v, Hid (ct246 l = v) := ⟨_, rfl⟩
  rw [HP.out] at hP
  rw [HQ.out] at hQ
  have hPl : P.length ≤ 400 := by rw [hP, List.length_take]; omega
  have hQl : Q.length ≤ 399 := by rw [hQ, List.length_drop]; omega
  obtain ⟨L, HL⟩ : ∃ v, Hid (l.length = v) := ⟨_, rfl⟩
  rw [HL.out] at hsz hhi h1 hl
  have hiL : i < L := by omega
  have x1_ : (⟨l.toArray⟩ : ByteArray).extract 0 i = ⟨P.toArray⟩ := by rw [extract_data, List.drop_zero, hP]
  have x2_ : (⟨l.toArray⟩ : ByteArray).extract (i + 1) L = ⟨Q.toArray⟩ := by rw [extract_data, List.take_of_length_le (by rw [HL.out]; exact Nat.le_refl _), hQ]
  clear hP hQ
  have s1 : (0 : Int) ≤ (i : Int) := by omega
  have s2 : (i : Int) ≤ (L : Int) := by omega
  have s3 : (i : Int) + 1 ≤ (L : Int) := by omega
  have s4 : (0 : Int) ≤ (i : Int) + 1 := by omega
  have s5 : IntKind.i64.wrap ((i : Int) + 1) = (i : Int) + 1 := IntWalk.i64_in _ (by omega)
  have s6 : ((i : Int) + 1).toNat = i + 1 := by omega
  have q1_ : decide ((400 : Int) < (L : Int)) = false := by simp; omega
  have q2_ : ¬ (400 : Int) < (L : Int) := by omega
  rw [HP.out, HQ.out]
  have hf6 := HF
  clear HF hge h6 hii
  have hgood := @pd_good P Q
  have hbad := @pd_bad P Q
  have hok : pdOk P Q ↔ decB (cutV P).1 = true ∧ allD Q = true ∧ 0 < Q.length := Iff.rfl
  have hpv : pdV P Q = zOf (cutV P).2 (decV ((cutV P).1 ++ Q)) := rfl
  have hVl := cutV_len P
  have hcs := head_cases P
  have hdec := fun w' => decimal_any (cutV P).1 (by omega) w'
  have hdig := fun w' => digits_any Q (by omega) w'
  have hzer := fun w' => rzeros_any Q.length (by omega) w'
  have hUz := pdU_sz hQl
  have hUp := pdU_pos Q
  obtain ⟨zd1, zd2⟩ := zer_dec Q.length
  have hUe : pdU Q = ((10 ^ Q.length : Nat) : Int) := rfl
  obtain ⟨V, HV⟩ : ∃ v, Hid ((cutV P).1 = v) := ⟨_, rfl⟩
  obtain ⟨ng, HG⟩ : ∃ v, Hid ((cutV P).2 = v) := ⟨_, rfl⟩
  rw [HV.out] at hok hpv hVl hcs hdec
  rw [HG.out] at hpv hcs
  have hrd := fun (h : allD V = true) (h' : allD Q = true) w' => rread_any (V ++ Q) (by rw [List.length_append]; omega) (allD_app h h') w'
  have hsz3 := fun (h : allD V = true) (h' : allD Q = true) => sz_dec (k := 90) (allD_app h h') (by rw [List.length_append]; omega) ng
  have had := @allD_of V
  have hc2 : (allD Q && decide (0 < Q.length)) = true → allD Q = true ∧ 0 < Q.length := fun h => by simpa using h
  obtain ⟨b, HB⟩ : ∃ v, Hid (decB V = v) := ⟨_, rfl⟩
  obtain ⟨c, HC⟩ : ∃ v, Hid ((allD Q && decide (0 < Q.length)) = v) := ⟨_, rfl⟩
  rw [HB.out] at hok hdec had
  rw [HC.out] at hdig hc2
  have hq : (b = false ∧ ¬ pdOk P Q) ∨ (b = true ∧ c = false ∧ ¬ pdOk P Q) ∨ (b = true ∧ c = true ∧ pdOk P Q) := by
    rw [hok]
    cases b
    · exact .inl ⟨rfl, fun h => Bool.noConfusion h.1⟩
    · cases hc : c
      · refine .inr (.inl ⟨rfl, rfl, fun h => ?_⟩)
        have := HC.out
        rw [h.2.1, hc] at this
        simp at this
        rw [this] at h
        exact absurd h.2.2 (by decide)
      · exact .inr (.inr ⟨rfl, rfl, rfl, hc2 hc⟩)
  clear hok
  have hs2 := str_size Q
  have hs3 := str_size P
  have hs4 := str_size V
  obtain ⟨Z0, HZ0⟩ : ∃ v, Hid (List.replicate Q.length (48 : UInt8) = v) := ⟨_, rfl⟩
  have hZl : Z0.length ≤ 399 := by rw [← HZ0.out, List.length_replicate]; exact hQl
  rw [HZ0.out] at zd1 zd2 hzer
  have hcat2 : (⟨#[49]⟩ : ByteArray) ++ ⟨Z0.toArray⟩ = ⟨(49 :: Z0).toArray⟩ := by
    rw [show (⟨#[49]⟩ : ByteArray) = ⟨([49] : List UInt8).toArray⟩ from rfl, str_app]; first | done | rfl
  have hru := fun w' => rread_any (49 :: Z0) (by rw [List.length_cons]; omega) zd2 w'
  obtain ⟨X2, HX2⟩ : ∃ v, Hid ((49 : UInt8) :: Z0 = v) := ⟨_, rfl⟩
  rw [HX2.out] at zd1 zd2 hcat2 hru
  rw [zd1] at hru
  obtain ⟨UN, HUN⟩ : ∃ v, Hid ((10 : Nat) ^ Q.length = v) := ⟨_, rfl⟩
  rw [HUN.out] at hru hUe
  obtain ⟨U, HU⟩ : ∃ v : Int, Hid (((UN : Nat) : Int) = v) := ⟨_, rfl⟩
  rw [HU.out] at hUe
  clear zd1 zd2
  have hcat1 := str_app V Q
  obtain ⟨X1, HX1⟩ : ∃ v, Hid (V ++ Q = v) := ⟨_, rfl⟩
  rw [HX1.out] at hcat1 hpv
  simp only [HX1.out] at hrd hsz3
  have t1_ : ¬ 9223372036854775807 < V.length + Q.length := by omega
  have t2_ : ¬ 9223372036854775807 < 1 + Z0.length := by omega
  have t3_ : ¬ 9223372036854775807 < Z0.length + 1 := by omega
  rw [hUe] at hUz hUp
  have kU := hUz.ok
  have zU2 : Sz U 1900 := hUz.mono (by decide)
  obtain ⟨LP, HLP⟩ : ∃ v, Hid (P.length = v) := ⟨_, rfl⟩
  rw [HLP.out] at hs3 hcs hPl
  have hvd : V = P.drop 1 → (⟨P.toArray⟩ : ByteArray).extract 1 LP = ⟨V.toArray⟩ := fun h => by
    rw [extract_data, List.take_of_length_le (by rw [HLP.out]; exact Nat.le_refl _), h]
  have hgt0 : 0 < LP → ∀ h, ((⟨P.toArray⟩ : ByteArray)[0]'h) = byteAt P 0 := fun h => str_get (l := P) (k := 0) (by rw [HLP.out]; exact h)
  have HGOOD := Lib.hid @hgood
  have HBAD := Lib.hid @hbad
  have HPV := Lib.hid hpv
  have HUE := Lib.hid hUe
  have HSZ := Lib.hid hsz3
  have HRD := Lib.hid hrd
  have HAD := Lib.hid @had
  have HC2 := Lib.hid hc2
  have HGT := Lib.hid hgt0
  have HVD := Lib.hid hvd
  clear hgood hbad hpv hUe hsz3 hrd had hc2 hgt0 hvd
  rcases hcs with ⟨hp0, hv0, hg0⟩ | ⟨hp0, hb0, hv0, hg0⟩ | ⟨hp0, hb0, hv0, hg0⟩
  · subst hg0
    have hP0 : P = [] := List.eq_nil_of_length_eq_zero (by rw [HLP.out]; exact hp0)
    have hbf : b = false := by rw [← HB.out, hv0, hP0]; rfl
    subst hbf
    have hb : ¬ pdOk P Q := by
      rcases hq with ⟨_, h⟩ | ⟨h, _⟩ | ⟨h, _⟩
      · exact h
      · cases h
      · cases h
    clear hq
    subst hp0
    subst hv0
    clear hP0 HC HB HV HLP
    have z1_ : decide ((0 : Int) < ((0 : Nat) : Int)) = false := by decide
    obtain ⟨w1_, w2_, w3_⟩ := HBAD.out hb
    rw [w1_, w2_, w3_]
    clear w1_ w2_ w3_ hb HBAD
    clear HGOOD HPV HUE HSZ HRD HAD HC2 HGT HVD
    go_enter Tryz.func8, Tryz.ntmps8
    go_upto_region 12 with (first
        | (go_at_call_of 22 (Value.string ⟨l.toArray⟩); first | ((with_reducible refine (hf7 _).mono ?_); have K := HH.out; clear HH; rintro e w7 ⟨rfl, rfl⟩) | ((with_reducible refine (hf6 _).mono ?_); rintro e w6 ⟨rfl, rfl⟩))
        | fail)
    first
    | (go_quiet (fail))
    | skip
    go_upto_region 17 with (first
        | (go_at_call 24; (with_reducible refine (hdec _).mono ?_); rintro e wd ⟨rfl, gd⟩; have K := (K.drewN _).call gd)
        | (go_at_call 28; (with_reducible refine (hdig _).mono ?_); rintro e wg ⟨rfl, gg⟩; have K := K.call gg)
        | (go_at_call_of 27 (Value.string ⟨X1.toArray⟩); (with_reducible refine (hrd _).mono ?_); rintro e wh ⟨B1, m1, k1, ds1, rfl, hd1, u1, v1, y1_, x3_, gh⟩; have K := K.call gh)
        | (go_at_call_of 27 (Value.string ⟨X2.toArray⟩); (with_reducible refine (hru _).mono ?_); rintro e wi ⟨B2, m2, k2, ds2, rfl, hd2, u2, v2, y2_, x4_, gi⟩; have K := K.call gi)
        | (go_at_call 26; first | ((with_reducible refine (rmkV_at (V := VY) false hd1 u1 v1 y1_ x3_).mono ?_); rintro e wj ⟨C1, l1, t1, rfl, d3, u3, v3, gj⟩; have K := (K.call gj).add (CanAt.mk_ d3 u3 v3)) | ((with_reducible refine (rmkV_at (V := UN) false hd2 u2 v2 y2_ x4_).mono ?_); rw [show zOf false UN = U from HU.out]; rintro e wk ⟨C2, l2, t2, rfl, d4, u4, v4, gk⟩; have K := (K.call gk).add (CanAt.mk_ d4 u4 v4); have jY := K.ints.2.1.ci kY; have jU := K.ints.1.ci kU))
        | (go_at_call 29; (with_reducible refine (hzer _).mono ?_); rintro e wm ⟨rfl, gm⟩; have K := K.call gm)
        | (go_at_call 25; (with_reducible refine (rnew_at jY jU zY2 zU2).mono ?_); rw [HV1.out, HV2.out, HV3.out]; rintro e wn ⟨E1, o1_, t4, E2, o2_, t5, rfl, e3, e4, gn⟩; have K := (((K.call gn).add e4).add e3).new 26 (Plains.four (decide (x < 0)) E1 o1_ t4 (decide (y < 0)) E2 o2_ t5))
        | fail)
    have K := (K.add (CanAt.zero_ _)).add (CanAt.zero_ _)
    obtain ⟨⟨q0, q1, q2, q3⟩, _⟩ := K.facts
    obtain ⟨f0, f1, f2, f3⟩ := K.free (i := 0) rfl
    have K4 := K.put4 0 rfl false none 0 0 false none 0 0
    simp only [List.set] at K4
    obtain ⟨⟨r0, r1, r2, r3⟩, _⟩ := K4.facts
    go_wp2_with fail
    first
    | exact bodyPost_ret (v := .tuple #[.agg #[.bool (decide ((0 : Int) < 0)), .slice none 0 0, .bool (decide ((0 : Int) < 0)), .slice none 0 0], .int .i64 1]) (by simp [results, Tryz.results8, go_sem, r0, r1, r2, r3]) rfl (RetFE.of_st (x := 0) (y := 0) K4)
    | exact bodyPost_ret (v := .tuple #[.agg #[.bool (decide ((0 : Int) < 0)), .slice none 0 0, .bool (decide ((0 : Int) < 0)), .slice none 0 0], .int .i64 1]) (by simp [results, Tryz.results8, go_sem, q0, q1, q2, q3]) rfl (RetFE.of_st (x := 0) (y := 0) K)
  · subst hg0
    have hxx := HVD.out hv0
    clear hv0
    have hb1 : ∀ h, ((⟨P.toArray⟩ : ByteArray)[0]'h).toNat = 45 := fun h => by rw [HGT.out hp0 h]; exact hb0
    have z1_ : (0 : Int) < (LP : Int) := by omega
    have z2_ : (1 : Int) ≤ (LP : Int) := by omega
    clear hb0
    rcases hq with ⟨rfl, hb⟩ | ⟨rfl, rfl, hb⟩ | ⟨rfl, rfl, hg⟩
    · obtain ⟨w1_, w2_, w3_⟩ := HBAD.out hb
      rw [w1_, w2_, w3_]
      clear w1_ w2_ w3_ hb HBAD
      clear HC HB
      clear HGOOD HPV HUE HSZ HRD HAD HC2 HGT HVD
      go_enter Tryz.func8, Tryz.ntmps8
      go_upto_region 12 with (first
          | (go_at_call_of 22 (Value.string ⟨l.toArray⟩); first | ((with_reducible refine (hf7 _).mono ?_); have K := HH.out; clear HH; rintro e w7 ⟨rfl, rfl⟩) | ((with_reducible refine (hf6 _).mono ?_); rintro e w6 ⟨rfl, rfl⟩))
          | fail)
      first
      | (go_quiet (fail))
      | skip
      go_upto_region 17 with (first
          | (go_at_call 24; (with_reducible refine (hdec _).mono ?_); rintro e wd ⟨rfl, gd⟩; have K := (K.drewN _).call gd)
          | (go_at_call 28; (with_reducible refine (hdig _).mono ?_); rintro e wg ⟨rfl, gg⟩; have K := K.call gg)
          | (go_at_call_of 27 (Value.string ⟨X1.toArray⟩); (with_reducible refine (hrd _).mono ?_); rintro e wh ⟨B1, m1, k1, ds1, rfl, hd1, u1, v1, y1_, x3_, gh⟩; have K := K.call gh)
          | (go_at_call_of 27 (Value.string ⟨X2.toArray⟩); (with_reducible refine (hru _).mono ?_); rintro e wi ⟨B2, m2, k2, ds2, rfl, hd2, u2, v2, y2_, x4_, gi⟩; have K := K.call gi)
          | (go_at_call 26; first | ((with_reducible refine (rmkV_at (V := VY) true hd1 u1 v1 y1_ x3_).mono ?_); rintro e wj ⟨C1, l1, t1, rfl, d3, u3, v3, gj⟩; have K := (K.call gj).add (CanAt.mk_ d3 u3 v3)) | ((with_reducible refine (rmkV_at (V := UN) false hd2 u2 v2 y2_ x4_).mono ?_); rw [show zOf false UN = U from HU.out]; rintro e wk ⟨C2, l2, t2, rfl, d4, u4, v4, gk⟩; have K := (K.call gk).add (CanAt.mk_ d4 u4 v4); have jY := K.ints.2.1.ci kY; have jU := K.ints.1.ci kU))
          | (go_at_call 29; (with_reducible refine (hzer _).mono ?_); rintro e wm ⟨rfl, gm⟩; have K := K.call gm)
          | (go_at_call 25; (with_reducible refine (rnew_at jY jU zY2 zU2).mono ?_); rw [HV1.out, HV2.out, HV3.out]; rintro e wn ⟨E1, o1_, t4, E2, o2_, t5, rfl, e3, e4, gn⟩; have K := (((K.call gn).add e4).add e3).new 26 (Plains.four (decide (x < 0)) E1 o1_ t4 (decide (y < 0)) E2 o2_ t5))
          | fail)
      have K := (K.add (CanAt.zero_ _)).add (CanAt.zero_ _)
      obtain ⟨⟨q0, q1, q2, q3⟩, _⟩ := K.facts
      obtain ⟨f0, f1, f2, f3⟩ := K.free (i := 0) rfl
      have K4 := K.put4 0 rfl false none 0 0 false none 0 0
      simp only [List.set] at K4
      obtain ⟨⟨r0, r1, r2, r3⟩, _⟩ := K4.facts
      go_wp2_with fail
      first
      | exact bodyPost_ret (v := .tuple #[.agg #[.bool (decide ((0 : Int) < 0)), .slice none 0 0, .bool (decide ((0 : Int) < 0)), .slice none 0 0], .int .i64 1]) (by simp [results, Tryz.results8, go_sem, r0, r1, r2, r3]) rfl (RetFE.of_st (x := 0) (y := 0) K4)
      | exact bodyPost_ret (v := .tuple #[.agg #[.bool (decide ((0 : Int) < 0)), .slice none 0 0, .bool (decide ((0 : Int) < 0)), .slice none 0 0], .int .i64 1]) (by simp [results, Tryz.results8, go_sem, q0, q1, q2, q3]) rfl (RetFE.of_st (x := 0) (y := 0) K)
    · obtain ⟨w1_, w2_, w3_⟩ := HBAD.out hb
      rw [w1_, w2_, w3_]
      clear w1_ w2_ w3_ hb HBAD
      clear HC HB
      clear HGOOD HPV HUE HSZ HRD HAD HC2 HGT HVD
      go_enter Tryz.func8, Tryz.ntmps8
      go_upto_region 12 with (first
          | (go_at_call_of 22 (Value.string ⟨l.toArray⟩); first | ((with_reducible refine (hf7 _).mono ?_); have K := HH.out; clear HH; rintro e w7 ⟨rfl, rfl⟩) | ((with_reducible refine (hf6 _).mono ?_); rintro e w6 ⟨rfl, rfl⟩))
          | fail)
      first
      | (go_quiet (fail))
      | skip
      go_upto_region 17 with (first
          | (go_at_call 24; (with_reducible refine (hdec _).mono ?_); rintro e wd ⟨rfl, gd⟩; have K := (K.drewN _).call gd)
          | (go_at_call 28; (with_reducible refine (hdig _).mono ?_); rintro e wg ⟨rfl, gg⟩; have K := K.call gg)
          | (go_at_call_of 27 (Value.string ⟨X1.toArray⟩); (with_reducible refine (hrd _).mono ?_); rintro e wh ⟨B1, m1, k1, ds1, rfl, hd1, u1, v1, y1_, x3_, gh⟩; have K := K.call gh)
          | (go_at_call_of 27 (Value.string ⟨X2.toArray⟩); (with_reducible refine (hru _).mono ?_); rintro e wi ⟨B2, m2, k2, ds2, rfl, hd2, u2, v2, y2_, x4_, gi⟩; have K := K.call gi)
          | (go_at_call 26; first | ((with_reducible refine (rmkV_at (V := VY) true hd1 u1 v1 y1_ x3_).mono ?_); rintro e wj ⟨C1, l1, t1, rfl, d3, u3, v3, gj⟩; have K := (K.call gj).add (CanAt.mk_ d3 u3 v3)) | ((with_reducible refine (rmkV_at (V := UN) false hd2 u2 v2 y2_ x4_).mono ?_); rw [show zOf false UN = U from HU.out]; rintro e wk ⟨C2, l2, t2, rfl, d4, u4, v4, gk⟩; have K := (K.call gk).add (CanAt.mk_ d4 u4 v4); have jY := K.ints.2.1.ci kY; have jU := K.ints.1.ci kU))
          | (go_at_call 29; (with_reducible refine (hzer _).mono ?_); rintro e wm ⟨rfl, gm⟩; have K := K.call gm)
          | (go_at_call 25; (with_reducible refine (rnew_at jY jU zY2 zU2).mono ?_); rw [HV1.out, HV2.out, HV3.out]; rintro e wn ⟨E1, o1_, t4, E2, o2_, t5, rfl, e3, e4, gn⟩; have K := (((K.call gn).add e4).add e3).new 26 (Plains.four (decide (x < 0)) E1 o1_ t4 (decide (y < 0)) E2 o2_ t5))
          | fail)
      have K := (K.add (CanAt.zero_ _)).add (CanAt.zero_ _)
      obtain ⟨⟨q0, q1, q2, q3⟩, _⟩ := K.facts
      obtain ⟨f0, f1, f2, f3⟩ := K.free (i := 0) rfl
      have K4 := K.put4 0 rfl false none 0 0 false none 0 0
      simp only [List.set] at K4
      obtain ⟨⟨r0, r1, r2, r3⟩, _⟩ := K4.facts
      go_wp2_with fail
      first
      | exact bodyPost_ret (v := .tuple #[.agg #[.bool (decide ((0 : Int) < 0)), .slice none 0 0, .bool (decide ((0 : Int) < 0)), .slice none 0 0], .int .i64 1]) (by simp [results, Tryz.results8, go_sem, r0, r1, r2, r3]) rfl (RetFE.of_st (x := 0) (y := 0) K4)
      | exact bodyPost_ret (v := .tuple #[.agg #[.bool (decide ((0 : Int) < 0)), .slice none 0 0, .bool (decide ((0 : Int) < 0)), .slice none 0 0], .int .i64 1]) (by simp [results, Tryz.results8, go_sem, q0, q1, q2, q3]) rfl (RetFE.of_st (x := 0) (y := 0) K)
    · clear HC HB
      obtain ⟨w1_, w2_, w3_⟩ := HGOOD.out hg
      obtain ⟨hc1, hc3⟩ := HC2.out rfl
      have ha1 := HAD.out rfl
      have hrd := HRD.out ha1 hc1
      have zY := HSZ.out ha1 hc1
      rw [HPV.out, HUE.out] at w1_ w2_
      clear HRD HSZ HBAD
      obtain ⟨VY, HVY⟩ : ∃ v, Hid (decV X1 = v) := ⟨_, rfl⟩
      rw [HVY.out] at hrd zY w1_ w2_
      have kY := zY.ok
      have zY2 := zY.mono (show 90 ≤ 1900 by decide)
      obtain ⟨v1_, v2_, v3_⟩ := nw_pos (z := zOf true VY) hUp
      obtain ⟨x, HX⟩ : ∃ v, Hid (rn (zOf true VY) U = v) := ⟨_, rfl⟩
      obtain ⟨y, HY⟩ : ∃ v, Hid (rd (zOf true VY) U = v) := ⟨_, rfl⟩
      rw [w1_, w2_, w3_, HX.out, HY.out]
      rw [HX.out] at v1_
      rw [HY.out] at v2_
      have HV1 := Lib.hid v1_
      have HV2 := Lib.hid v2_
      have HV3 := Lib.hid v3_
      clear w1_ w2_ w3_ v1_ v2_ v3_ hUp hg hc1 hc3 ha1
      clear HGOOD HPV HUE HAD HC2 HGT HVD
      obtain ⟨YV, HYV⟩ : ∃ v, Hid (zOf true VY = v) := ⟨_, rfl⟩
      rw [HYV.out] at kY zY zY2 HV1 HV2
      go_enter Tryz.func8, Tryz.ntmps8
      go_upto_region 12 with (first
          | (go_at_call_of 22 (Value.string ⟨l.toArray⟩); first | ((with_reducible refine (hf7 _).mono ?_); have K := HH.out; clear HH; rintro e w7 ⟨rfl, rfl⟩) | ((with_reducible refine (hf6 _).mono ?_); rintro e w6 ⟨rfl, rfl⟩))
          | fail)
      first
      | (go_quiet (fail))
      | skip
      go_upto_region 19 with (first
          | (go_at_call 24; (with_reducible refine (hdec _).mono ?_); rintro e wd ⟨rfl, gd⟩; have K := (K.drewN _).call gd)
          | (go_at_call 28; (with_reducible refine (hdig _).mono ?_); rintro e wg ⟨rfl, gg⟩; have K := K.call gg)
          | (go_at_call_of 27 (Value.string ⟨X1.toArray⟩); (with_reducible refine (hrd _).mono ?_); rintro e wh ⟨B1, m1, k1, ds1, rfl, hd1, u1, v1, y1_, x3_, gh⟩; have K := K.call gh)
          | (go_at_call_of 27 (Value.string ⟨X2.toArray⟩); (with_reducible refine (hru _).mono ?_); rintro e wi ⟨B2, m2, k2, ds2, rfl, hd2, u2, v2, y2_, x4_, gi⟩; have K := K.call gi)
          | (go_at_call 26; first | ((with_reducible refine (rmkV_at (V := VY) true hd1 u1 v1 y1_ x3_).mono ?_); rw [HYV.out]; rintro e wj ⟨C1, l1, t1, rfl, d3, u3, v3, gj⟩; have K := (K.call gj).add (CanAt.mk_ d3 u3 v3)) | ((with_reducible refine (rmkV_at (V := UN) false hd2 u2 v2 y2_ x4_).mono ?_); rw [show zOf false UN = U from HU.out]; rintro e wk ⟨C2, l2, t2, rfl, d4, u4, v4, gk⟩; have K := (K.call gk).add (CanAt.mk_ d4 u4 v4); have jY := K.ints.2.1.ci kY; have jU := K.ints.1.ci kU))
          | (go_at_call 29; (with_reducible refine (hzer _).mono ?_); rintro e wm ⟨rfl, gm⟩; have K := K.call gm)
          | (go_at_call 25; (with_reducible refine (rnew_at jY jU zY2 zU2).mono ?_); rw [HV1.out, HV2.out, HV3.out]; rintro e wn ⟨E1, o1_, t4, E2, o2_, t5, rfl, e3, e4, gn⟩; have K := (((K.call gn).add e4).add e3).new 26 (Plains.four (decide (x < 0)) E1 o1_ t4 (decide (y < 0)) E2 o2_ t5))
          | fail)
      obtain ⟨⟨p0, p1, p2, p3⟩, ⟨q0, q1, q2, q3⟩, _⟩ := K.facts
      obtain ⟨f0, f1, f2, f3⟩ := K.free (i := 1) rfl
      have K6 := K.put4 1 rfl (decide (x < 0)) E1 o1_ t4 (decide (y < 0)) E2 o2_ t5
      simp only [List.set] at K6
      obtain ⟨_, ⟨r0, r1, r2, r3⟩, _⟩ := K6.facts
      go_wp2_with fail
      exact bodyPost_ret (v := .tuple #[.agg #[.bool (decide (x < 0)), .slice E1 o1_ t4, .bool (decide (y < 0)), .slice E2 o2_ t5], .int .i64 0]) (by simp [results, Tryz.results8, go_sem, r0, r1, r2, r3]) rfl (RetFE.of_st (x := x) (y := y) K6)
  · subst hg0
    subst hv0
    obtain ⟨n, HNB⟩ : ∃ v, Hid ((byteAt V 0).toNat = v) := ⟨_, rfl⟩
    have hb1 : ∀ h, ((⟨V.toArray⟩ : ByteArray)[0]'h).toNat = n := fun h => by rw [HGT.out hp0 h]; exact HNB.out
    rw [HNB.out] at hb0
    have z1_ : (0 : Int) < (LP : Int) := by omega
    have z2_ : ((n : Int) == 45) = false := by simp; omega
    have z3_ : ¬ (n : Int) = 45 := by omega
    clear hb0
    rcases hq with ⟨rfl, hb⟩ | ⟨rfl, rfl, hb⟩ | ⟨rfl, rfl, hg⟩
    · obtain ⟨w1_, w2_, w3_⟩ := HBAD.out hb
      rw [w1_, w2_, w3_]
      clear w1_ w2_ w3_ hb HBAD
      clear HC HB
      clear HGOOD HPV HUE HSZ HRD HAD HC2 HGT HVD
      go_enter Tryz.func8, Tryz.ntmps8
      go_upto_region 12 with (first
          | (go_at_call_of 22 (Value.string ⟨l.toArray⟩); first | ((with_reducible refine (hf7 _).mono ?_); have K := HH.out; clear HH; rintro e w7 ⟨rfl, rfl⟩) | ((with_reducible refine (hf6 _).mono ?_); rintro e w6 ⟨rfl, rfl⟩))
          | fail)
      first
      | (go_quiet (fail))
      | skip
      go_upto_region 17 with (first
          | (go_at_call 24; (with_reducible refine (hdec _).mono ?_); rintro e wd ⟨rfl, gd⟩; have K := (K.drewN _).call gd)
          | (go_at_call 28; (with_reducible refine (hdig _).mono ?_); rintro e wg ⟨rfl, gg⟩; have K := K.call gg)
          | (go_at_call_of 27 (Value.string ⟨X1.toArray⟩); (with_reducible refine (hrd _).mono ?_); rintro e wh ⟨B1, m1, k1, ds1, rfl, hd1, u1, v1, y1_, x3_, gh⟩; have K := K.call gh)
          | (go_at_call_of 27 (Value.string ⟨X2.toArray⟩); (with_reducible refine (hru _).mono ?_); rintro e wi ⟨B2, m2, k2, ds2, rfl, hd2, u2, v2, y2_, x4_, gi⟩; have K := K.call gi)
          | (go_at_call 26; first | ((with_reducible refine (rmkV_at (V := VY) false hd1 u1 v1 y1_ x3_).mono ?_); rintro e wj ⟨C1, l1, t1, rfl, d3, u3, v3, gj⟩; have K := (K.call gj).add (CanAt.mk_ d3 u3 v3)) | ((with_reducible refine (rmkV_at (V := UN) false hd2 u2 v2 y2_ x4_).mono ?_); rw [show zOf false UN = U from HU.out]; rintro e wk ⟨C2, l2, t2, rfl, d4, u4, v4, gk⟩; have K := (K.call gk).add (CanAt.mk_ d4 u4 v4); have jY := K.ints.2.1.ci kY; have jU := K.ints.1.ci kU))
          | (go_at_call 29; (with_reducible refine (hzer _).mono ?_); rintro e wm ⟨rfl, gm⟩; have K := K.call gm)
          | (go_at_call 25; (with_reducible refine (rnew_at jY jU zY2 zU2).mono ?_); rw [HV1.out, HV2.out, HV3.out]; rintro e wn ⟨E1, o1_, t4, E2, o2_, t5, rfl, e3, e4, gn⟩; have K := (((K.call gn).add e4).add e3).new 26 (Plains.four (decide (x < 0)) E1 o1_ t4 (decide (y < 0)) E2 o2_ t5))
          | fail)
      have K := (K.add (CanAt.zero_ _)).add (CanAt.zero_ _)
      obtain ⟨⟨q0, q1, q2, q3⟩, _⟩ := K.facts
      obtain ⟨f0, f1, f2, f3⟩ := K.free (i := 0) rfl
      have K4 := K.put4 0 rfl false none 0 0 false none 0 0
      simp only [List.set] at K4
      obtain ⟨⟨r0, r1, r2, r3⟩, _⟩ := K4.facts
      go_wp2_with fail
      first
      | exact bodyPost_ret (v := .tuple #[.agg #[.bool (decide ((0 : Int) < 0)), .slice none 0 0, .bool (decide ((0 : Int) < 0)), .slice none 0 0], .int .i64 1]) (by simp [results, Tryz.results8, go_sem, r0, r1, r2, r3]) rfl (RetFE.of_st (x := 0) (y := 0) K4)
      | exact bodyPost_ret (v := .tuple #[.agg #[.bool (decide ((0 : Int) < 0)), .slice none 0 0, .bool (decide ((0 : Int) < 0)), .slice none 0 0], .int .i64 1]) (by simp [results, Tryz.results8, go_sem, q0, q1, q2, q3]) rfl (RetFE.of_st (x := 0) (y := 0) K)
    · obtain ⟨w1_, w2_, w3_⟩ := HBAD.out hb
      rw [w1_, w2_, w3_]
      clear w1_ w2_ w3_ hb HBAD
      clear HC HB
      clear HGOOD HPV HUE HSZ HRD HAD HC2 HGT HVD
      go_enter Tryz.func8, Tryz.ntmps8
      go_upto_region 12 with (first
          | (go_at_call_of 22 (Value.string ⟨l.toArray⟩); first | ((with_reducible refine (hf7 _).mono ?_); have K := HH.out; clear HH; rintro e w7 ⟨rfl, rfl⟩) | ((with_reducible refine (hf6 _).mono ?_); rintro e w6 ⟨rfl, rfl⟩))
          | fail)
      first
      | (go_quiet (fail))
      | skip
      go_upto_region 17 with (first
          | (go_at_call 24; (with_reducible refine (hdec _).mono ?_); rintro e wd ⟨rfl, gd⟩; have K := (K.drewN _).call gd)
          | (go_at_call 28; (with_reducible refine (hdig _).mono ?_); rintro e wg ⟨rfl, gg⟩; have K := K.call gg)
          | (go_at_call_of 27 (Value.string ⟨X1.toArray⟩); (with_reducible refine (hrd _).mono ?_); rintro e wh ⟨B1, m1, k1, ds1, rfl, hd1, u1, v1, y1_, x3_, gh⟩; have K := K.call gh)
          | (go_at_call_of 27 (Value.string ⟨X2.toArray⟩); (with_reducible refine (hru _).mono ?_); rintro e wi ⟨B2, m2, k2, ds2, rfl, hd2, u2, v2, y2_, x4_, gi⟩; have K := K.call gi)
          | (go_at_call 26; first | ((with_reducible refine (rmkV_at (V := VY) false hd1 u1 v1 y1_ x3_).mono ?_); rintro e wj ⟨C1, l1, t1, rfl, d3, u3, v3, gj⟩; have K := (K.call gj).add (CanAt.mk_ d3 u3 v3)) | ((with_reducible refine (rmkV_at (V := UN) false hd2 u2 v2 y2_ x4_).mono ?_); rw [show zOf false UN = U from HU.out]; rintro e wk ⟨C2, l2, t2, rfl, d4, u4, v4, gk⟩; have K := (K.call gk).add (CanAt.mk_ d4 u4 v4); have jY := K.ints.2.1.ci kY; have jU := K.ints.1.ci kU))
          | (go_at_call 29; (with_reducible refine (hzer _).mono ?_); rintro e wm ⟨rfl, gm⟩; have K := K.call gm)
          | (go_at_call 25; (with_reducible refine (rnew_at jY jU zY2 zU2).mono ?_); rw [HV1.out, HV2.out, HV3.out]; rintro e wn ⟨E1, o1_, t4, E2, o2_, t5, rfl, e3, e4, gn⟩; have K := (((K.call gn).add e4).add e3).new 26 (Plains.four (decide (x < 0)) E1 o1_ t4 (decide (y < 0)) E2 o2_ t5))
          | fail)
      have K := (K.add (CanAt.zero_ _)).add (CanAt.zero_ _)
      obtain ⟨⟨q0, q1, q2, q3⟩, _⟩ := K.facts
      obtain ⟨f0, f1, f2, f3⟩ := K.free (i := 0) rfl
      have K4 := K.put4 0 rfl false none 0 0 false none 0 0
      simp only [List.set] at K4
      obtain ⟨⟨r0, r1, r2, r3⟩, _⟩ := K4.facts
      go_wp2_with fail
      first
      | exact bodyPost_ret (v := .tuple #[.agg #[.bool (decide ((0 : Int) < 0)), .slice none 0 0, .bool (decide ((0 : Int) < 0)), .slice none 0 0], .int .i64 1]) (by simp [results, Tryz.results8, go_sem, r0, r1, r2, r3]) rfl (RetFE.of_st (x := 0) (y := 0) K4)
      | exact bodyPost_ret (v := .tuple #[.agg #[.bool (decide ((0 : Int) < 0)), .slice none 0 0, .bool (decide ((0 : Int) < 0)), .slice none 0 0], .int .i64 1]) (by simp [results, Tryz.results8, go_sem, q0, q1, q2, q3]) rfl (RetFE.of_st (x := 0) (y := 0) K)
    · clear HC HB
      obtain ⟨w1_, w2_, w3_⟩ := HGOOD.out hg
      obtain ⟨hc1, hc3⟩ := HC2.out rfl
      have ha1 := HAD.out rfl
      have hrd := HRD.out ha1 hc1
      have zY := HSZ.out ha1 hc1
      rw [HPV.out, HUE.out] at w1_ w2_
      clear HRD HSZ HBAD
      obtain ⟨VY, HVY⟩ : ∃ v, Hid (decV X1 = v) := ⟨_, rfl⟩
      rw [HVY.out] at hrd zY w1_ w2_
      have kY := zY.ok
      have zY2 := zY.mono (show 90 ≤ 1900 by decide)
      obtain ⟨v1_, v2_, v3_⟩ := nw_pos (z := zOf false VY) hUp
      obtain ⟨x, HX⟩ : ∃ v, Hid (rn (zOf false VY) U = v) := ⟨_, rfl⟩
      obtain ⟨y, HY⟩ : ∃ v, Hid (rd (zOf false VY) U = v) := ⟨_, rfl⟩
      rw [w1_, w2_, w3_, HX.out, HY.out]
      rw [HX.out] at v1_
      rw [HY.out] at v2_
      have HV1 := Lib.hid v1_
      have HV2 := Lib.hid v2_
      have HV3 := Lib.hid v3_
      clear w1_ w2_ w3_ v1_ v2_ v3_ hUp hg hc1 hc3 ha1
      clear HGOOD HPV HUE HAD HC2 HGT HVD
      obtain ⟨YV, HYV⟩ : ∃ v, Hid (zOf false VY = v) := ⟨_, rfl⟩
      rw [HYV.out] at kY zY zY2 HV1 HV2
      go_enter Tryz.func8, Tryz.ntmps8
      go_upto_region 12 with (first
          | (go_at_call_of 22 (Value.string ⟨l.toArray⟩); first | ((with_reducible refine (hf7 _).mono ?_); have K := HH.out; clear HH; rintro e w7 ⟨rfl, rfl⟩) | ((with_reducible refine (hf6 _).mono ?_); rintro e w6 ⟨rfl, rfl⟩))
          | fail)
      first
      | (go_quiet (fail))
      | skip
      go_upto_region 19 with (first
          | (go_at_call 24; (with_reducible refine (hdec _).mono ?_); rintro e wd ⟨rfl, gd⟩; have K := (K.drewN _).call gd)
          | (go_at_call 28; (with_reducible refine (hdig _).mono ?_); rintro e wg ⟨rfl, gg⟩; have K := K.call gg)
          | (go_at_call_of 27 (Value.string ⟨X1.toArray⟩); (with_reducible refine (hrd _).mono ?_); rintro e wh ⟨B1, m1, k1, ds1, rfl, hd1, u1, v1, y1_, x3_, gh⟩; have K := K.call gh)
          | (go_at_call_of 27 (Value.string ⟨X2.toArray⟩); (with_reducible refine (hru _).mono ?_); rintro e wi ⟨B2, m2, k2, ds2, rfl, hd2, u2, v2, y2_, x4_, gi⟩; have K := K.call gi)
          | (go_at_call 26; first | ((with_reducible refine (rmkV_at (V := VY) false hd1 u1 v1 y1_ x3_).mono ?_); rw [HYV.out]; rintro e wj ⟨C1, l1, t1, rfl, d3, u3, v3, gj⟩; have K := (K.call gj).add (CanAt.mk_ d3 u3 v3)) | ((with_reducible refine (rmkV_at (V := UN) false hd2 u2 v2 y2_ x4_).mono ?_); rw [show zOf false UN = U from HU.out]; rintro e wk ⟨C2, l2, t2, rfl, d4, u4, v4, gk⟩; have K := (K.call gk).add (CanAt.mk_ d4 u4 v4); have jY := K.ints.2.1.ci kY; have jU := K.ints.1.ci kU))
          | (go_at_call 29; (with_reducible refine (hzer _).mono ?_); rintro e wm ⟨rfl, gm⟩; have K := K.call gm)
          | (go_at_call 25; (with_reducible refine (rnew_at jY jU zY2 zU2).mono ?_); rw [HV1.out, HV2.out, HV3.out]; rintro e wn ⟨E1, o1_, t4, E2, o2_, t5, rfl, e3, e4, gn⟩; have K := (((K.call gn).add e4).add e3).new 26 (Plains.four (decide (x < 0)) E1 o1_ t4 (decide (y < 0)) E2 o2_ t5))
          | fail)
      obtain ⟨⟨p0, p1, p2, p3⟩, ⟨q0, q1, q2, q3⟩, _⟩ := K.facts
      obtain ⟨f0, f1, f2, f3⟩ := K.free (i := 1) rfl
      have K6 := K.put4 1 rfl (decide (x < 0)) E1 o1_ t4 (decide (y < 0)) E2 o2_ t5
      simp only [List.set] at K6
      obtain ⟨_, ⟨r0, r1, r2, r3⟩, _⟩ := K6.facts
      go_wp2_with fail
      exact bodyPost_ret (v := .tuple #[.agg #[.bool (decide (x < 0)), .slice E1 o1_ t4, .bool (decide (y < 0)), .slice E2 o2_ t5], .int .i64 0]) (by simp [results, Tryz.results8, go_sem, r0, r1, r2, r3]) rfl (RetFE.of_st (x := x) (y := y) K6)
/-- The reference's ParseFrac. -/
theorem rqparse_at (l : List UInt8) (hl : l.length ≤ 100000) (w : World) :
    Calls Tryz.prog 8 #[.string ⟨l.toArray⟩] w (RetFE w (pfN l) (pfD l) (pfE l)) := by
  by_cases h1 : 400 < l.length
  · exact rqparse_long l hl w h1
  · cases h7 : ctF47 l
    · cases h6 : ctF46 l
      · exact rqparse_int l hl w h1 h7 h6
      · exact rqparse_dec l hl w h1 h7 h6
    · exact rqparse_quo l hl w h1 h7
end Go.Proofs.YtekoeohkkabkdaaGreat

