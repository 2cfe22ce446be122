/-
  Texts of fractions: the program's parseDecimal.
-/
import Derived.Test.YtekoeohkkabkdaaGreatTeE
import Derived.Deep.RegionHeld3
set_option linter.unusedVariables false
set_option linter.unusedSimpArgs false
set_option warningAsError false
namespace Go.Proofs.YtekoeohkkabkdaaGreat
open Go.RowKit

set_option maxHeartbeats 16000000 in
set_option maxRecDepth 100000 in
theorem parseDecimal_at (W D : List UInt8) (hW : W.length ≤ 400) (hD : D.length ≤ 399) (w : World) :
    Calls Tryz.prog 19 #[.string ⟨W.toArray⟩, .string ⟨D.toArray⟩] w (RetFE w (pdN W D) (pdD W D) (pdE W D)) := by
  have H0 := (St.start w).new 26 (Plains.four false none 0 0 false none 0 0)
  have HH := Lib.hid H0
  clear H0
  have hpre := fun w' => hasPrefixS_any W (by omega) w'
  have pw := fun w' => parse_at (wOf W) (by unfold wOf; split; exact (by decide); omega) w'
  have p1 := fun w' => parse_at (49 :: D) (by rw [List.length_cons]; omega) w'
  have pu := fun w' => parse_at (49 :: List.replicate D.length 48) (by rw [List.length_cons, List.length_replicate]; omega) w'
  have hrep := fun w' => repeat0_any D.length (by omega) w'
  have zN := parZ_sz (wOf W)
  have zS := parZ_sz (49 :: D)
  have zU := parZ_sz (49 :: List.replicate D.length 48)
  have e1 := w_parE W hW
  have e2 := one_parE D hD
  have hsz := pd_size W D hW hD
  have hV : pdV W D = zOf (cutV W).2 ((((decV ((cutV W).1 ++ D) : Nat) : Int)).natAbs) := by unfold pdV; rw [Int.natAbs_natCast]
  obtain ⟨hu1, hu2⟩ := zer_parZ D hD
  rw [hu1, hu2] at pu
  rw [hu1] at zU
  have hUp := pdU_pos D
  have hq : (¬ (parE (wOf W) = 0) ∧ ¬ pdOk W D) ∨ (parE (wOf W) = 0 ∧ ¬ (parE (49 :: D) = 0) ∧ ¬ pdOk W D) ∨ (parE (wOf W) = 0 ∧ parE (49 :: D) = 0 ∧ D = [] ∧ ¬ pdOk W D) ∨
      (parE (wOf W) = 0 ∧ parE (49 :: D) = 0 ∧ D ≠ [] ∧ pdOk W D) := by
    unfold pdOk
    rw [e1, e2]
    by_cases h1 : decB (cutV W).1 = true
    · by_cases h2 : allD D = true
      · by_cases h3 : D = []
        · exact .inr (.inr (.inl ⟨by rw [if_pos h1], by rw [if_pos h2], h3, fun h => by rw [h3] at h; exact absurd h.2.2 (by decide)⟩))
        · exact .inr (.inr (.inr ⟨by rw [if_pos h1], by rw [if_pos h2], h3, h1, h2, List.length_pos_iff.2 h3⟩))
      · exact .inr (.inl ⟨by rw [if_pos h1], by rw [if_neg h2]; decide, fun h => h2 h.2.1⟩)
    · exact .inl ⟨by rw [if_neg h1]; decide, fun h => h1 h.1⟩
  have hsz2 : pdOk W D → (((parZ (wOf W)).natAbs : Nat) : Int) * pdU D + (parZ (49 :: D) - pdU D) = ((decV ((cutV W).1 ++ D) : Nat) : Int) := fun h => hsz h.1 h.2.1
  clear hsz e1 e2 hu1 hu2
  obtain ⟨E1, HE1⟩ : ∃ v, Hid (parE (wOf W) = v) := ⟨_, rfl⟩
  obtain ⟨E2, HE2⟩ : ∃ v, Hid (parE (49 :: D) = v) := ⟨_, rfl⟩
  obtain ⟨N, HN⟩ : ∃ v, Hid (parZ (wOf W) = v) := ⟨_, rfl⟩
  obtain ⟨S, HS⟩ : ∃ v, Hid (parZ (49 :: D) = v) := ⟨_, rfl⟩
  obtain ⟨U, HU⟩ : ∃ v, Hid (pdU D = v) := ⟨_, rfl⟩
  obtain ⟨ng, HG⟩ : ∃ v, Hid ((cutV W).2 = v) := ⟨_, rfl⟩
  rw [HE1.out, HN.out] at pw
  rw [HE2.out, HS.out] at p1
  rw [HU.out] at pu zU hUp
  rw [HG.out] at hpre hV
  rw [HE1.out, HE2.out] at hq
  rw [HN.out] at zN
  rw [HS.out] at zS
  rw [HN.out, HS.out, HU.out] at hsz2
  obtain ⟨R, HR⟩ : ∃ v, Hid (((decV ((cutV W).1 ++ D) : Nat) : Int) = v) := ⟨_, rfl⟩
  rw [HR.out] at hsz2 hV
  obtain ⟨B, HB⟩ : ∃ v, Hid (((N.natAbs : Nat) : Int) = v) := ⟨_, rfl⟩
  have zB : Sz B 45 := zN.le (by rw [← HB.out, Int.natAbs_natCast]; exact Nat.le_refl _)
  rw [HB.out] at hsz2
  have zM : Sz (B * U) 90 := zB.mul zU
  have zT : Sz (S - U) 46 := zS.sub zU
  obtain ⟨M, HM⟩ : ∃ v, Hid (B * U = v) := ⟨_, rfl⟩
  obtain ⟨T, HT⟩ : ∃ v, Hid (S - U = v) := ⟨_, rfl⟩
  rw [HM.out] at zM
  rw [HT.out] at zT
  rw [HM.out, HT.out] at hsz2
  have zR0 : Sz (M + T) 91 := zM.add (zT.mono (by decide))
  have kN := zN.ok
  have kS := zS.ok
  have kU := zU.ok
  have kB := zB.ok
  have kM := zM.ok
  have kT := zT.ok
  have hcat1 : (⟨#[49]⟩ : ByteArray) ++ ⟨D.toArray⟩ = ⟨(49 :: D).toArray⟩ := by
    rw [show (⟨#[49]⟩ : ByteArray) = ⟨([49] : List UInt8).toArray⟩ from rfl, str_app]; first | done | rfl
  obtain ⟨Z0, HZ0⟩ : ∃ v, Hid (List.replicate D.length (48 : UInt8) = v) := ⟨_, rfl⟩
  have hZl : Z0.length ≤ 399 := by rw [← HZ0.out, List.length_replicate]; exact hD
  rw [HZ0.out] at pu hrep
  have hcat2 : (⟨#[49]⟩ : ByteArray) ++ ⟨Z0.toArray⟩ = ⟨(49 :: Z0).toArray⟩ := by
    rw [show (⟨#[49]⟩ : ByteArray) = ⟨([49] : List UInt8).toArray⟩ from rfl, str_app]; first | done | rfl
  obtain ⟨X1, HX1⟩ : ∃ v, Hid ((49 : UInt8) :: D = v) := ⟨_, rfl⟩
  obtain ⟨X2, HX2⟩ : ∃ v, Hid ((49 : UInt8) :: Z0 = v) := ⟨_, rfl⟩
  rw [HX1.out] at hcat1 p1
  rw [HX2.out] at hcat2 pu
  have hs1 := str_size D
  have hs2 := str_size Z0
  have b1 : ¬ 9223372036854775807 < 1 + D.length := by omega
  have b2 : ¬ 9223372036854775807 < 1 + Z0.length := by omega
  have b3 : ¬ 9223372036854775807 < D.length + 1 := by omega
  have b4 : ¬ 9223372036854775807 < Z0.length + 1 := by omega
  have hwc : ((W == [45, 48]) = true ∧ ∀ w', Calls Tryz.prog 20 #[.string ⟨#[48]⟩] w' (RetO w' N E1)) ∨ ((W == [45, 48]) = false ∧ ∀ w', Calls Tryz.prog 20 #[.string ⟨W.toArray⟩] w' (RetO w' N E1)) := by
    by_cases h : W = [45, 48]
    · refine .inl ⟨by rw [h]; decide, ?_⟩
      unfold wOf at pw
      rw [if_pos h] at pw
      exact pw
    · refine .inr ⟨beq_eq_false_iff_ne.2 h, ?_⟩
      unfold wOf at pw
      rw [if_neg h] at pw
      exact pw
  clear pw
  have HSZ := Lib.hid hsz2
  have HV := Lib.hid hV
  have HW := Lib.hid hwc
  have HQ := Lib.hid hq
  clear hsz2 hV hwc hq
  unfold RetO at p1 pu
  rcases HQ.out with ⟨h1, hb⟩ | ⟨h1, h2, hb⟩ | ⟨h1, h2, h3, hb⟩ | ⟨h1, h2, h3, hg⟩
  · obtain ⟨u1, u2, u3⟩ := pd_bad hb
    rw [u1, u2, u3]
    clear u1 u2 u3 hb HQ
    have g1 : ((E1 : Int) == 0) = false := beq_eq_false_iff_ne.2 h1
    have g2 : ((E1 : Int) != 0) = true := by rw [bne, g1]; rfl
    rcases HW.out with ⟨hw, pw⟩ | ⟨hw, pw⟩
    all_goals unfold RetO at pw
    all_goals clear HW
    all_goals (
      go_enter Tryz.func19, Tryz.ntmps19
      go_upto_region 7 with (first
      | (go_at_call 52; have K := HH.out; clear HH; (with_reducible refine (hpre _).mono ?_); rintro e wp ⟨rfl, gp⟩; have K := K.call gp)
        | (go_at_call_of 20 (Value.string ⟨X1.toArray⟩); (with_reducible refine (p1 _).mono ?_); rintro e wb ⟨A2, n2, c2, rfl, d2, gb⟩; have K := ((K.call gb).add d2).new 24 (Plains.two (decide (S < 0)) A2 n2 c2); obtain ⟨⟨p0, p1_⟩, ⟨p2, p3⟩, ⟨q0, q1, q2, q3⟩, _⟩ := K.facts)
        | (go_at_call_of 20 (Value.string ⟨X2.toArray⟩); (with_reducible refine (pu _).mono ?_); rintro e wc ⟨A3, n3, c3, rfl, d3, gc⟩; have K := ((K.call gc).add d3).new 24 (Plains.two (decide (U < 0)) A3 n3 c3))
        | (go_at_call 20; (with_reducible refine (pw _).mono ?_); rintro e wa ⟨A1, n1, c1, rfl, d1, ga⟩; have K := ((K.call ga).add d1).new 24 (Plains.two (decide (N < 0)) A1 n1 c1))
        | (go_at_call 53; (with_reducible refine (hrep _).mono ?_); rintro e wr ⟨rfl, gr⟩; have K := K.call gr; clear p0 p1_ p2 p3 q0 q1 q2 q3)
        | fail)

      have K := (K.add (CanAt.zero_ _)).add (CanAt.zero_ _)
      clear p0 p1_ p2 p3 q0 q1 q2 q3
      obtain ⟨_, _, ⟨q0, q1, q2, q3⟩, _⟩ := K.facts
      obtain ⟨f0, f1, f2, f3⟩ := K.free (i := 2) rfl
      have K4 := K.put4 2 rfl false none 0 0 false none 0 0
      simp only [List.set] at K4
      obtain ⟨_, _, ⟨r0, r1, r2, r3⟩, _⟩ := K4.facts
      go_wp2_with fail
      exact bodyPost_ret (v := .tuple #[.agg #[.bool (decide ((0 : Int) < 0)), .slice none 0 0, .bool (decide ((0 : Int) < 0)), .slice none 0 0], .int .i64 1]) (by simp [results, Tryz.results19, go_sem, r0, r1, r2, r3]) rfl (RetFE.of_st (x := 0) (y := 0) K4))
  · obtain ⟨u1, u2, u3⟩ := pd_bad hb
    rw [u1, u2, u3]
    clear u1 u2 u3 hb HQ
    subst h1
    have g1 : ((E2 : Int) == 0) = false := beq_eq_false_iff_ne.2 h2
    have g2 : ((E2 : Int) != 0) = true := by rw [bne, g1]; rfl
    rcases HW.out with ⟨hw, pw⟩ | ⟨hw, pw⟩
    all_goals unfold RetO at pw
    all_goals clear HW
    all_goals (
      go_enter Tryz.func19, Tryz.ntmps19
      go_upto_region 7 with (first
      | (go_at_call 52; have K := HH.out; clear HH; (with_reducible refine (hpre _).mono ?_); rintro e wp ⟨rfl, gp⟩; have K := K.call gp)
        | (go_at_call_of 20 (Value.string ⟨X1.toArray⟩); (with_reducible refine (p1 _).mono ?_); rintro e wb ⟨A2, n2, c2, rfl, d2, gb⟩; have K := ((K.call gb).add d2).new 24 (Plains.two (decide (S < 0)) A2 n2 c2); obtain ⟨⟨p0, p1_⟩, ⟨p2, p3⟩, ⟨q0, q1, q2, q3⟩, _⟩ := K.facts)
        | (go_at_call_of 20 (Value.string ⟨X2.toArray⟩); (with_reducible refine (pu _).mono ?_); rintro e wc ⟨A3, n3, c3, rfl, d3, gc⟩; have K := ((K.call gc).add d3).new 24 (Plains.two (decide (U < 0)) A3 n3 c3))
        | (go_at_call 20; (with_reducible refine (pw _).mono ?_); rintro e wa ⟨A1, n1, c1, rfl, d1, ga⟩; have K := ((K.call ga).add d1).new 24 (Plains.two (decide (N < 0)) A1 n1 c1))
        | (go_at_call 53; (with_reducible refine (hrep _).mono ?_); rintro e wr ⟨rfl, gr⟩; have K := K.call gr; clear p0 p1_ p2 p3 q0 q1 q2 q3)
        | fail)

      have K := (K.add (CanAt.zero_ _)).add (CanAt.zero_ _)
      clear p0 p1_ p2 p3 q0 q1 q2 q3
      obtain ⟨_, _, ⟨q0, q1, q2, q3⟩, _⟩ := K.facts
      obtain ⟨f0, f1, f2, f3⟩ := K.free (i := 2) rfl
      have K4 := K.put4 2 rfl false none 0 0 false none 0 0
      simp only [List.set] at K4
      obtain ⟨_, _, ⟨r0, r1, r2, r3⟩, _⟩ := K4.facts
      go_wp2_with fail
      exact bodyPost_ret (v := .tuple #[.agg #[.bool (decide ((0 : Int) < 0)), .slice none 0 0, .bool (decide ((0 : Int) < 0)), .slice none 0 0], .int .i64 1]) (by simp [results, Tryz.results19, go_sem, r0, r1, r2, r3]) rfl (RetFE.of_st (x := 0) (y := 0) K4))
  · obtain ⟨u1, u2, u3⟩ := pd_bad hb
    rw [u1, u2, u3]
    clear u1 u2 u3 hb HQ
    subst h1
    subst h2
    have g1 : (D == []) = true := by rw [h3]; rfl
    clear h3
    rcases HW.out with ⟨hw, pw⟩ | ⟨hw, pw⟩
    all_goals unfold RetO at pw
    all_goals clear HW
    all_goals (
      go_enter Tryz.func19, Tryz.ntmps19
      go_upto_region 7 with (first
      | (go_at_call 52; have K := HH.out; clear HH; (with_reducible refine (hpre _).mono ?_); rintro e wp ⟨rfl, gp⟩; have K := K.call gp)
        | (go_at_call_of 20 (Value.string ⟨X1.toArray⟩); (with_reducible refine (p1 _).mono ?_); rintro e wb ⟨A2, n2, c2, rfl, d2, gb⟩; have K := ((K.call gb).add d2).new 24 (Plains.two (decide (S < 0)) A2 n2 c2); obtain ⟨⟨p0, p1_⟩, ⟨p2, p3⟩, ⟨q0, q1, q2, q3⟩, _⟩ := K.facts)
        | (go_at_call_of 20 (Value.string ⟨X2.toArray⟩); (with_reducible refine (pu _).mono ?_); rintro e wc ⟨A3, n3, c3, rfl, d3, gc⟩; have K := ((K.call gc).add d3).new 24 (Plains.two (decide (U < 0)) A3 n3 c3))
        | (go_at_call 20; (with_reducible refine (pw _).mono ?_); rintro e wa ⟨A1, n1, c1, rfl, d1, ga⟩; have K := ((K.call ga).add d1).new 24 (Plains.two (decide (N < 0)) A1 n1 c1))
        | (go_at_call 53; (with_reducible refine (hrep _).mono ?_); rintro e wr ⟨rfl, gr⟩; have K := K.call gr; clear p0 p1_ p2 p3 q0 q1 q2 q3)
        | fail)

      have K := (K.add (CanAt.zero_ _)).add (CanAt.zero_ _)
      clear p0 p1_ p2 p3 q0 q1 q2 q3
      obtain ⟨_, _, ⟨q0, q1, q2, q3⟩, _⟩ := K.facts
      obtain ⟨f0, f1, f2, f3⟩ := K.free (i := 2) rfl
      have K4 := K.put4 2 rfl false none 0 0 false none 0 0
      simp only [List.set] at K4
      obtain ⟨_, _, ⟨r0, r1, r2, r3⟩, _⟩ := K4.facts
      go_wp2_with fail
      exact bodyPost_ret (v := .tuple #[.agg #[.bool (decide ((0 : Int) < 0)), .slice none 0 0, .bool (decide ((0 : Int) < 0)), .slice none 0 0], .int .i64 1]) (by simp [results, Tryz.results19, go_sem, r0, r1, r2, r3]) rfl (RetFE.of_st (x := 0) (y := 0) K4))
  · have hsz3 := HSZ.out hg
    obtain ⟨u1, u2, u3⟩ := pd_good hg
    rw [HV.out] at u1 u2
    rw [HU.out] at u1 u2
    clear HQ HSZ
    have zR : Sz R 91 := by rw [← hsz3]; exact zR0
    clear zR0
    have kR := zR.ok
    have zG : Sz (zOf ng R.natAbs) 91 := by unfold Sz; rw [zOf_natAbs]; exact zR
    have zG2 : Sz (zOf ng R.natAbs) 2000 := zG.mono (by decide)
    have zU2 : Sz U 2000 := zU.mono (by decide)
    obtain ⟨v1, v2, v3⟩ := nw_pos (z := zOf ng R.natAbs) hUp
    obtain ⟨x, HX⟩ : ∃ v, Hid (rn (zOf ng R.natAbs) U = v) := ⟨_, rfl⟩
    obtain ⟨y, HY⟩ : ∃ v, Hid (rd (zOf ng R.natAbs) U = v) := ⟨_, rfl⟩
    rw [u1, u2, u3, HX.out, HY.out]
    rw [HX.out] at v1
    rw [HY.out] at v2
    have HV1 := Lib.hid v1
    have HV2 := Lib.hid v2
    have HV3 := Lib.hid v3
    clear u1 u2 u3 v1 v2 v3 hg hUp
    subst h1
    subst h2
    have g1 : (D == []) = false := beq_eq_false_iff_ne.2 h3
    clear h3
    rcases HW.out with ⟨hw, pw⟩ | ⟨hw, pw⟩
    all_goals unfold RetO at pw
    all_goals clear HW
    all_goals (
      go_enter Tryz.func19, Tryz.ntmps19
      go_upto_region 9 with (first
      | (go_at_call 52; have K := HH.out; clear HH; (with_reducible refine (hpre _).mono ?_); rintro e wp ⟨rfl, gp⟩; have K := K.call gp)
        | (go_at_call_of 20 (Value.string ⟨X1.toArray⟩); (with_reducible refine (p1 _).mono ?_); rintro e wb ⟨A2, n2, c2, rfl, d2, gb⟩; have K := ((K.call gb).add d2).new 24 (Plains.two (decide (S < 0)) A2 n2 c2); obtain ⟨⟨p0, p1_⟩, ⟨p2, p3⟩, ⟨q0, q1, q2, q3⟩, _⟩ := K.facts)
        | (go_at_call_of 20 (Value.string ⟨X2.toArray⟩); (with_reducible refine (pu _).mono ?_); rintro e wc ⟨A3, n3, c3, rfl, d3, gc⟩; have K := ((K.call gc).add d3).new 24 (Plains.two (decide (U < 0)) A3 n3 c3))
        | (go_at_call 20; (with_reducible refine (pw _).mono ?_); rintro e wa ⟨A1, n1, c1, rfl, d1, ga⟩; have K := ((K.call ga).add d1).new 24 (Plains.two (decide (N < 0)) A1 n1 c1))
        | (go_at_call 53; (with_reducible refine (hrep _).mono ?_); rintro e wr ⟨rfl, gr⟩; have K := K.call gr; clear p0 p1_ p2 p3 q0 q1 q2 q3)
        | fail)

      (try simp only [World.size_alloc] at K)
      have K2 := K
      clear K
      generalize wa.heap.size = hn at K2 ⊢
      generalize wb.heap.size = hs at K2 ⊢
      obtain ⟨⟨aa0, aa1⟩, ⟨bb0, bb1⟩, ⟨cc0, cc1⟩, _⟩ := K2.facts
      generalize wc.alloc (.cells #[.bool (decide (U < 0)), .slice A3 n3 c3] 24) = W1 at K2 aa0 aa1 bb0 bb1 cc0 cc1 ⊢
      generalize wc.heap.size = hu at K2 aa0 aa1 ⊢
      have Kd := K2.drew
      have iU0 := K2.ints.1.ci kU
      have iS0 := K2.ints.2.1.ci kS
      have iN0 := K2.ints.2.2.1.ci kN
      obtain ⟨⟨a0, a1⟩, ⟨i0, i1⟩, ⟨j0, j1⟩, _⟩ := Kd.facts
      have iU := Kd.ints.1.ci kU
      have iS := Kd.ints.2.1.ci kS
      have iN := Kd.ints.2.2.1.ci kN
      have K := Kd
      clear Kd
      have n1_ := World.new_ne _ _ aa0
      have n2_ := World.new_ne _ _ bb0
      have n3_ := World.new_ne _ _ cc0
      dsimp only at n1_ n2_ n3_
      have n4_ := Ne.symm n1_
      have n5_ := Ne.symm n2_
      have n6_ := Ne.symm n3_
      go_region_held3 (fun w' => (w'.cell? ⟨hu, 0, none⟩ = some (.bool (decide (U < 0))) ∧ w'.cell? ⟨hu, 1, none⟩ = some (.slice A3 n3 c3)) ∧ (w'.cell? ⟨hs, 0, none⟩ = some (.bool (decide (S < 0))) ∧ w'.cell? ⟨hs, 1, none⟩ = some (.slice A2 n2 c2)) ∧ w'.cell? ⟨hn, 0, none⟩ = some (.bool (decide (N < 0))) ∧ w'.cell? ⟨hn, 1, none⟩ = some (.slice A1 n1 c1))
        (go_keep)
        (first
          | (go_at_call 56; (first | ((with_reducible refine (abs_at iN).mono ?_); rw [HB.out]; rintro e x1 ⟨B1, m1, k1, rfl, d4, u4, v4, g4⟩; have Kw := (Kv.call g4).add (CanAt.mk_ d4 u4 v4); clear Kv; have Kv := Kw; clear Kw; clear o0 o1 f0 f1 a0 a1 i0 i1 j0 j1; obtain ⟨⟨o0, o1⟩, ⟨a0, a1⟩, ⟨i0, i1⟩, ⟨j0, j1⟩, _⟩ := Kv.facts; obtain ⟨f0, f1⟩ := Kv.free (i := 0) rfl; replace iU := iU.call g4; replace iS := iS.call g4; have jB := (CanAt.mk_ d4 u4 v4).at_ kB) | ((with_reducible refine (abs_at iN).mono ?_); rw [HB.out]; rintro e x1 ⟨B1, m1, k1, rfl, d4, u4, v4, g4⟩; have Kw := (K.call g4).add (CanAt.mk_ d4 u4 v4); clear K; have K := Kw; clear Kw; clear n1_ n2_ n3_ n4_ n5_ n6_ a0 a1 i0 i1 j0 j1; obtain ⟨⟨a0, a1⟩, ⟨i0, i1⟩, ⟨j0, j1⟩, _⟩ := K.facts; have n1_ := World.new_ne _ _ a0; have n2_ := World.new_ne _ _ i0; have n3_ := World.new_ne _ _ j0; dsimp only at n1_ n2_ n3_; have n4_ := Ne.symm n1_; have n5_ := Ne.symm n2_; have n6_ := Ne.symm n3_; replace iU := iU.call g4; replace iS := iS.call g4; have jB := (CanAt.mk_ d4 u4 v4).at_ kB) | ((with_reducible refine (abs_at (iN0.call (bnew _ _).drew)).mono ?_); rw [HB.out]; rintro e x1 ⟨B1, m1, k1, rfl, d4, u4, v4, g4⟩; have Kv := ((K2.new 24 (Plains.two false none 0 0)).drew.call g4).add (CanAt.mk_ d4 u4 v4); clear K; clear n1_ n2_ n3_ n4_ n5_ n6_ a0 a1 i0 i1 j0 j1; obtain ⟨⟨o0, o1⟩, ⟨a0, a1⟩, ⟨i0, i1⟩, ⟨j0, j1⟩, _⟩ := Kv.facts; obtain ⟨f0, f1⟩ := Kv.free (i := 0) rfl; obtain ⟨y1, y2⟩ := Kv.ne 0 1 rfl rfl (by decide); obtain ⟨y3, y4⟩ := Kv.ne 0 2 rfl rfl (by decide); obtain ⟨y5, y6⟩ := Kv.ne 0 3 rfl rfl (by decide); have gz := bcall (bnew _ _).drew g4; clear iU; have iU := iU0.call gz; clear iS; have iS := iS0.call gz; have jB := (CanAt.mk_ d4 u4 v4).at_ kB)))
          | (go_at_call 55; (first | ((with_reducible refine (mul_at jB iU).mono ?_); rw [HM.out]; rintro e x2 ⟨B2, m2, k2, rfl, d5, u5, v5, g5⟩; have Kw := (Kv.call g5).add (CanAt.mk_ d5 u5 v5); clear Kv; have Kv := Kw; clear Kw; clear o0 o1 f0 f1 a0 a1 i0 i1 j0 j1; obtain ⟨⟨o0, o1⟩, ⟨a0, a1⟩, ⟨i0, i1⟩, ⟨j0, j1⟩, _⟩ := Kv.facts; obtain ⟨f0, f1⟩ := Kv.free (i := 0) rfl; replace iU := iU.call g5; replace iS := iS.call g5; have jM := (CanAt.mk_ d5 u5 v5).at_ kM) | ((with_reducible refine (mul_at jB iU).mono ?_); rw [HM.out]; rintro e x2 ⟨B2, m2, k2, rfl, d5, u5, v5, g5⟩; have Kw := (K.call g5).add (CanAt.mk_ d5 u5 v5); clear K; have K := Kw; clear Kw; clear n1_ n2_ n3_ n4_ n5_ n6_ a0 a1 i0 i1 j0 j1; obtain ⟨⟨a0, a1⟩, ⟨i0, i1⟩, ⟨j0, j1⟩, _⟩ := K.facts; have n1_ := World.new_ne _ _ a0; have n2_ := World.new_ne _ _ i0; have n3_ := World.new_ne _ _ j0; dsimp only at n1_ n2_ n3_; have n4_ := Ne.symm n1_; have n5_ := Ne.symm n2_; have n6_ := Ne.symm n3_; replace iU := iU.call g5; replace iS := iS.call g5; have jM := (CanAt.mk_ d5 u5 v5).at_ kM) | ((with_reducible refine (mul_at (jB.call (bnew _ _)) (iU.call (bnew _ _))).mono ?_); rw [HM.out]; rintro e x2 ⟨B2, m2, k2, rfl, d5, u5, v5, g5⟩; have Kv := ((K.new 24 (Plains.two false none 0 0)).call g5).add (CanAt.mk_ d5 u5 v5); clear K; clear n1_ n2_ n3_ n4_ n5_ n6_ a0 a1 i0 i1 j0 j1; obtain ⟨⟨o0, o1⟩, ⟨a0, a1⟩, ⟨i0, i1⟩, ⟨j0, j1⟩, _⟩ := Kv.facts; obtain ⟨f0, f1⟩ := Kv.free (i := 0) rfl; obtain ⟨y1, y2⟩ := Kv.ne 0 1 rfl rfl (by decide); obtain ⟨y3, y4⟩ := Kv.ne 0 2 rfl rfl (by decide); obtain ⟨y5, y6⟩ := Kv.ne 0 3 rfl rfl (by decide); have gz := bcall (bnew _ _) g5; replace iU := iU.call gz; replace iS := iS.call gz; have jM := (CanAt.mk_ d5 u5 v5).at_ kM)))
          | (go_at_call 57; (first | ((with_reducible refine (sub_at iS iU).mono ?_); rw [HT.out]; rintro e x3 ⟨B3, m3, k3, rfl, d6, u6, v6, g6⟩; have Kw := (Kv.call g6).add (CanAt.mk_ d6 u6 v6); clear Kv; have Kv := Kw; clear Kw; clear o0 o1 f0 f1 a0 a1 i0 i1 j0 j1; obtain ⟨⟨o0, o1⟩, ⟨a0, a1⟩, ⟨i0, i1⟩, ⟨j0, j1⟩, _⟩ := Kv.facts; obtain ⟨f0, f1⟩ := Kv.free (i := 0) rfl; replace jM := jM.call g6; have jT := (CanAt.mk_ d6 u6 v6).at_ kT) | ((with_reducible refine (sub_at iS iU).mono ?_); rw [HT.out]; rintro e x3 ⟨B3, m3, k3, rfl, d6, u6, v6, g6⟩; have Kw := (K.call g6).add (CanAt.mk_ d6 u6 v6); clear K; have K := Kw; clear Kw; clear n1_ n2_ n3_ n4_ n5_ n6_ a0 a1 i0 i1 j0 j1; obtain ⟨⟨a0, a1⟩, ⟨i0, i1⟩, ⟨j0, j1⟩, _⟩ := K.facts; have n1_ := World.new_ne _ _ a0; have n2_ := World.new_ne _ _ i0; have n3_ := World.new_ne _ _ j0; dsimp only at n1_ n2_ n3_; have n4_ := Ne.symm n1_; have n5_ := Ne.symm n2_; have n6_ := Ne.symm n3_; replace jM := jM.call g6; have jT := (CanAt.mk_ d6 u6 v6).at_ kT) | ((with_reducible refine (sub_at (iS.call (bnew _ _)) (iU.call (bnew _ _))).mono ?_); rw [HT.out]; rintro e x3 ⟨B3, m3, k3, rfl, d6, u6, v6, g6⟩; have Kv := ((K.new 24 (Plains.two false none 0 0)).call g6).add (CanAt.mk_ d6 u6 v6); clear K; clear n1_ n2_ n3_ n4_ n5_ n6_ a0 a1 i0 i1 j0 j1; obtain ⟨⟨o0, o1⟩, ⟨a0, a1⟩, ⟨i0, i1⟩, ⟨j0, j1⟩, _⟩ := Kv.facts; obtain ⟨f0, f1⟩ := Kv.free (i := 0) rfl; obtain ⟨y1, y2⟩ := Kv.ne 0 1 rfl rfl (by decide); obtain ⟨y3, y4⟩ := Kv.ne 0 2 rfl rfl (by decide); obtain ⟨y5, y6⟩ := Kv.ne 0 3 rfl rfl (by decide); have gz := bcall (bnew _ _) g6; replace jM := jM.call gz; have jT := (CanAt.mk_ d6 u6 v6).at_ kT)))
          | (go_at_call 54; (first | ((with_reducible refine (add_at jM jT).mono ?_); rw [hsz3]; rintro e x4 ⟨B4, m4, k4, rfl, d7, u7, v7, g7⟩; have Kw := (Kv.call g7).add (CanAt.mk_ d7 u7 v7); clear Kv; have Kv := Kw; clear Kw; clear o0 o1 f0 f1 a0 a1 i0 i1 j0 j1; obtain ⟨⟨o0, o1⟩, ⟨a0, a1⟩, ⟨i0, i1⟩, ⟨j0, j1⟩, _⟩ := Kv.facts; obtain ⟨f0, f1⟩ := Kv.free (i := 0) rfl; skip) | ((with_reducible refine (add_at jM jT).mono ?_); rw [hsz3]; rintro e x4 ⟨B4, m4, k4, rfl, d7, u7, v7, g7⟩; have Kw := (K.call g7).add (CanAt.mk_ d7 u7 v7); clear K; have K := Kw; clear Kw; clear n1_ n2_ n3_ n4_ n5_ n6_ a0 a1 i0 i1 j0 j1; obtain ⟨⟨a0, a1⟩, ⟨i0, i1⟩, ⟨j0, j1⟩, _⟩ := K.facts; have n1_ := World.new_ne _ _ a0; have n2_ := World.new_ne _ _ i0; have n3_ := World.new_ne _ _ j0; dsimp only at n1_ n2_ n3_; have n4_ := Ne.symm n1_; have n5_ := Ne.symm n2_; have n6_ := Ne.symm n3_; skip) | ((with_reducible refine (add_at (jM.call (bnew _ _)) (jT.call (bnew _ _))).mono ?_); rw [hsz3]; rintro e x4 ⟨B4, m4, k4, rfl, d7, u7, v7, g7⟩; have Kv := ((K.new 24 (Plains.two false none 0 0)).call g7).add (CanAt.mk_ d7 u7 v7); clear K; clear n1_ n2_ n3_ n4_ n5_ n6_ a0 a1 i0 i1 j0 j1; obtain ⟨⟨o0, o1⟩, ⟨a0, a1⟩, ⟨i0, i1⟩, ⟨j0, j1⟩, _⟩ := Kv.facts; obtain ⟨f0, f1⟩ := Kv.free (i := 0) rfl; obtain ⟨y1, y2⟩ := Kv.ne 0 1 rfl rfl (by decide); obtain ⟨y3, y4⟩ := Kv.ne 0 2 rfl rfl (by decide); obtain ⟨y5, y6⟩ := Kv.ne 0 3 rfl rfl (by decide); have gz := bcall (bnew _ _) g7; skip)))
          | fail)
      all_goals (first
        | (have K5 := Kv.put 0 rfl (decide (R < 0)) B4 m4 k4; simp only [List.set] at K5)
        | (have K5 := K.new 24 (Plains.two (decide (R < 0)) B4 m4 k4)))
      all_goals clear a0 a1 i0 i1 j0 j1
      all_goals obtain ⟨⟨r0, r1⟩, ⟨a0, a1⟩, _, _, ⟨q0, q1, q2, q3⟩, _⟩ := K5.facts
      all_goals have jR := K5.ints.1.c.sg kR ng
      all_goals have jU := K5.ints.2.2.2.2.1.ci kU
      all_goals go_wp2_with (first
        | (go_at_call 39; (with_reducible refine (new_at jR jU zG2 zU2).mono ?_); rw [HV1.out, HV2.out, HV3.out]; rintro e w3 ⟨A5, n5, c5, A6, n6, c6, rfl, d8, d9, g9⟩; have K := ((K5.call g9).add d9).add d8; clear q0 q1 q2 q3; obtain ⟨_, _, _, _, ⟨q0, q1, q2, q3⟩, _⟩ := K.facts; obtain ⟨f0, f1, f2, f3⟩ := K.free (i := 4) rfl)
        | fail)
      all_goals have K6 := K.put4 4 rfl (decide (x < 0)) A5 n5 c5 (decide (y < 0)) A6 n6 c6
      all_goals simp only [List.set] at K6
      all_goals obtain ⟨_, _, _, _, ⟨r0, r1, r2, r3⟩, _⟩ := K6.facts
      all_goals exact bodyPost_ret (v := .tuple #[.agg #[.bool (decide (x < 0)), .slice A5 n5 c5, .bool (decide (y < 0)), .slice A6 n6 c6], .int .i64 0]) (by simp [results, Tryz.results19, go_sem, r0, r1, r2, r3]) rfl (RetFE.of_st K6))
end Go.Proofs.YtekoeohkkabkdaaGreat

