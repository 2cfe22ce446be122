/-
  Texts of fractions: how great a parsed integer is; the program's parseQuotient.
-/
import Derived.Test.YtekoeohkkabkdaaGreatTxI
import Derived.Test.YtekoeohkkabkdaaGreatFrcC
set_option linter.unusedVariables false
set_option linter.unusedSimpArgs false
set_option warningAsError false
namespace Go.Proofs.YtekoeohkkabkdaaGreat
open Go.RowKit

theorem ten_BB : ∀ k, 10 ^ (9 * k) ≤ BB ^ k
  | 0 => by simp
  | k + 1 => by
    rw [Nat.mul_add, Nat.pow_add, Nat.pow_succ]
    exact Nat.mul_le_mul (ten_BB k) (by rw [BB_eq]; decide)
theorem sz_dec {l : List UInt8} {k : Nat} (h : allD l = true) (hk : l.length ≤ 9 * k) (s : Bool) : Sz (zOf s (decV l)) k := by
  unfold Sz
  rw [zOf_natAbs]
  exact Nat.lt_of_lt_of_le (decV_lt h) (Nat.le_trans (Nat.pow_le_pow_right (by decide) hk) (ten_BB k))
theorem sz_zero (k : Nat) (hk : 1 ≤ k) : Sz 0 k := sz_small (by decide) (by decide) k hk
theorem parZ_sz (l : List UInt8) : Sz (parZ l) 45 := by
  unfold parZ
  split
  · rename_i h
    unfold parE at h
    split at h
    · omega
    · rename_i h4
      split at h
      · rename_i h5
        have := cutV_len l
        exact sz_dec (allD_of h5.1) (by omega) _
      · omega
  · exact sz_zero _ (by decide)
def pqOk (n d : List UInt8) : Prop := parE n = 0 ∧ parE d = 0 ∧ 0 < parZ d
instance pqDec (n d : List UInt8) : Decidable (pqOk n d) := by unfold pqOk; infer_instance
def pqE (n d : List UInt8) : Int := if pqOk n d then 0 else 1
def pqN (n d : List UInt8) : Int := if pqOk n d then rn (parZ n) (parZ d) else 0
def pqD (n d : List UInt8) : Int := if pqOk n d then rd (parZ n) (parZ d) else 0
theorem pq_bad {n d : List UInt8} (h : ¬ pqOk n d) : pqN n d = 0 ∧ pqD n d = 0 ∧ pqE n d = 1 := by unfold pqN pqD pqE; rw [if_neg h, if_neg h, if_neg h]; exact ⟨rfl, rfl, rfl⟩
theorem pq_good {n d : List UInt8} (h : pqOk n d) : pqN n d = rn (parZ n) (parZ d) ∧ pqD n d = rd (parZ n) (parZ d) ∧ pqE n d = 0 := by unfold pqN pqD pqE; rw [if_pos h, if_pos h, if_pos h]; exact ⟨rfl, rfl, rfl⟩
theorem nw_pos {z d : Int} (h : 0 < d) : nwN z d = rn z d ∧ nwD z d = rd z d ∧ nwE d = 0 := by
  unfold nwN nwD nwE
  rw [if_neg (by omega), if_neg (by omega), if_neg (by omega)]; exact ⟨rfl, rfl, rfl⟩
theorem sgn_pos {d : Int} (h : 0 < d) : sgn d = 1 := by unfold sgn cmpI; split <;> (try split) <;> omega
theorem sgn_nonpos {d : Int} (h : ¬ 0 < d) : sgn d ≤ 0 := by unfold sgn cmpI; split <;> (try split) <;> omega

set_option maxHeartbeats 8000000 in
set_option maxRecDepth 100000 in
theorem parseQuotient_at (n d : List UInt8) (hn : n.length ≤ 100000) (hd : d.length ≤ 100000) (w : World) :
    Calls Tryz.prog 18 #[.string ⟨n.toArray⟩, .string ⟨d.toArray⟩] w (RetFE w (pqN n d) (pqD n d) (pqE n d)) := by
  have H0 := (St.start w).new 26 (Plains.four false none 0 0 false none 0 0)
  have HH := Lib.hid H0
  clear H0
  have pn := parse_at n hn
  have pd := parse_at d hd
  have z1 := parZ_sz n
  have z2 := parZ_sz d
  have hq : (¬ (parE n = 0) ∧ ¬ pqOk n d) ∨ (parE n = 0 ∧ ¬ (parE d = 0) ∧ ¬ pqOk n d) ∨ (parE n = 0 ∧ parE d = 0 ∧ sgn (parZ d) ≤ 0 ∧ ¬ pqOk n d) ∨ (parE n = 0 ∧ parE d = 0 ∧ sgn (parZ d) = 1 ∧ 0 < parZ d ∧ pqOk n d) := by
    unfold pqOk
    by_cases h1 : parE n = 0
    · by_cases h2 : parE d = 0
      · by_cases h3 : 0 < parZ d
        · exact .inr (.inr (.inr ⟨h1, h2, sgn_pos h3, h3, h1, h2, h3⟩))
        · exact .inr (.inr (.inl ⟨h1, h2, sgn_nonpos h3, fun h => h3 h.2.2⟩))
      · exact .inr (.inl ⟨h1, h2, fun h => h2 h.2.1⟩)
    · exact .inl ⟨h1, fun h => h1 h.1⟩
  obtain ⟨E1, HE1⟩ : ∃ v, Hid (parE n = v) := ⟨_, rfl⟩
  obtain ⟨E2, HE2⟩ : ∃ v, Hid (parE d = v) := ⟨_, rfl⟩
  obtain ⟨Z1, HZ1⟩ : ∃ v, Hid (parZ n = v) := ⟨_, rfl⟩
  obtain ⟨Z2, HZ2⟩ : ∃ v, Hid (parZ d = v) := ⟨_, rfl⟩
  obtain ⟨sg, HS⟩ : ∃ v, Hid (sgn Z2 = v) := ⟨_, rfl⟩
  rw [HE1.out, HZ1.out] at pn
  rw [HE2.out, HZ2.out] at pd
  rw [HE1.out, HE2.out, HZ2.out, HS.out] at hq
  rw [HZ1.out] at z1
  rw [HZ2.out] at z2
  have kz1 := z1.ok
  have kz2 := z2.ok
  unfold RetO at pn pd
  rcases hq with ⟨h1, hb⟩ | ⟨h1, h2, hb⟩ | ⟨h1, h2, h3, hb⟩ | ⟨h1, h2, h3, h4, hg⟩
  · obtain ⟨u1, u2, u3⟩ := pq_bad hb
    rw [u1, u2, u3]
    clear u1 u2 u3 hb
    have g1 : ((E1 : Int) == 0) = false := beq_eq_false_iff_ne.2 h1
    have g2 : ((E1 : Int) != 0) = true := by rw [bne, g1]; rfl
    go_enter Tryz.func18, Tryz.ntmps18
    go_upto_region 4 with (first
      | (go_at_call_of 20 (Value.string ⟨n.toArray⟩); have K := HH.out; clear HH; (with_reducible refine (pn _).mono ?_); rintro e wa ⟨A1, n1, c1, rfl, d1, ga⟩; have K := ((K.call ga).add d1).new 24 (Plains.two (decide (Z1 < 0)) A1 n1 c1))
      | (go_at_call_of 20 (Value.string ⟨d.toArray⟩); (with_reducible refine (pd _).mono ?_); rintro e wb ⟨A2, n2, c2, rfl, d2, gb⟩; have K := ((K.call gb).add d2).new 24 (Plains.two (decide (Z2 < 0)) A2 n2 c2); obtain ⟨⟨p0, p1⟩, ⟨p2, p3⟩, ⟨q0, q1, q2, q3⟩, _⟩ := K.facts; have i2 := K.ints.1.ci kz2)
      | (go_at_call 51; (with_reducible refine (sign_at i2).mono ?_); rw [HS.out]; rintro e wc ⟨rfl, gc⟩; have K := K.call gc; clear p0 p1 p2 p3 q0 q1 q2 q3; obtain ⟨⟨p0, p1⟩, ⟨p2, p3⟩, ⟨q0, q1, q2, q3⟩, _⟩ := K.facts)
      | fail)
    have K := (K.add (CanAt.zero_ _)).add (CanAt.zero_ _)
    clear p0 p1 p2 p3 q0 q1 q2 q3
    obtain ⟨_, _, ⟨q0, q1, q2, q3⟩, _⟩ := K.facts
    obtain ⟨f0, f1, f2, f3⟩ := K.free (i := 2) rfl
    have K4 := K.put4 2 rfl false none 0 0 false none 0 0
    simp only [List.set] at K4
    obtain ⟨_, _, ⟨r0, r1, r2, r3⟩, _⟩ := K4.facts
    go_wp2_with fail
    exact bodyPost_ret (v := .tuple #[.agg #[.bool (decide ((0 : Int) < 0)), .slice none 0 0, .bool (decide ((0 : Int) < 0)), .slice none 0 0], .int .i64 1]) (by simp [results, Tryz.results18, go_sem, r0, r1, r2, r3]) rfl (RetFE.of_st (x := 0) (y := 0) K4)
  · obtain ⟨u1, u2, u3⟩ := pq_bad hb
    rw [u1, u2, u3]
    clear u1 u2 u3 hb
    subst h1
    have g1 : ((E2 : Int) == 0) = false := beq_eq_false_iff_ne.2 h2
    have g2 : ((E2 : Int) != 0) = true := by rw [bne, g1]; rfl
    go_enter Tryz.func18, Tryz.ntmps18
    go_upto_region 4 with (first
      | (go_at_call_of 20 (Value.string ⟨n.toArray⟩); have K := HH.out; clear HH; (with_reducible refine (pn _).mono ?_); rintro e wa ⟨A1, n1, c1, rfl, d1, ga⟩; have K := ((K.call ga).add d1).new 24 (Plains.two (decide (Z1 < 0)) A1 n1 c1))
      | (go_at_call_of 20 (Value.string ⟨d.toArray⟩); (with_reducible refine (pd _).mono ?_); rintro e wb ⟨A2, n2, c2, rfl, d2, gb⟩; have K := ((K.call gb).add d2).new 24 (Plains.two (decide (Z2 < 0)) A2 n2 c2); obtain ⟨⟨p0, p1⟩, ⟨p2, p3⟩, ⟨q0, q1, q2, q3⟩, _⟩ := K.facts; have i2 := K.ints.1.ci kz2)
      | (go_at_call 51; (with_reducible refine (sign_at i2).mono ?_); rw [HS.out]; rintro e wc ⟨rfl, gc⟩; have K := K.call gc; clear p0 p1 p2 p3 q0 q1 q2 q3; obtain ⟨⟨p0, p1⟩, ⟨p2, p3⟩, ⟨q0, q1, q2, q3⟩, _⟩ := K.facts)
      | fail)
    have K := (K.add (CanAt.zero_ _)).add (CanAt.zero_ _)
    clear p0 p1 p2 p3 q0 q1 q2 q3
    obtain ⟨_, _, ⟨q0, q1, q2, q3⟩, _⟩ := K.facts
    obtain ⟨f0, f1, f2, f3⟩ := K.free (i := 2) rfl
    have K4 := K.put4 2 rfl false none 0 0 false none 0 0
    simp only [List.set] at K4
    obtain ⟨_, _, ⟨r0, r1, r2, r3⟩, _⟩ := K4.facts
    go_wp2_with fail
    exact bodyPost_ret (v := .tuple #[.agg #[.bool (decide ((0 : Int) < 0)), .slice none 0 0, .bool (decide ((0 : Int) < 0)), .slice none 0 0], .int .i64 1]) (by simp [results, Tryz.results18, go_sem, r0, r1, r2, r3]) rfl (RetFE.of_st (x := 0) (y := 0) K4)
  · obtain ⟨u1, u2, u3⟩ := pq_bad hb
    rw [u1, u2, u3]
    clear u1 u2 u3 hb
    subst h1
    subst h2
    have g1 : decide (sg ≤ 0) = true := decide_eq_true h3
    go_enter Tryz.func18, Tryz.ntmps18
    go_upto_region 4 with (first
      | (go_at_call_of 20 (Value.string ⟨n.toArray⟩); have K := HH.out; clear HH; (with_reducible refine (pn _).mono ?_); rintro e wa ⟨A1, n1, c1, rfl, d1, ga⟩; have K := ((K.call ga).add d1).new 24 (Plains.two (decide (Z1 < 0)) A1 n1 c1))
      | (go_at_call_of 20 (Value.string ⟨d.toArray⟩); (with_reducible refine (pd _).mono ?_); rintro e wb ⟨A2, n2, c2, rfl, d2, gb⟩; have K := ((K.call gb).add d2).new 24 (Plains.two (decide (Z2 < 0)) A2 n2 c2); obtain ⟨⟨p0, p1⟩, ⟨p2, p3⟩, ⟨q0, q1, q2, q3⟩, _⟩ := K.facts; have i2 := K.ints.1.ci kz2)
      | (go_at_call 51; (with_reducible refine (sign_at i2).mono ?_); rw [HS.out]; rintro e wc ⟨rfl, gc⟩; have K := K.call gc; clear p0 p1 p2 p3 q0 q1 q2 q3; obtain ⟨⟨p0, p1⟩, ⟨p2, p3⟩, ⟨q0, q1, q2, q3⟩, _⟩ := K.facts)
      | fail)
    have K := (K.add (CanAt.zero_ _)).add (CanAt.zero_ _)
    clear p0 p1 p2 p3 q0 q1 q2 q3
    obtain ⟨_, _, ⟨q0, q1, q2, q3⟩, _⟩ := K.facts
    obtain ⟨f0, f1, f2, f3⟩ := K.free (i := 2) rfl
    have K4 := K.put4 2 rfl false none 0 0 false none 0 0
    simp only [List.set] at K4
    obtain ⟨_, _, ⟨r0, r1, r2, r3⟩, _⟩ := K4.facts
    go_wp2_with fail
    exact bodyPost_ret (v := .tuple #[.agg #[.bool (decide ((0 : Int) < 0)), .slice none 0 0, .bool (decide ((0 : Int) < 0)), .slice none 0 0], .int .i64 1]) (by simp [results, Tryz.results18, go_sem, r0, r1, r2, r3]) rfl (RetFE.of_st (x := 0) (y := 0) K4)
  · obtain ⟨u1, u2, u3⟩ := pq_good hg
    rw [HZ1.out, HZ2.out] at u1 u2
    obtain ⟨x, HX⟩ : ∃ v, Hid (rn Z1 Z2 = v) := ⟨_, rfl⟩
    obtain ⟨y, HY⟩ : ∃ v, Hid (rd Z1 Z2 = v) := ⟨_, rfl⟩
    rw [u1, u2, u3, HX.out, HY.out]
    obtain ⟨v1, v2, v3⟩ := nw_pos (z := Z1) h4
    rw [HX.out] at v1
    rw [HY.out] at v2
    have HV1 := Lib.hid v1
    have HV2 := Lib.hid v2
    have HV3 := Lib.hid v3
    have z1' : Sz Z1 2000 := z1.mono (by decide)
    have z2' : Sz Z2 2000 := z2.mono (by decide)
    subst h1
    subst h2
    have g1 : decide ((1 : Int) ≤ 0) = false := by decide
    clear u1 u2 u3 v1 v2 v3 hg h4
    subst h3
    go_enter Tryz.func18, Tryz.ntmps18
    go_upto_region 5 with (first
      | (go_at_call_of 20 (Value.string ⟨n.toArray⟩); have K := HH.out; clear HH; (with_reducible refine (pn _).mono ?_); rintro e wa ⟨A1, n1, c1, rfl, d1, ga⟩; have K := ((K.call ga).add d1).new 24 (Plains.two (decide (Z1 < 0)) A1 n1 c1))
      | (go_at_call_of 20 (Value.string ⟨d.toArray⟩); (with_reducible refine (pd _).mono ?_); rintro e wb ⟨A2, n2, c2, rfl, d2, gb⟩; have K := ((K.call gb).add d2).new 24 (Plains.two (decide (Z2 < 0)) A2 n2 c2); obtain ⟨⟨p0, p1⟩, ⟨p2, p3⟩, ⟨q0, q1, q2, q3⟩, _⟩ := K.facts; have i2 := K.ints.1.ci kz2)
      | (go_at_call 51; (with_reducible refine (sign_at i2).mono ?_); rw [HS.out]; rintro e wc ⟨rfl, gc⟩; have K := K.call gc; clear p0 p1 p2 p3 q0 q1 q2 q3; obtain ⟨⟨p0, p1⟩, ⟨p2, p3⟩, ⟨q0, q1, q2, q3⟩, _⟩ := K.facts)
      | fail)
    have i1 := K.ints.2.1.ci kz1
    clear i2
    have i2 := K.ints.1.ci kz2
    go_wp2_with (first
      | (go_at_call 39; (with_reducible refine (new_at i1 i2 z1' z2').mono ?_); rw [HV1.out, HV2.out, HV3.out]; rintro e w3 ⟨A3, n3, c3, A4, n4, c4, rfl, d3, d4, g3⟩; have K := ((K.call g3).add d4).add d3; clear p0 p1 p2 p3 q0 q1 q2 q3; obtain ⟨_, _, ⟨q0, q1, q2, q3⟩, _⟩ := K.facts; obtain ⟨f0, f1, f2, f3⟩ := K.free (i := 2) rfl)
      | fail)
    have K4 := K.put4 2 rfl (decide (x < 0)) A3 n3 c3 (decide (y < 0)) A4 n4 c4
    simp only [List.set] at K4
    obtain ⟨_, _, ⟨r0, r1, r2, r3⟩, _⟩ := K4.facts
    exact bodyPost_ret (v := .tuple #[.agg #[.bool (decide (x < 0)), .slice A3 n3 c3, .bool (decide (y < 0)), .slice A4 n4 c4], .int .i64 0]) (by simp [results, Tryz.results18, go_sem, r0, r1, r2, r3]) rfl (RetFE.of_st K4)
end Go.Proofs.YtekoeohkkabkdaaGreat

