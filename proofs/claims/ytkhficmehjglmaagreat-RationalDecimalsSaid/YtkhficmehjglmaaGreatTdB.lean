/-
  The program's Decimal.
-/
import Derived.Test.YtkhficmehjglmaaGreatTdA
import Derived.Test.YtkhficmehjglmaaGreatPow
import Derived.Test.YtkhficmehjglmaaGreatRndA
import Derived.Test.YtkhficmehjglmaaGreatRound4
import Derived.Deep.RegionHeld3
set_option linter.unusedVariables false
set_option linter.unusedSimpArgs false
set_option warningAsError false
namespace Go.Proofs.YtkhficmehjglmaaGreat
open Go.RowKit

theorem format_at {w : World} {s : Bool} {A : Option Addr} {n c : Nat} {x : Int} (h : IntAt w s A n c x) (hn : n ≤ 100000) : Calls Tryz.prog 19 #[.agg #[.bool s, .slice A n c]] w (RetS w (decZ x)) := by
  obtain ⟨d, hd, hc, hm, rfl, _⟩ := h
  exact format_any s A n c d w hd hc hm hn
theorem rformat_at {w : World} {s : Bool} {A : Option Addr} {n c : Nat} {x : Int} (h : IntAt w s A n c x) (hn : n ≤ 100000) (hnc : A = none → c = 0) : Calls Tryz.prog 36 #[.agg #[.bool s, .slice A n c]] w (RetS w (decZ x)) := by
  obtain ⟨d, hd, hc, hm, rfl, _⟩ := h
  exact rformat_any s A n c d w hd hc hm hn hnc
theorem decZ_nat (n : Nat) : decZ (n : Int) = decs n := by unfold decZ; rw [if_neg (by omega), Int.natAbs_natCast]
theorem cmpI_scale {a b k : Int} (hk : 0 < k) : cmpI (a * k) (b * k) = cmpI a b :=
  cmpI_congr (fun h => Int.lt_of_mul_lt_mul_right h (by omega)) (fun h => Int.lt_of_mul_lt_mul_right h (by omega)) (fun h => Int.eq_of_mul_eq_mul_right (by omega) h)
theorem rd_scale {x y k : Int} (hk : 0 < k) (hy : 0 < y) : rdV (x * k) (y * k) = rdV x y := by
  have hyk : 0 < y * k := Int.mul_pos hy hk
  have hq : dmQ (x * k) (y * k) = dmQ x y := by
    unfold dmQ
    rw [if_neg (by omega), if_pos hyk, if_neg (by omega), if_pos hy, Int.mul_ediv_mul_of_pos_left _ _ hk]
  have hr : dmR (x * k) (y * k) = dmR x y * k := by
    unfold dmR
    rw [if_neg (by omega), if_pos hyk, if_neg (by omega), if_pos hy, Int.emod_def, Int.mul_ediv_mul_of_pos_left _ _ hk, Int.emod_def, Int.sub_mul, Int.mul_right_comm]
  have ho : ordV (x * k) (y * k) = ordV x y := by
    unfold ordV
    rw [hr, ← Int.add_mul, Int.natAbs_mul, Int.natAbs_mul]
    have e : ((k.natAbs : Nat) : Int) = k := by omega
    rw [Int.natCast_mul, Int.natCast_mul, e]
    exact cmpI_scale hk
  unfold rdV upB
  rw [hq, ho]
theorem rd_un (a b : Int) : rdV (un a b) (ud a b) = rdV a b := by
  rcases Int.lt_trichotomy b 0 with h | h | h
  · rw [un_neg h, ud_neg h]
    have hq : dmQ (-a) (-b) = dmQ a b := by
      unfold dmQ
      rw [if_neg (by omega), if_pos (by omega), if_neg (by omega), if_neg (by omega)]
    have ho : ordV (-a) (-b) = ordV a b := by
      unfold ordV dmR
      rw [if_neg (by omega), if_pos (by omega), if_neg (by omega), if_neg (by omega), Int.natAbs_neg]
      congr 2
      omega
    unfold rdV upB
    rw [hq, ho]
  · subst h
    rw [(ref_zero a).2.2]
    have e1 : un a 0 = 0 := by unfold un; rw [if_pos rfl]
    have e2 : ud a 0 = 1 := by unfold ud; rw [if_pos rfl]
    rw [e1, e2]
    decide
  · rw [un_pos h, ud_pos_ h]
theorem rd_red (a b : Int) : rdV (rn a b) (rd a b) = rdV a b := by
  rw [← rd_scale (x := rn a b) (y := rd a b) (k := (Int.gcd (un a b) (ud a b) : Nat)) (by have := ug_pos a b; omega) (rd_pos a b), rn_mul, rd_mul, rd_un]
theorem sz_ten {p : Nat} (hp : p ≤ 30) : Sz ((10 : Int) ^ p) 4 := by
  unfold Sz
  rw [Int.natAbs_pow]
  have h1 : (10 : Int).natAbs ^ p ≤ 10 ^ 30 := Nat.pow_le_pow_right (by decide) hp
  refine Nat.lt_of_le_of_lt h1 ?_
  rw [BB_eq]
  decide
def decW (Z : Int) (p : Nat) : List UInt8 := if Z < 0 then 45 :: ptL (decs Z.natAbs) p else ptL (decs Z.natAbs) p
def decTx (a b N : Int) : List UInt8 := if 0 ≤ N ∧ N ≤ 30 then decW (rdV (a * 10 ^ N.toNat) b) N.toNat else []
def decEr (N : Int) : Int := if 0 ≤ N ∧ N ≤ 30 then 0 else 5
def RetDe (w : World) (l : List UInt8) (er : Int) (e : Ending) (w' : World) : Prop := e = .returned (.tuple #[.string ⟨l.toArray⟩, .int .i64 er]) ∧ Below w.heap.size w w'
theorem dec_bad {a b N : Int} (h : ¬ (0 ≤ N ∧ N ≤ 30)) : decTx a b N = [] ∧ decEr N = 5 := by unfold decTx decEr; rw [if_neg h, if_neg h]; exact ⟨rfl, rfl⟩
theorem dec_good {a b : Int} {p : Nat} (h : p ≤ 30) : decTx a b (p : Int) = decW (rdV (a * 10 ^ p) b) p ∧ decEr (p : Int) = 0 := by
  unfold decTx decEr; rw [if_pos (by omega), if_pos (by omega)]; exact ⟨rfl, rfl⟩
theorem ptL_len (l : List UInt8) (p : Nat) : (ptL l p).length ≤ l.length + p + 2 := by
  unfold ptL
  split
  · omega
  · rw [List.length_append, List.length_cons, List.length_take, List.length_drop, padL_len]
    split <;> omega
theorem decs_sz {z : Int} {k : Nat} (h : Sz z k) : (decs z.natAbs).length ≤ 10 * k + 1 := decs_len' h

set_option maxHeartbeats 16000000 in
set_option maxRecDepth 100000 in
theorem pDecimal_at {w : World} {s1 s2 : Bool} {A1 A2 : Option Addr} {n1 c1 n2 c2 : Nat} {a b : Int} (h1 : IntAt w s1 A1 n1 c1 a) (h2 : IntAt w s2 A2 n2 c2 b) (za : Sz a 12) (zb : Sz b 12) (N : Int) :
    Calls Tryz.prog 13 #[.agg #[.bool s1, .slice A1 n1 c1, .bool s2, .slice A2 n2 c2], .int .i64 N] w (RetDe w (decTx a b N) (decEr N)) := by
  have H0 := (((St.start w).addI h1).addI h2).new 26 (Plains.four s1 A1 n1 c1 s2 A2 n2 c2)
  (try simp only [World.size_alloc] at H0)
  have HH := Lib.hid H0
  clear H0 h1 h2
  by_cases hN0 : N < 0
  · obtain ⟨e1, e2⟩ := dec_bad (a := a) (b := b) (N := N) (by omega)
    rw [e1, e2]
    clear e1 e2 HH
    go_enter Tryz.func13, Tryz.ntmps13
    go_wp2_with fail
    go_ret2
    exact ⟨rfl, bnew _ _⟩
  by_cases hN3 : 30 < N
  · obtain ⟨e1, e2⟩ := dec_bad (a := a) (b := b) (N := N) (by omega)
    rw [e1, e2]
    have q1 : decide (N < 0) = false := by simp; omega
    clear e1 e2 HH
    go_enter Tryz.func13, Tryz.ntmps13
    go_wp2_with fail
    go_ret2
    exact ⟨rfl, bnew _ _⟩
  obtain ⟨p, rfl⟩ := Int.eq_ofNat_of_zero_le (show 0 ≤ N by omega)
  have hp : p ≤ 30 := by omega
  have q1 : decide ((p : Int) < 0) = false := decide_eq_false (by omega)
  have q2 : decide ((30 : Int) < (p : Int)) = false := by simp; omega
  have q3 : ¬ (30 : Int) < (p : Int) := by omega
  obtain ⟨e1, e2⟩ := dec_good (a := a) (b := b) hp
  rw [e1, e2]
  have zU := sz_ten hp
  obtain ⟨U, HU⟩ : ∃ v, Hid ((10 : Int) ^ p = v) := ⟨_, rfl⟩
  rw [HU.out] at zU ⊢
  have hpv : powV 10 (p : Int) = U ∧ powE (p : Int) = 0 := by
    unfold powV powE
    rw [if_pos (by omega), if_pos (by omega)]
    exact ⟨HU.out, rfl⟩
  have z10 : Sz 10 10 := sz_small (by decide) (by decide) 10 (by decide)
  have k10 := z10.ok
  have kU := zU.ok
  have zM : Sz (a * U) 900 := (za.mul zU).mono (by decide)
  obtain ⟨M, HM⟩ : ∃ v, Hid (a * U = v) := ⟨_, rfl⟩
  rw [HM.out] at zM ⊢
  have kM := zM.ok
  have zb9 : Sz b 900 := zb.mono (by decide)
  have zZ : Sz (rdV M b) 901 := by
    have h1 : (dmQ M b).natAbs ≤ M.natAbs := by rw [dm_u]; exact Nat.le_trans (Int.natAbs_ediv_le_natAbs _ _) (un_abs M b)
    have h2 : Sz (dmQ M b) 900 := zM.le h1
    have h3 : Sz (dmQ M b + 1) 901 := h2.add (sz_small (by decide) (by decide) 900 (by decide))
    unfold rdV
    split
    · exact h3
    · exact h2.mono (by decide)
  obtain ⟨Z, HZ⟩ : ∃ v, Hid (rdV M b = v) := ⟨_, rfl⟩
  rw [HZ.out] at zZ ⊢
  have kZ := zZ.ok
  obtain ⟨Az, HA⟩ : ∃ v, Hid (((Z.natAbs : Nat) : Int) = v) := ⟨_, rfl⟩
  have zA : Sz Az 901 := zZ.le (by rw [← HA.out, Int.natAbs_natCast]; exact Nat.le_refl _)
  have kA := zA.ok
  have lA := zA.len2
  have hdz : decZ Az = decs Z.natAbs := by rw [← HA.out]; exact decZ_nat _
  have hdl := decs_sz zZ
  have hd0 := (decs_ok Z.natAbs).1
  have hW : decW Z p = if Z < 0 then 45 :: ptL (decs Z.natAbs) p else ptL (decs Z.natAbs) p := rfl
  obtain ⟨D, HD⟩ : ∃ v, Hid (decs Z.natAbs = v) := ⟨_, rfl⟩
  rw [HD.out] at hdz hdl hd0 hW
  have hip := insertPoint_any D (by omega) hd0 p (by omega)
  have hpl := ptL_len D p
  obtain ⟨T, HT⟩ : ∃ v, Hid (ptL D p = v) := ⟨_, rfl⟩
  rw [HT.out] at hip hW hpl
  have b1 : ¬ 9223372036854775807 < 1 + T.length := by omega
  have b2 : ¬ 9223372036854775807 < T.length + 1 := by omega
  have hsg : (Z < 0 ∧ sgn Z = -1) ∨ (¬ Z < 0 ∧ ¬ sgn Z < 0) := by
    unfold sgn
    by_cases h : Z < 0
    · exact .inl ⟨h, cmpI_lt h⟩
    · refine .inr ⟨h, ?_⟩
      rcases Int.lt_trichotomy 0 Z with h2 | h2 | h2
      · rw [cmpI_gt h2]; decide
      · rw [cmpI_eq h2.symm]; decide
      · omega
  obtain ⟨sg, HS⟩ : ∃ v, Hid (sgn Z = v) := ⟨_, rfl⟩
  rw [HS.out] at hsg
  have hcc : (⟨#[45]⟩ : ByteArray) ++ ⟨T.toArray⟩ = ⟨(45 :: T).toArray⟩ := by
    rw [show (⟨#[45]⟩ : ByteArray) = ⟨([45] : List UInt8).toArray⟩ from rfl, str_app]; first | done | rfl
  have HW := Lib.hid hW
  have HPV := Lib.hid hpv
  have HSG := Lib.hid hsg
  have HCC := Lib.hid hcc
  clear hW hpv hsg hcc hdl hd0 hpl e1 e2 za zb hN0 hN3
  go_enter Tryz.func13, Tryz.ntmps13
  go_upto_region 4 with (first
    | (go_at_call 43; (with_reducible refine (fromInt64_any 10 (by decide) (by decide) _).mono ?_); rintro e w1 ⟨B1, m1, k1, rfl, d1, u1, v1, g1⟩; have K := HH.out; clear HH; have K1 := (K.call g1).add (show CanAt w1 false B1 m1 k1 10 from CanAt.mk_ d1 u1 v1); have j1 := K1.ints.1.ci k10)
    | (go_at_call 42; (with_reducible refine (pow_at (p : Int) j1 z10).mono ?_); rw [HPV.out.1, HPV.out.2]; rintro e w2 ⟨B2, m2, k2, rfl, d2, g2⟩; have K2 := ((K1.call g2).add d2).new 24 (Plains.two (decide (U < 0)) B2 m2 k2))
    | fail)
  (try simp only [World.size_alloc] at K2)
  clear K K1 j1 d1 d2 g1 g2
  generalize w2.alloc (.cells #[.bool (decide (U < 0)), .slice B2 m2 k2] 24) = W1 at K2 ⊢
  generalize w2.heap.size = h3 at K2 ⊢
  have Kd := K2.drew
  obtain ⟨⟨rr0, rr1⟩, ⟨pp0, pp1, pp2, pp3⟩, _⟩ := K2.facts
  have ia0 := K2.ints.2.2.2.1.i
  have ib0 := K2.ints.2.2.1.i
  have iU0 := K2.ints.1.ci kU
  obtain ⟨⟨r0, r1⟩, ⟨p0, p1, p2, p3⟩, _⟩ := Kd.facts
  have ia := Kd.ints.2.2.2.1.i
  have ib := Kd.ints.2.2.1.i
  have iU := Kd.ints.1.ci kU
  have K := Kd
  clear Kd
  have n1_ : ¬ W1.heap.size = h3 := World.new_ne W1 _ r0
  have n2_ : ¬ W1.heap.size = w.heap.size := World.new_ne W1 _ p0
  have n3_ : ¬ h3 = W1.heap.size := fun e => n1_ e.symm
  have n4_ : ¬ w.heap.size = W1.heap.size := fun e => n2_ e.symm
  first
  | go_region_held3 (fun w' => (w'.cell? ⟨h3, 0, none⟩ = some (.bool (decide (U < 0))) ∧ w'.cell? ⟨h3, 1, none⟩ = some (.slice B2 m2 k2)) ∧ w'.cell? ⟨w.heap.size, 0, none⟩ = some (.bool s1) ∧ w'.cell? ⟨w.heap.size, 1, none⟩ = some (.slice A1 n1 c1) ∧ w'.cell? ⟨w.heap.size, 2, none⟩ = some (.bool s2) ∧ w'.cell? ⟨w.heap.size, 3, none⟩ = some (.slice A2 n2 c2))
      (go_keep)
      (first
        | (go_at_call 45; (first | ((with_reducible refine (mul_at ia iU).mono ?_); rw [HM.out]; rintro e wa ⟨C1, l1, t1, rfl, d3, u3, v3, ga⟩; have Kw := (Kv.call ga).add (CanAt.mk_ d3 u3 v3); clear Kv; have Kv := Kw; clear Kw; clear o0 o1 f0 f1 r0 r1 p0 p1 p2 p3; obtain ⟨⟨o0, o1⟩, ⟨r0, r1⟩, ⟨p0, p1, p2, p3⟩, _⟩ := Kv.facts; obtain ⟨f0, f1⟩ := Kv.free (i := 0) rfl; replace ia := ia.call ga; replace ib := ib.call ga; replace iU := iU.call ga; have jm := (CanAt.mk_ d3 u3 v3).at_ kM) | ((with_reducible refine (mul_at ia iU).mono ?_); rw [HM.out]; rintro e wa ⟨C1, l1, t1, rfl, d3, u3, v3, ga⟩; have Kw := (K.call ga).add (CanAt.mk_ d3 u3 v3); clear K; have K := Kw; clear Kw; clear n1_ n2_ n3_ n4_ r0 r1 p0 p1 p2 p3; obtain ⟨⟨r0, r1⟩, ⟨p0, p1, p2, p3⟩, _⟩ := K.facts; have n1_ := World.new_ne _ _ r0; have n2_ := World.new_ne _ _ p0; dsimp only at n1_ n2_; have n3_ := Ne.symm n1_; have n4_ := Ne.symm n2_; replace ia := ia.call ga; replace ib := ib.call ga; replace iU := iU.call ga; have jm := (CanAt.mk_ d3 u3 v3).at_ kM) | ((with_reducible refine (mul_at (ia0.call (bnew _ _).drew) (iU0.call (bnew _ _).drew)).mono ?_); rw [HM.out]; rintro e wa ⟨C1, l1, t1, rfl, d3, u3, v3, ga⟩; have Kv := ((K2.new 24 (Plains.two false none 0 0)).drew.call ga).add (CanAt.mk_ d3 u3 v3); clear K; clear n1_ n2_ n3_ n4_ r0 r1 p0 p1 p2 p3; obtain ⟨⟨o0, o1⟩, ⟨r0, r1⟩, ⟨p0, p1, p2, p3⟩, _⟩ := Kv.facts; obtain ⟨f0, f1⟩ := Kv.free (i := 0) rfl; obtain ⟨y1, y2⟩ := Kv.ne 0 1 rfl rfl (by decide); obtain ⟨y3, y4⟩ := Kv.ne 0 2 rfl rfl (by decide); have gz := bcall (bnew _ _).drew ga; clear ia; have ia := ia0.call gz; clear ib; have ib := ib0.call gz; clear iU; have iU := iU0.call gz; have jm := (CanAt.mk_ d3 u3 v3).at_ kM)))
        | (go_at_call 44; (first | ((with_reducible refine (round_at jm ib zM zb9).mono ?_); rw [HZ.out]; rintro e wb ⟨C2, l2, t2, rfl, d4, u4, v4, gb⟩; have Kw := (Kv.call gb).add (CanAt.mk_ d4 u4 v4); clear Kv; have Kv := Kw; clear Kw; clear o0 o1 f0 f1 r0 r1 p0 p1 p2 p3; obtain ⟨⟨o0, o1⟩, ⟨r0, r1⟩, ⟨p0, p1, p2, p3⟩, _⟩ := Kv.facts; obtain ⟨f0, f1⟩ := Kv.free (i := 0) rfl; skip) | ((with_reducible refine (round_at jm ib zM zb9).mono ?_); rw [HZ.out]; rintro e wb ⟨C2, l2, t2, rfl, d4, u4, v4, gb⟩; have Kw := (K.call gb).add (CanAt.mk_ d4 u4 v4); clear K; have K := Kw; clear Kw; clear n1_ n2_ n3_ n4_ r0 r1 p0 p1 p2 p3; obtain ⟨⟨r0, r1⟩, ⟨p0, p1, p2, p3⟩, _⟩ := K.facts; have n1_ := World.new_ne _ _ r0; have n2_ := World.new_ne _ _ p0; dsimp only at n1_ n2_; have n3_ := Ne.symm n1_; have n4_ := Ne.symm n2_; skip) | ((with_reducible refine (round_at (jm.call (bnew _ _)) (ib.call (bnew _ _)) zM zb9).mono ?_); rw [HZ.out]; rintro e wb ⟨C2, l2, t2, rfl, d4, u4, v4, gb⟩; have Kv := ((K.new 24 (Plains.two false none 0 0)).call gb).add (CanAt.mk_ d4 u4 v4); clear K; clear n1_ n2_ n3_ n4_ r0 r1 p0 p1 p2 p3; obtain ⟨⟨o0, o1⟩, ⟨r0, r1⟩, ⟨p0, p1, p2, p3⟩, _⟩ := Kv.facts; obtain ⟨f0, f1⟩ := Kv.free (i := 0) rfl; obtain ⟨y1, y2⟩ := Kv.ne 0 1 rfl rfl (by decide); obtain ⟨y3, y4⟩ := Kv.ne 0 2 rfl rfl (by decide); have gz := bcall (bnew _ _) gb; skip)))
        | fail)
  | fail
  all_goals (first
    | (have K5 := Kv.put 0 rfl (decide (Z < 0)) C2 l2 t2; simp only [List.set] at K5)
    | (have K5 := K.new 24 (Plains.two (decide (Z < 0)) C2 l2 t2)))
  all_goals clear r0 r1 p0 p1 p2 p3
  all_goals obtain ⟨⟨r0, r1⟩, _⟩ := K5.facts
  all_goals have jz := K5.ints.1.ci kZ
  all_goals (
    rcases HSG.out with ⟨hz, rfl⟩ | ⟨hz, hs⟩
    · have e3 := HW.out
      rw [if_pos hz] at e3
      have HX := Lib.hid e3
      clear e3 hz
      go_wp2_with (first
        | (go_at_call 47; (with_reducible refine (abs_at jz).mono ?_); rw [HA.out]; rintro e wc ⟨C3, l3, t3, rfl, d5, u5, v5, gc⟩; have K6 := (K5.call gc).add (CanAt.mk_ d5 u5 v5); have jf := K6.ints.1.ci kA; have lf : l3 ≤ 100000 := (by rw [← d5.len]; exact lA))
        | (go_at_call 19; (with_reducible refine (format_at jf lf).mono ?_); rw [hdz]; rintro e wd ⟨rfl, gd⟩; have K7 := K6.call gd)
        | (go_at_call 46; (with_reducible refine (hip _).mono ?_); rintro e we ⟨rfl, ge⟩; have K7b := K7.call ge; clear r0 r1; obtain ⟨⟨r0, r1⟩, _⟩ := K7b.facts; have jz2 := K7b.ints.2.1.ci kZ)
        | (go_at_call 48; (with_reducible refine (sign_at jz2).mono ?_); rw [HS.out]; rintro e wf ⟨rfl, gf⟩; have K8 := K7b.call gf)
        | fail)
      go_ret2
      refine ⟨?_, K8.below⟩
      rw [HX.out, ← HCC.out]
      rfl
    · have e3 := HW.out
      rw [if_neg (show ¬ Z < 0 by omega)] at e3
      have HX := Lib.hid e3
      clear e3 hz
      have hs2 : decide (sg < 0) = false := decide_eq_false (by omega)
      go_wp2_with (first
        | (go_at_call 47; (with_reducible refine (abs_at jz).mono ?_); rw [HA.out]; rintro e wc ⟨C3, l3, t3, rfl, d5, u5, v5, gc⟩; have K6 := (K5.call gc).add (CanAt.mk_ d5 u5 v5); have jf := K6.ints.1.ci kA; have lf : l3 ≤ 100000 := (by rw [← d5.len]; exact lA))
        | (go_at_call 19; (with_reducible refine (format_at jf lf).mono ?_); rw [hdz]; rintro e wd ⟨rfl, gd⟩; have K7 := K6.call gd)
        | (go_at_call 46; (with_reducible refine (hip _).mono ?_); rintro e we ⟨rfl, ge⟩; have K7b := K7.call ge; clear r0 r1; obtain ⟨⟨r0, r1⟩, _⟩ := K7b.facts; have jz2 := K7b.ints.2.1.ci kZ)
        | (go_at_call 48; (with_reducible refine (sign_at jz2).mono ?_); rw [HS.out]; rintro e wf ⟨rfl, gf⟩; have K8 := K7b.call gf)
        | fail)
      go_ret2
      refine ⟨?_, K8.below⟩
      rw [HX.out]
      rfl)
end Go.Proofs.YtkhficmehjglmaaGreat

