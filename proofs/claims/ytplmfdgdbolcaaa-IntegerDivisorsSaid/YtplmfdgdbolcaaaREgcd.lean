/-
  The reference's ExtendedGCD.
-/
import Derived.Test.YtplmfdgdbolcaaaGcd
set_option linter.unusedVariables false
set_option linter.unusedSimpArgs false
namespace Go.Proofs.Ytplmfdgdbolcaaa
open Go.RowKit

set_option maxHeartbeats 16000000 in
set_option maxRecDepth 100000 in
theorem regcd_at {w : World} {s s' : Bool} {A A' : Option Addr} {n c n' c' : Nat} {a b : Int} (h : IntAt w s A n c a) (h' : IntAt w s' A' n' c' b) (za : Sz a 100) (zb : Sz b 100) :
  Calls Try.prog 17 #[.agg #[.bool s, .slice A n c], .agg #[.bool s', .slice A' n' c']] w (RetE w a b) := by
 have H0 := ((((((((St.start w).addI h).addI h').new 24 (Plains.two s A n c))).new 24 (Plains.two s' A' n' c')).new 24 (Plains.two false none 0 0)).new 24 (Plains.two false none 0 0)).new 24 (Plains.two false none 0 0)
 simp only [World.size_alloc] at H0
 have HH := Lib.hid H0
 have ka := za.ok
 have kb := zb.ok
 have za2 : Sz a 2000 := za.mono (by decide)
 have zb2 : Sz b 2000 := zb.mono (by decide)
 clear H0 h h'
 obtain ⟨g, HG⟩ : ∃ v, Hid (((Int.gcd a b : Nat) : Int) = v) := ⟨_, rfl⟩
 go_enter Try.func17, Try.ntmps17
 go_upto_region 1 with fail
 have K := HH.out
 clear HH
 generalize ((((w.alloc (.cells #[.bool s, .slice A n c] 24)).alloc (.cells #[.bool s', .slice A' n' c'] 24)).alloc (.cells #[.bool false, .slice none 0 0] 24)).alloc (.cells #[.bool false, .slice none 0 0] 24)).alloc (.cells #[.bool false, .slice none 0 0] 24) = W0 at K ⊢
 go_cut [] (fun wx => EgC w wx a b)
 case first =>
  have Kd := K.drew
  clear K
  obtain ⟨_, _, _, ⟨p0, p1⟩, ⟨p2, p3⟩, _⟩ := Kd.facts
  obtain ⟨ib, ia, _⟩ := Kd.ints
  go_region_with (first
   | (go_at_call_of 30 (Value.agg #[Value.bool s, Value.slice A n c]); (with_reducible refine (canon_at ia.i).mono ?_); rintro e w1 ⟨A1, n1, c1, rfl, d1, u1, v1, g1⟩; have K1 := (Kd.call g1).add (CanAt.mk_ d1 u1 v1); clear p0 p1 p2 p3; obtain ⟨_, _, _, ⟨p0, p1⟩, ⟨p2, p3⟩, _⟩ := K1.facts; obtain ⟨_, jb, _⟩ := K1.ints)
   | (go_at_call_of 30 (Value.agg #[Value.bool s', Value.slice A' n' c']); (with_reducible refine (canon_at jb.i).mono ?_); rintro e w2 ⟨A2, n2, c2, rfl, d2, u2, v2, g2⟩; have K2 := (K1.call g2).add (CanAt.mk_ d2 u2 v2); clear p0 p1 p2 p3; obtain ⟨_, _, _, ⟨p0, p1⟩, ⟨p2, p3⟩, _⟩ := K2.facts; obtain ⟨f0, f1⟩ := K2.free (i := 3) rfl; obtain ⟨f2, f3⟩ := K2.free (i := 4) rfl)
   | fail)
  all_goals (go_wp2_with fail; go_meet; have K3 := (K2.put 4 rfl (decide (a < 0)) A1 n1 c1).put 3 rfl (decide (b < 0)) A2 n2 c2; obtain ⟨i2, i1, _⟩ := K3.ints; exact ⟨A1, n1, c1, A2, n2, c2, K3.ints_ ⟨i2, i1, trivial⟩⟩)
 case rest =>
  clear K W0
  obtain ⟨A1, n1, c1, A2, n2, c2, K⟩ := hcut
  obtain ⟨ib, ia, _⟩ := K.ints
  obtain ⟨_, _, _, ⟨p0, p1⟩, ⟨p2, p3⟩, _⟩ := K.facts
  go_upto_region 3 with (first
   | (go_at_call 89; (with_reducible refine (rgcd_at (ia.ci ka) (ib.ci kb) za2 zb2).mono ?_); rw [HG.out]; rintro e w1 ⟨A3, n3, c3, rfl, d3, u3, v3, g3⟩; have K3 := ((K.call g3).add (CanAt.mk_ d3 u3 v3)).new 24 (Plains.two (decide (g < 0)) A3 n3 c3))
   | fail)
  clear ia ib p0 p1 p2 p3 d3 g3 K
  generalize w1.alloc (.cells #[.bool (decide (g < 0)), .slice A3 n3 c3] 24) = W1 at K3 ⊢
  generalize w1.heap.size = h7 at K3 ⊢
  by_cases hb : b = 0
  ·
   obtain ⟨sg, HS⟩ : ∃ v, Hid (sgn a = v) := ⟨_, rfl⟩
   have hs1 : -9223372036854775808 ≤ sg := by rw [← HS.out]; rcases sgn_cases a with h | h | h <;> omega
   have hs2 : sg ≤ 9223372036854775807 := by rw [← HS.out]; rcases sgn_cases a with h | h | h <;> omega
   have HE : Hid (EgP a b g sg 0 ∧ Sz g 500 ∧ Sz sg 500 ∧ Sz 0 500) := by
    refine ⟨⟨HG.out.symm, fun _ => ⟨HS.out.symm, rfl⟩, fun h => absurd hb h⟩, ?_, ?_, ?_⟩
    ·
     refine Sz.mono (k := 100) (za.le ?_) (by decide)
     rw [← HG.out, hb]; simp [Int.gcd]
    ·
     have : sg.natAbs < BB ^ 1 := by rw [← HS.out, Nat.pow_one, BB_eq]; rcases sgn_cases a with h | h | h <;> omega
     exact Sz.mono this (by decide)
    · exact Sz.zero _
   obtain ⟨ig, ib, ia, _⟩ := K3.ints
   obtain rfl := digs_len0 ib.c hb
   clear hb ib ig ia
   obtain ⟨⟨p0, p1⟩, _, _, _, ⟨p2, p3⟩, ⟨p4, p5⟩, _⟩ := K3.facts
   go_upto_region 4 with fail
   clear p0 p1 p2 p3 p4 p5
   have Kd := K3.drew
   clear K3
   obtain ⟨ig, ib, ia, _⟩ := Kd.ints
   obtain ⟨⟨p0, p1⟩, _, _, _, _, ⟨p2, p3⟩, _⟩ := Kd.facts
   obtain ⟨z1, z2⟩ := Kd.ne 0 1 rfl rfl (by decide)
   obtain ⟨z3, z4⟩ := Kd.ne 0 2 rfl rfl (by decide)
   obtain ⟨z5, z6⟩ := Kd.ne 0 3 rfl rfl (by decide)
   obtain ⟨z7, z8⟩ := Kd.ne 0 5 rfl rfl (by decide)
   obtain ⟨y1, y2⟩ := Kd.ne 1 5 rfl rfl (by decide)
   obtain ⟨y3, y4⟩ := Kd.ne 2 5 rfl rfl (by decide)
   obtain ⟨y5, y6⟩ := Kd.ne 3 5 rfl rfl (by decide)
   go_region_held3 (fun w' => w'.cell? ⟨h7, 0, none⟩ = some (.bool (decide (g < 0))) ∧ w'.cell? ⟨h7, 1, none⟩ = some (.slice A3 n3 c3) ∧ w'.cell? ⟨w.heap.size, 0, none⟩ = some (.bool (decide (a < 0))) ∧ w'.cell? ⟨w.heap.size, 1, none⟩ = some (.slice A1 n1 c1))
    (go_keep)
    (first
     | (go_at_call 91; (with_reducible refine (rsign_at (ia.ci ka)).mono ?_); rw [HS.out]; rintro e w2 ⟨rfl, g4⟩; have K4 := Kd.call g4; clear p0 p1 p2 p3; obtain ⟨⟨p0, p1⟩, _, _, _, _, ⟨p2, p3⟩, _⟩ := K4.facts)
     | (go_at_call 90; (with_reducible refine (rfromInt64_any sg hs1 hs2 _).mono ?_); rintro e w5 ⟨A5, n5, c5, rfl, d5, u5, v5, g5⟩; have K5 := (K4.call g5).add (CanAt.mk_ d5 u5 v5); clear p0 p1 p2 p3; obtain ⟨⟨p0, p1⟩, ⟨q4, q5⟩, ⟨q2, q3⟩, ⟨q0, q1⟩, _, ⟨p2, p3⟩, _⟩ := K5.facts; obtain ⟨f0, f1⟩ := K5.free (i := 1) rfl; obtain ⟨f2, f3⟩ := K5.free (i := 2) rfl; obtain ⟨f4, f5⟩ := K5.free (i := 3) rfl)
     | fail)
   have K6 := ((K5.put 3 rfl (decide (g < 0)) A3 n3 c3).put 2 rfl (decide (sg < 0)) A5 n5 c5).put 1 rfl false none 0 0
   simp only [List.set] at K6
   go_wp2_with fail
   generalize ((((((w5.setCell ⟨w.heap.size + 1 + 1, 0, none⟩ (.bool (decide (g < 0)))).setCell ⟨w.heap.size + 1 + 1, 1, none⟩ (.slice A3 n3 c3)).setCell ⟨w.heap.size + 1 + 1 + 1, 0, none⟩ (.bool (decide (sg < 0)))).setCell ⟨w.heap.size + 1 + 1 + 1, 1, none⟩ (.slice A5 n5 c5)).setCell ⟨w.heap.size + 1 + 1 + 1 + 1, 0, none⟩ (.bool false)).setCell ⟨w.heap.size + 1 + 1 + 1 + 1, 1, none⟩ (.slice none 0 0)) = W6 at K6 ⊢
   obtain ⟨_, ⟨r4, r5⟩, ⟨r2, r3⟩, ⟨r0, r1⟩, _⟩ := K6.facts
   obtain ⟨i5, i3, _⟩ := K6.ints
   refine bodyPost_ret (v := .tuple #[.agg #[.bool (decide (g < 0)), .slice A3 n3 c3], .agg #[.bool (decide (sg < 0)), .slice A5 n5 c5], .agg #[.bool false, .slice none 0 0]]) (by simp [results, Try.results17, go_sem, r0, r1, r2, r3, r4, r5]) rfl ?_
   exact ⟨g, sg, 0, A3, n3, c3, A5, n5, c5, none, 0, 0, HE.out.1, HE.out.2.1, HE.out.2.2.1, HE.out.2.2.2, rfl, i3.c, i5.c, CanAt.zero_ _, K6.below⟩
  ·
   obtain ⟨ab, HAB⟩ : ∃ v, Hid (((b.natAbs : Nat) : Int) = v) := ⟨_, rfl⟩
   obtain ⟨m, HM⟩ : ∃ v, Hid (dmQ ab g = v) := ⟨_, rfl⟩
   obtain ⟨mr, HMR⟩ : ∃ v, Hid (dmR ab g = v) := ⟨_, rfl⟩
   obtain ⟨p0', HP0⟩ : ∃ v, Hid (dmQ a g = v) := ⟨_, rfl⟩
   obtain ⟨p0r, HP0R⟩ : ∃ v, Hid (dmR a g = v) := ⟨_, rfl⟩
   have HSTART := Lib.hid (rx_start (m := m) (p0 := p0') hb HG.out (by rw [HAB.out]; exact HM.out) HP0.out)
   have HB := Lib.hid hb
   obtain ⟨hg0, hgb, hm0, hmb, hag, hbg, hpa, hcop⟩ := HSTART.out
   have zab0 : Sz ab 100 := by rw [← HAB.out]; exact zb.le (by rw [Int.natAbs_natCast]; exact Nat.le_refl _)
   have zg0 : Sz g 100 := zb.le (by omega)
   have zm0 : Sz m 100 := zb.le hmb
   have zp0 : Sz p0' 100 := za.le hpa
   have zab : Sz ab 2000 := zab0.mono (by decide)
   have zg : Sz g 2000 := zg0.mono (by decide)
   have zm : Sz m 2000 := zm0.mono (by decide)
   have zp : Sz p0' 2000 := zp0.mono (by decide)
   have kab := zab.ok
   have kg := zg.ok
   have km := zm.ok
   have kp := zp.ok
   have HM0 := Lib.hid hm0
   obtain ⟨p1', HP1⟩ : ∃ v, Hid (dmR p0' m = v) := ⟨_, rfl⟩
   obtain ⟨p1q, HP1Q⟩ : ∃ v, Hid (dmQ p0' m = v) := ⟨_, rfl⟩
   have HSOL : Hid (Sol p0' m m p1' 0 1) := by
    have h1 : p0' % m = p1' := by rw [← HP1.out]; unfold dmR; rw [if_neg (by omega), if_pos hm0]
    have := Sol.start p0' hm0
    rw [h1] at this
    exact this
   clear hg0 hgb hm0 hmb hag hbg hpa hcop
   obtain ⟨ig, ib, ia, _⟩ := K3.ints
   have hn2 : 0 < n2 := digs_lenp ib.c hb
   have hn2z : ((n2 : Int) == 0) = false := by simp; omega
   clear hb ib ig ia
   obtain ⟨⟨p0, p1⟩, _, _, _, ⟨p2, p3⟩, _⟩ := K3.facts
   go_upto_region 5 with fail
   go_cut [8] (fun p8 wx => ∃ (h8 : Nat) (A5 : Option Addr) (n5 c5 : Nat), p8 = .pointer (some ⟨h8, 0, none⟩) ∧
    St w wx [vi h8 (decide (m < 0)) A5 n5 c5, vi h7 (decide (g < 0)) A3 n3 c3, vi (w.heap.size + 1 + 1 + 1 + 1) false none 0 0, vi (w.heap.size + 1 + 1 + 1) false none 0 0, vi (w.heap.size + 1 + 1) false none 0 0, vi (w.heap.size + 1) (decide (b < 0)) A2 n2 c2, vi w.heap.size (decide (a < 0)) A1 n1 c1] [((decide (m < 0)), A5, n5, c5, m, true), ((decide (g < 0)), A3, n3, c3, g, true), ((decide (b < 0)), A2, n2, c2, b, true), ((decide (a < 0)), A1, n1, c1, a, true)])
   case first =>
    obtain ⟨z1, z2⟩ := K3.ne 0 4 rfl rfl (by decide)
    skip
    refine wp_region_held_drew (S := fun w' => w'.cell? ⟨h7, 0, none⟩ = some (.bool (decide (g < 0))) ∧ w'.cell? ⟨h7, 1, none⟩ = some (.slice A3 n3 c3) ∧ w'.cell? ⟨w.heap.size + 1, 0, none⟩ = some (.bool (decide (b < 0))) ∧ w'.cell? ⟨w.heap.size + 1, 1, none⟩ = some (.slice A2 n2 c2)) (by kernel_rfl) ?_ (fun hh0 => ?_)
    · ((try dsimp only); go_keep)
    refine wpAnyH_take (i := 0) (oi := ⟨some 44, _, _, _, _, _⟩) (v := ?_) rfl (by kernel_rfl) (by kernel_rfl) (by kernel_rfl) (fun _ _ _ h => h) (Or.inl ⟨by rfl, ?_⟩) ‹_› ?_
    rotate_left
    · (intro w' hSw; (try dsimp only at hSw); go_simp; (try with_reducible rfl))
    (try simp only [Act.put, sit, scz, scs])
    refine wpAnyH_take (i := 2) (oi := ⟨some 46, _, _, _, _, _⟩) (v := ?_) rfl (by kernel_rfl) (by kernel_rfl) (by kernel_rfl) (fun _ _ _ h => h) (Or.inl ⟨by rfl, ?_⟩) ‹_› ?_
    rotate_left
    · (intro w' hSw; (try dsimp only at hSw); go_simp; (try with_reducible rfl))
    (try simp only [Act.put, sit, scz, scs])
    refine wpAnyH_ready (rs := [1, 8, 9]) (by kernel_rfl) (by simp) ?_
    refine AllReadyH.cons (o := ⟨some 45, _, _, _, _, _⟩) rfl (fun K hK => ?_) ?_
    ·
     go_simp
     have im1 := K3.drew.ints.2.1.ci kb
     (go_at_call 93; (with_reducible refine (rabs_at im1).mono ?_); rw [HAB.out]; rintro e wm1 ⟨A4, n4, c4, rfl, d4, u4, v4, g4⟩)
     (try go_wp2_with fail)
     have K1 := (K3.drew.call g4).add (CanAt.mk_ d4 u4 v4)
     clear p0 p1 p2 p3
     obtain ⟨⟨p0x1, p0y1⟩, _, _, _, ⟨p4x1, p4y1⟩, _, _⟩ := K1.facts
     refine hK.out _ _ ?_ (fun hh1 => ?_)
     · ((try dsimp only); go_keep)
     clear hK K hh0
     (try simp only [Act.put, sit, scz, scs])
     refine wpAnyH_ready (rs := [3, 8, 9]) (by kernel_rfl) (by simp) ?_
     refine AllReadyH.cons (o := ⟨some 47, _, _, _, _, _⟩) rfl (fun K hK => ?_) ?_
     ·
      go_simp
      have im3a := K1.ints.1.ci kab
      have im3b := K1.ints.2.1.ci kg
      (go_at_call 92; (with_reducible refine (rdivMod_at im3a im3b zab zg).mono ?_); rw [HM.out, HMR.out]; rintro e wm3 ⟨A5, n5, c5, A6, n6, c6, rfl, d5, u5, v5, d6, u6, v6, g5⟩)
      (try go_wp2_with fail)
      have K3 := ((K1.call g5).add (CanAt.mk_ d5 u5 v5)).add (CanAt.mk_ d6 u6 v6)
      clear p0x1 p0y1 p4x1 p4y1
      obtain ⟨⟨p0x2, p0y2⟩, _, _, _, ⟨p4x2, p4y2⟩, _, _⟩ := K3.facts
      refine hK.out _ _ ?_ (fun hh2 => ?_)
      · ((try dsimp only); go_keep)
      clear hK K hh1
      (try simp only [Act.put, sit, scz, scs])
      refine wpAnyH_take (i := 4) (oi := ⟨some 43, _, _, _, _, _⟩) (v := ?_) rfl (by kernel_rfl) (by kernel_rfl) (by kernel_rfl) (fun _ _ _ h => h) (Or.inl ⟨by rfl, ?_⟩) ‹_› ?_
      rotate_left
      · (intro w' hSw; (try dsimp only at hSw); go_simp; (try with_reducible rfl))
      (try simp only [Act.put, sit, scz, scs])
      refine wpAnyH_take (i := 5) (oi := ⟨some 48, _, _, _, _, _⟩) (v := ?_) rfl (by kernel_rfl) (by kernel_rfl) (by kernel_rfl) (fun _ _ _ h => h) (Or.inl ⟨by rfl, ?_⟩) ‹_› ?_
      rotate_left
      · (intro w' hSw; (try dsimp only at hSw); go_simp; (try with_reducible rfl))
      (try simp only [Act.put, sit, scz, scs])
      refine wpAnyH_take (i := 6) (oi := ⟨some 49, _, _, _, _, _⟩) (v := ?_) rfl (by kernel_rfl) (by kernel_rfl) (by kernel_rfl) (fun _ _ _ h => h) (Or.inl ⟨by rfl, ?_⟩) ‹_› ?_
      rotate_left
      · (intro w' hSw; (try dsimp only at hSw); go_simp; (try with_reducible rfl))
      (try simp only [Act.put, sit, scz, scs])
      refine wpAnyH_take (i := 7) (oi := ⟨some 50, _, _, _, _, _⟩) (v := ?_) rfl (by kernel_rfl) (by kernel_rfl) (by kernel_rfl) (fun _ _ _ h => h) (Or.inl ⟨by rfl, ?_⟩) ‹_› ?_
      rotate_left
      · (intro w' hSw; (try dsimp only at hSw); go_simp; (try with_reducible rfl))
      (try simp only [Act.put, sit, scz, scs])
      refine wpAnyH_ready (rs := [8, 9]) (by kernel_rfl) (by simp) ?_
      refine AllReadyH.cons (o := ⟨some 8, _, _, _, _, _⟩) rfl (fun K hK => ?_) ?_
      ·
       go_simp
       have KA8 := K3.new 24 (Plains.two false none 0 0)
       (try simp only [World.size_alloc] at KA8)
       refine hK.out _ _ ?_ (fun hh3 => ?_)
       · ((try dsimp only); go_keep)
       clear hK K hh2
       (try simp only [Act.put, sit, scz, scs])
       refine wpAnyH_ready (rs := [9]) (by kernel_rfl) (by simp) ?_
       refine AllReadyH.cons (o := ⟨some 9, _, _, _, _, _⟩) rfl (fun K hK => ?_) AllReadyH.nil
       go_simp
       have KA9 := KA8.new 24 (Plains.two false none 0 0)
       (try simp only [World.size_alloc] at KA9)
       refine hK.out _ _ ?_ (fun hh4 => ?_)
       · ((try dsimp only); go_keep)
       clear hK K hh3
       (try simp only [Act.put, sit, scz, scs])
       refine wpAnyH_ready (rs := [10]) (by kernel_rfl) (by simp) ?_
       refine AllReadyH.cons (o := ⟨none, _, _, _, _, _⟩) rfl (fun K hK => ?_) AllReadyH.nil
       go_simp
       refine hK.out _ _ ?_ (fun hh5 => ?_)
       · ((try dsimp only); go_keep)
       clear hK K hh4
       (try simp only [Act.put, sit, scz, scs])
       refine wpAnyH_ready (rs := [11]) (by kernel_rfl) (by simp) ?_
       refine AllReadyH.cons (o := ⟨none, _, _, _, _, _⟩) rfl (fun K hK => ?_) AllReadyH.nil
       go_simp
       refine hK.out _ _ ?_ (fun hh6 => ?_)
       · ((try dsimp only); go_keep)
       clear hK K hh5
       (try simp only [Act.put, sit, scz, scs])
       refine wpAnyH_take (i := 12) (oi := ⟨some 10, _, _, _, _, _⟩) (v := ?_) rfl (by kernel_rfl) (by kernel_rfl) (by kernel_rfl) (fun _ _ _ h => h) (Or.inl ⟨by rfl, ?_⟩) ‹_› ?_
       rotate_left
       · (intro w' hSw; (try dsimp only at hSw); go_simp; (try with_reducible rfl))
       (try simp only [Act.put, sit, scz, scs])
       refine wpAnyH_done (by kernel_rfl) ?_ _
       go_wp2_with fail
       go_meet
       first | (have KF := ((K3.new 24 (Plains.two (decide (m < 0)) A5 n5 c5)).new 24 (Plains.two (decide (mr < 0)) A6 n6 c6)); (try simp only [List.set, World.size_alloc, World.size_setCell] at KF); have KG := KF.erase 0; simp only [List.eraseIdx] at KG; exact ⟨_, A5, n5, c5, rfl, KG.ints_ ⟨KG.ints.2.1, KG.ints.2.2.2.1, KG.ints.2.2.2.2.1, KG.ints.2.2.2.2.2.1, trivial⟩⟩) | (have KF := ((K3.new 24 (Plains.two (decide (m < 0)) A5 n5 c5)).new 24 (Plains.two (decide (mr < 0)) A6 n6 c6)); (try simp only [List.set, World.size_alloc, World.size_setCell] at KF); have KG := KF.erase 0; simp only [List.eraseIdx] at KG; exact ⟨_, A5, n5, c5, rfl, KG.ints_ ⟨KG.ints.2.1, KG.ints.2.2.2.1, KG.ints.2.2.2.2.1, KG.ints.2.2.2.2.2.1, trivial⟩⟩) | (trace_state; fail)
      refine AllReadyH.cons (o := ⟨some 9, _, _, _, _, _⟩) rfl (fun K hK => ?_) AllReadyH.nil
      go_simp
      have KA9 := K3.new 24 (Plains.two false none 0 0)
      (try simp only [World.size_alloc] at KA9)
      refine hK.out _ _ ?_ (fun hh3 => ?_)
      · ((try dsimp only); go_keep)
      clear hK K hh2
      (try simp only [Act.put, sit, scz, scs])
      refine wpAnyH_ready (rs := [8]) (by kernel_rfl) (by simp) ?_
      refine AllReadyH.cons (o := ⟨some 8, _, _, _, _, _⟩) rfl (fun K hK => ?_) AllReadyH.nil
      go_simp
      have KA8 := KA9.new 24 (Plains.two false none 0 0)
      (try simp only [World.size_alloc] at KA8)
      refine hK.out _ _ ?_ (fun hh4 => ?_)
      · ((try dsimp only); go_keep)
      clear hK K hh3
      (try simp only [Act.put, sit, scz, scs])
      refine wpAnyH_ready (rs := [10]) (by kernel_rfl) (by simp) ?_
      refine AllReadyH.cons (o := ⟨none, _, _, _, _, _⟩) rfl (fun K hK => ?_) AllReadyH.nil
      go_simp
      refine hK.out _ _ ?_ (fun hh5 => ?_)
      · ((try dsimp only); go_keep)
      clear hK K hh4
      (try simp only [Act.put, sit, scz, scs])
      refine wpAnyH_ready (rs := [11]) (by kernel_rfl) (by simp) ?_
      refine AllReadyH.cons (o := ⟨none, _, _, _, _, _⟩) rfl (fun K hK => ?_) AllReadyH.nil
      go_simp
      refine hK.out _ _ ?_ (fun hh6 => ?_)
      · ((try dsimp only); go_keep)
      clear hK K hh5
      (try simp only [Act.put, sit, scz, scs])
      refine wpAnyH_take (i := 12) (oi := ⟨some 10, _, _, _, _, _⟩) (v := ?_) rfl (by kernel_rfl) (by kernel_rfl) (by kernel_rfl) (fun _ _ _ h => h) (Or.inl ⟨by rfl, ?_⟩) ‹_› ?_
      rotate_left
      · (intro w' hSw; (try dsimp only at hSw); go_simp; (try with_reducible rfl))
      (try simp only [Act.put, sit, scz, scs])
      refine wpAnyH_done (by kernel_rfl) ?_ _
      go_wp2_with fail
      go_meet
      first | (have KF := ((K3.new 24 (Plains.two (decide (mr < 0)) A6 n6 c6)).new 24 (Plains.two (decide (m < 0)) A5 n5 c5)); (try simp only [List.set, World.size_alloc, World.size_setCell] at KF); have KG := KF.erase 1; simp only [List.eraseIdx] at KG; exact ⟨_, A5, n5, c5, rfl, KG.ints_ ⟨KG.ints.2.1, KG.ints.2.2.2.1, KG.ints.2.2.2.2.1, KG.ints.2.2.2.2.2.1, trivial⟩⟩) | (have KF := ((K3.new 24 (Plains.two (decide (mr < 0)) A6 n6 c6)).new 24 (Plains.two (decide (m < 0)) A5 n5 c5)); (try simp only [List.set, World.size_alloc, World.size_setCell] at KF); have KG := KF.erase 1; simp only [List.eraseIdx] at KG; exact ⟨_, A5, n5, c5, rfl, KG.ints_ ⟨KG.ints.2.1, KG.ints.2.2.2.1, KG.ints.2.2.2.2.1, KG.ints.2.2.2.2.2.1, trivial⟩⟩) | (trace_state; fail)
     refine AllReadyH.cons (o := ⟨some 8, _, _, _, _, _⟩) rfl (fun K hK => ?_) ?_
     ·
      go_simp
      have KA8 := K1.new 24 (Plains.two false none 0 0)
      (try simp only [World.size_alloc] at KA8)
      refine hK.out _ _ ?_ (fun hh2 => ?_)
      · ((try dsimp only); go_keep)
      clear hK K hh1
      (try simp only [Act.put, sit, scz, scs])
      refine wpAnyH_ready (rs := [3, 9]) (by kernel_rfl) (by simp) ?_
      refine AllReadyH.cons (o := ⟨some 47, _, _, _, _, _⟩) rfl (fun K hK => ?_) ?_
      ·
       go_simp
       have im3a := KA8.ints.1.ci kab
       have im3b := KA8.ints.2.1.ci kg
       (go_at_call 92; (with_reducible refine (rdivMod_at im3a im3b zab zg).mono ?_); rw [HM.out, HMR.out]; rintro e wm3 ⟨A5, n5, c5, A6, n6, c6, rfl, d5, u5, v5, d6, u6, v6, g5⟩)
       (try go_wp2_with fail)
       have K3 := ((KA8.call g5).add (CanAt.mk_ d5 u5 v5)).add (CanAt.mk_ d6 u6 v6)
       clear p0x1 p0y1 p4x1 p4y1
       obtain ⟨⟨b8x3, b8y3⟩, ⟨p0x3, p0y3⟩, _, _, _, ⟨p4x3, p4y3⟩, _, _⟩ := K3.facts
       obtain ⟨f8x3, f8y3⟩ := K3.free (i := 0) rfl
       obtain ⟨e80x3, e80y3⟩ := K3.ne 0 1 rfl rfl (by decide)
       obtain ⟨e84x3, e84y3⟩ := K3.ne 0 5 rfl rfl (by decide)
       obtain ⟨e85x3, e85y3⟩ := K3.ne 0 6 rfl rfl (by decide)
       refine hK.out _ _ ?_ (fun hh3 => ?_)
       · ((try dsimp only); go_keep)
       clear hK K hh2
       (try simp only [Act.put, sit, scz, scs])
       refine wpAnyH_take (i := 4) (oi := ⟨some 43, _, _, _, _, _⟩) (v := ?_) rfl (by kernel_rfl) (by kernel_rfl) (by kernel_rfl) (fun _ _ _ h => h) (Or.inl ⟨by rfl, ?_⟩) ‹_› ?_
       rotate_left
       · (intro w' hSw; (try dsimp only at hSw); go_simp; (try with_reducible rfl))
       (try simp only [Act.put, sit, scz, scs])
       refine wpAnyH_take (i := 5) (oi := ⟨some 48, _, _, _, _, _⟩) (v := ?_) rfl (by kernel_rfl) (by kernel_rfl) (by kernel_rfl) (fun _ _ _ h => h) (Or.inl ⟨by rfl, ?_⟩) ‹_› ?_
       rotate_left
       · (intro w' hSw; (try dsimp only at hSw); go_simp; (try with_reducible rfl))
       (try simp only [Act.put, sit, scz, scs])
       refine wpAnyH_take (i := 6) (oi := ⟨some 49, _, _, _, _, _⟩) (v := ?_) rfl (by kernel_rfl) (by kernel_rfl) (by kernel_rfl) (fun _ _ _ h => h) (Or.inl ⟨by rfl, ?_⟩) ‹_› ?_
       rotate_left
       · (intro w' hSw; (try dsimp only at hSw); go_simp; (try with_reducible rfl))
       (try simp only [Act.put, sit, scz, scs])
       refine wpAnyH_take (i := 7) (oi := ⟨some 50, _, _, _, _, _⟩) (v := ?_) rfl (by kernel_rfl) (by kernel_rfl) (by kernel_rfl) (fun _ _ _ h => h) (Or.inl ⟨by rfl, ?_⟩) ‹_› ?_
       rotate_left
       · (intro w' hSw; (try dsimp only at hSw); go_simp; (try with_reducible rfl))
       (try simp only [Act.put, sit, scz, scs])
       refine wpAnyH_ready (rs := [9]) (by kernel_rfl) (by simp) ?_
       refine AllReadyH.cons (o := ⟨some 9, _, _, _, _, _⟩) rfl (fun K hK => ?_) AllReadyH.nil
       go_simp
       have KA9 := K3.new 24 (Plains.two false none 0 0)
       (try simp only [World.size_alloc] at KA9)
       obtain ⟨⟨b9x4, b9y4⟩, ⟨b8x4, b8y4⟩, _⟩ := KA9.facts
       obtain ⟨f9x4, f9y4⟩ := KA9.free (i := 0) rfl
       obtain ⟨e90x4, e90y4⟩ := KA9.ne 0 2 rfl rfl (by decide)
       obtain ⟨e94x4, e94y4⟩ := KA9.ne 0 6 rfl rfl (by decide)
       obtain ⟨e95x4, e95y4⟩ := KA9.ne 0 7 rfl rfl (by decide)
       obtain ⟨f8x4, f8y4⟩ := KA9.free (i := 1) rfl
       obtain ⟨eex4, eey4⟩ := KA9.ne 0 1 rfl rfl (by decide)
       refine hK.out _ _ ?_ (fun hh4 => ?_)
       · ((try dsimp only); go_keep)
       clear hK K hh3
       (try simp only [Act.put, sit, scz, scs])
       refine wpAnyH_ready (rs := [10]) (by kernel_rfl) (by simp) ?_
       refine AllReadyH.cons (o := ⟨none, _, _, _, _, _⟩) rfl (fun K hK => ?_) AllReadyH.nil
       go_simp
       refine hK.out _ _ ?_ (fun hh5 => ?_)
       · ((try dsimp only); go_keep)
       clear hK K hh4
       (try simp only [Act.put, sit, scz, scs])
       refine wpAnyH_ready (rs := [11]) (by kernel_rfl) (by simp) ?_
       refine AllReadyH.cons (o := ⟨none, _, _, _, _, _⟩) rfl (fun K hK => ?_) AllReadyH.nil
       go_simp
       refine hK.out _ _ ?_ (fun hh6 => ?_)
       · ((try dsimp only); go_keep)
       clear hK K hh5
       (try simp only [Act.put, sit, scz, scs])
       refine wpAnyH_take (i := 12) (oi := ⟨some 10, _, _, _, _, _⟩) (v := ?_) rfl (by kernel_rfl) (by kernel_rfl) (by kernel_rfl) (fun _ _ _ h => h) (Or.inl ⟨by rfl, ?_⟩) ‹_› ?_
       rotate_left
       · (intro w' hSw; (try dsimp only at hSw); go_simp; (try with_reducible rfl))
       (try simp only [Act.put, sit, scz, scs])
       refine wpAnyH_done (by kernel_rfl) ?_ _
       go_wp2_with fail
       go_meet
       first | (have KF := (((K3.new 24 (Plains.two false none 0 0)).put 1 rfl (decide (m < 0)) A5 n5 c5).put 0 rfl (decide (mr < 0)) A6 n6 c6); (try simp only [List.set, World.size_alloc, World.size_setCell] at KF); have KG := KF.erase 0; simp only [List.eraseIdx] at KG; exact ⟨_, A5, n5, c5, rfl, KG.ints_ ⟨KG.ints.2.1, KG.ints.2.2.2.1, KG.ints.2.2.2.2.1, KG.ints.2.2.2.2.2.1, trivial⟩⟩) | (trace_state; fail)
      refine AllReadyH.cons (o := ⟨some 9, _, _, _, _, _⟩) rfl (fun K hK => ?_) AllReadyH.nil
      go_simp
      have KA9 := KA8.new 24 (Plains.two false none 0 0)
      (try simp only [World.size_alloc] at KA9)
      refine hK.out _ _ ?_ (fun hh3 => ?_)
      · ((try dsimp only); go_keep)
      clear hK K hh2
      (try simp only [Act.put, sit, scz, scs])
      refine wpAnyH_ready (rs := [3]) (by kernel_rfl) (by simp) ?_
      refine AllReadyH.cons (o := ⟨some 47, _, _, _, _, _⟩) rfl (fun K hK => ?_) AllReadyH.nil
      go_simp
      have im3a := KA9.ints.1.ci kab
      have im3b := KA9.ints.2.1.ci kg
      (go_at_call 92; (with_reducible refine (rdivMod_at im3a im3b zab zg).mono ?_); rw [HM.out, HMR.out]; rintro e wm3 ⟨A5, n5, c5, A6, n6, c6, rfl, d5, u5, v5, d6, u6, v6, g5⟩)
      (try go_wp2_with fail)
      have K3 := ((KA9.call g5).add (CanAt.mk_ d5 u5 v5)).add (CanAt.mk_ d6 u6 v6)
      clear p0x1 p0y1 p4x1 p4y1
      obtain ⟨⟨b9x4, b9y4⟩, ⟨b8x4, b8y4⟩, ⟨p0x4, p0y4⟩, _, _, _, ⟨p4x4, p4y4⟩, _, _⟩ := K3.facts
      obtain ⟨f9x4, f9y4⟩ := K3.free (i := 0) rfl
      obtain ⟨e90x4, e90y4⟩ := K3.ne 0 2 rfl rfl (by decide)
      obtain ⟨e94x4, e94y4⟩ := K3.ne 0 6 rfl rfl (by decide)
      obtain ⟨e95x4, e95y4⟩ := K3.ne 0 7 rfl rfl (by decide)
      obtain ⟨f8x4, f8y4⟩ := K3.free (i := 1) rfl
      obtain ⟨e80x4, e80y4⟩ := K3.ne 1 2 rfl rfl (by decide)
      obtain ⟨e84x4, e84y4⟩ := K3.ne 1 6 rfl rfl (by decide)
      obtain ⟨e85x4, e85y4⟩ := K3.ne 1 7 rfl rfl (by decide)
      obtain ⟨eex4, eey4⟩ := K3.ne 0 1 rfl rfl (by decide)
      refine hK.out _ _ ?_ (fun hh4 => ?_)
      · ((try dsimp only); go_keep)
      clear hK K hh3
      (try simp only [Act.put, sit, scz, scs])
      refine wpAnyH_take (i := 4) (oi := ⟨some 43, _, _, _, _, _⟩) (v := ?_) rfl (by kernel_rfl) (by kernel_rfl) (by kernel_rfl) (fun _ _ _ h => h) (Or.inl ⟨by rfl, ?_⟩) ‹_› ?_
      rotate_left
      · (intro w' hSw; (try dsimp only at hSw); go_simp; (try with_reducible rfl))
      (try simp only [Act.put, sit, scz, scs])
      refine wpAnyH_take (i := 5) (oi := ⟨some 48, _, _, _, _, _⟩) (v := ?_) rfl (by kernel_rfl) (by kernel_rfl) (by kernel_rfl) (fun _ _ _ h => h) (Or.inl ⟨by rfl, ?_⟩) ‹_› ?_
      rotate_left
      · (intro w' hSw; (try dsimp only at hSw); go_simp; (try with_reducible rfl))
      (try simp only [Act.put, sit, scz, scs])
      refine wpAnyH_take (i := 6) (oi := ⟨some 49, _, _, _, _, _⟩) (v := ?_) rfl (by kernel_rfl) (by kernel_rfl) (by kernel_rfl) (fun _ _ _ h => h) (Or.inl ⟨by rfl, ?_⟩) ‹_› ?_
      rotate_left
      · (intro w' hSw; (try dsimp only at hSw); go_simp; (try with_reducible rfl))
      (try simp only [Act.put, sit, scz, scs])
      refine wpAnyH_take (i := 7) (oi := ⟨some 50, _, _, _, _, _⟩) (v := ?_) rfl (by kernel_rfl) (by kernel_rfl) (by kernel_rfl) (fun _ _ _ h => h) (Or.inl ⟨by rfl, ?_⟩) ‹_› ?_
      rotate_left
      · (intro w' hSw; (try dsimp only at hSw); go_simp; (try with_reducible rfl))
      (try simp only [Act.put, sit, scz, scs])
      refine wpAnyH_ready (rs := [10]) (by kernel_rfl) (by simp) ?_
      refine AllReadyH.cons (o := ⟨none, _, _, _, _, _⟩) rfl (fun K hK => ?_) AllReadyH.nil
      go_simp
      refine hK.out _ _ ?_ (fun hh5 => ?_)
      · ((try dsimp only); go_keep)
      clear hK K hh4
      (try simp only [Act.put, sit, scz, scs])
      refine wpAnyH_ready (rs := [11]) (by kernel_rfl) (by simp) ?_
      refine AllReadyH.cons (o := ⟨none, _, _, _, _, _⟩) rfl (fun K hK => ?_) AllReadyH.nil
      go_simp
      refine hK.out _ _ ?_ (fun hh6 => ?_)
      · ((try dsimp only); go_keep)
      clear hK K hh5
      (try simp only [Act.put, sit, scz, scs])
      refine wpAnyH_take (i := 12) (oi := ⟨some 10, _, _, _, _, _⟩) (v := ?_) rfl (by kernel_rfl) (by kernel_rfl) (by kernel_rfl) (fun _ _ _ h => h) (Or.inl ⟨by rfl, ?_⟩) ‹_› ?_
      rotate_left
      · (intro w' hSw; (try dsimp only at hSw); go_simp; (try with_reducible rfl))
      (try simp only [Act.put, sit, scz, scs])
      refine wpAnyH_done (by kernel_rfl) ?_ _
      go_wp2_with fail
      go_meet
      first | (have KF := ((K3.put 1 rfl (decide (m < 0)) A5 n5 c5).put 0 rfl (decide (mr < 0)) A6 n6 c6); (try simp only [List.set, World.size_alloc, World.size_setCell] at KF); have KG := KF.erase 0; simp only [List.eraseIdx] at KG; exact ⟨_, A5, n5, c5, rfl, KG.ints_ ⟨KG.ints.2.1, KG.ints.2.2.2.1, KG.ints.2.2.2.2.1, KG.ints.2.2.2.2.2.1, trivial⟩⟩) | (have KF := ((K3.put 1 rfl (decide (m < 0)) A5 n5 c5).put 0 rfl (decide (mr < 0)) A6 n6 c6); (try simp only [List.set, World.size_alloc, World.size_setCell] at KF); have KG := KF.erase 0; simp only [List.eraseIdx] at KG; exact ⟨_, A5, n5, c5, rfl, KG.ints_ ⟨KG.ints.2.1, KG.ints.2.2.2.1, KG.ints.2.2.2.2.1, KG.ints.2.2.2.2.2.1, trivial⟩⟩) | (trace_state; fail)
     refine AllReadyH.cons (o := ⟨some 9, _, _, _, _, _⟩) rfl (fun K hK => ?_) AllReadyH.nil
     go_simp
     have KA9 := K1.new 24 (Plains.two false none 0 0)
     (try simp only [World.size_alloc] at KA9)
     refine hK.out _ _ ?_ (fun hh2 => ?_)
     · ((try dsimp only); go_keep)
     clear hK K hh1
     (try simp only [Act.put, sit, scz, scs])
     refine wpAnyH_ready (rs := [3, 8]) (by kernel_rfl) (by simp) ?_
     refine AllReadyH.cons (o := ⟨some 47, _, _, _, _, _⟩) rfl (fun K hK => ?_) ?_
     ·
      go_simp
      have im3a := KA9.ints.1.ci kab
      have im3b := KA9.ints.2.1.ci kg
      (go_at_call 92; (with_reducible refine (rdivMod_at im3a im3b zab zg).mono ?_); rw [HM.out, HMR.out]; rintro e wm3 ⟨A5, n5, c5, A6, n6, c6, rfl, d5, u5, v5, d6, u6, v6, g5⟩)
      (try go_wp2_with fail)
      have K3 := ((KA9.call g5).add (CanAt.mk_ d5 u5 v5)).add (CanAt.mk_ d6 u6 v6)
      clear p0x1 p0y1 p4x1 p4y1
      obtain ⟨⟨b9x3, b9y3⟩, ⟨p0x3, p0y3⟩, _, _, _, ⟨p4x3, p4y3⟩, _, _⟩ := K3.facts
      obtain ⟨f9x3, f9y3⟩ := K3.free (i := 0) rfl
      obtain ⟨e90x3, e90y3⟩ := K3.ne 0 1 rfl rfl (by decide)
      obtain ⟨e94x3, e94y3⟩ := K3.ne 0 5 rfl rfl (by decide)
      obtain ⟨e95x3, e95y3⟩ := K3.ne 0 6 rfl rfl (by decide)
      refine hK.out _ _ ?_ (fun hh3 => ?_)
      · ((try dsimp only); go_keep)
      clear hK K hh2
      (try simp only [Act.put, sit, scz, scs])
      refine wpAnyH_take (i := 4) (oi := ⟨some 43, _, _, _, _, _⟩) (v := ?_) rfl (by kernel_rfl) (by kernel_rfl) (by kernel_rfl) (fun _ _ _ h => h) (Or.inl ⟨by rfl, ?_⟩) ‹_› ?_
      rotate_left
      · (intro w' hSw; (try dsimp only at hSw); go_simp; (try with_reducible rfl))
      (try simp only [Act.put, sit, scz, scs])
      refine wpAnyH_take (i := 5) (oi := ⟨some 48, _, _, _, _, _⟩) (v := ?_) rfl (by kernel_rfl) (by kernel_rfl) (by kernel_rfl) (fun _ _ _ h => h) (Or.inl ⟨by rfl, ?_⟩) ‹_› ?_
      rotate_left
      · (intro w' hSw; (try dsimp only at hSw); go_simp; (try with_reducible rfl))
      (try simp only [Act.put, sit, scz, scs])
      refine wpAnyH_take (i := 6) (oi := ⟨some 49, _, _, _, _, _⟩) (v := ?_) rfl (by kernel_rfl) (by kernel_rfl) (by kernel_rfl) (fun _ _ _ h => h) (Or.inl ⟨by rfl, ?_⟩) ‹_› ?_
      rotate_left
      · (intro w' hSw; (try dsimp only at hSw); go_simp; (try with_reducible rfl))
      (try simp only [Act.put, sit, scz, scs])
      refine wpAnyH_take (i := 7) (oi := ⟨some 50, _, _, _, _, _⟩) (v := ?_) rfl (by kernel_rfl) (by kernel_rfl) (by kernel_rfl) (fun _ _ _ h => h) (Or.inl ⟨by rfl, ?_⟩) ‹_› ?_
      rotate_left
      · (intro w' hSw; (try dsimp only at hSw); go_simp; (try with_reducible rfl))
      (try simp only [Act.put, sit, scz, scs])
      refine wpAnyH_ready (rs := [8]) (by kernel_rfl) (by simp) ?_
      refine AllReadyH.cons (o := ⟨some 8, _, _, _, _, _⟩) rfl (fun K hK => ?_) AllReadyH.nil
      go_simp
      have KA8 := K3.new 24 (Plains.two false none 0 0)
      (try simp only [World.size_alloc] at KA8)
      obtain ⟨⟨b8x4, b8y4⟩, ⟨b9x4, b9y4⟩, _⟩ := KA8.facts
      obtain ⟨f8x4, f8y4⟩ := KA8.free (i := 0) rfl
      obtain ⟨e80x4, e80y4⟩ := KA8.ne 0 2 rfl rfl (by decide)
      obtain ⟨e84x4, e84y4⟩ := KA8.ne 0 6 rfl rfl (by decide)
      obtain ⟨e85x4, e85y4⟩ := KA8.ne 0 7 rfl rfl (by decide)
      obtain ⟨f9x4, f9y4⟩ := KA8.free (i := 1) rfl
      obtain ⟨eex4, eey4⟩ := KA8.ne 0 1 rfl rfl (by decide)
      refine hK.out _ _ ?_ (fun hh4 => ?_)
      · ((try dsimp only); go_keep)
      clear hK K hh3
      (try simp only [Act.put, sit, scz, scs])
      refine wpAnyH_ready (rs := [10]) (by kernel_rfl) (by simp) ?_
      refine AllReadyH.cons (o := ⟨none, _, _, _, _, _⟩) rfl (fun K hK => ?_) AllReadyH.nil
      go_simp
      have KS := K3.new 24 (Plains.two (decide (m < 0)) A5 n5 c5)
      (try simp only [World.size_alloc] at KS)
      obtain ⟨⟨b8x5, b8y5⟩, ⟨b9x5, b9y5⟩, _⟩ := KS.facts
      obtain ⟨f8x5, f8y5⟩ := KS.free (i := 0) rfl
      obtain ⟨e80x5, e80y5⟩ := KS.ne 0 2 rfl rfl (by decide)
      obtain ⟨e84x5, e84y5⟩ := KS.ne 0 6 rfl rfl (by decide)
      obtain ⟨e85x5, e85y5⟩ := KS.ne 0 7 rfl rfl (by decide)
      obtain ⟨f9x5, f9y5⟩ := KS.free (i := 1) rfl
      obtain ⟨eex5, eey5⟩ := KS.ne 0 1 rfl rfl (by decide)
      refine hK.out _ _ ?_ (fun hh5 => ?_)
      · ((try dsimp only); go_keep)
      clear hK K hh4
      (try simp only [Act.put, sit, scz, scs])
      refine wpAnyH_ready (rs := [11]) (by kernel_rfl) (by simp) ?_
      refine AllReadyH.cons (o := ⟨none, _, _, _, _, _⟩) rfl (fun K hK => ?_) AllReadyH.nil
      go_simp
      refine hK.out _ _ ?_ (fun hh6 => ?_)
      · ((try dsimp only); go_keep)
      clear hK K hh5
      (try simp only [Act.put, sit, scz, scs])
      refine wpAnyH_take (i := 12) (oi := ⟨some 10, _, _, _, _, _⟩) (v := ?_) rfl (by kernel_rfl) (by kernel_rfl) (by kernel_rfl) (fun _ _ _ h => h) (Or.inl ⟨by rfl, ?_⟩) ‹_› ?_
      rotate_left
      · (intro w' hSw; (try dsimp only at hSw); go_simp; (try with_reducible rfl))
      (try simp only [Act.put, sit, scz, scs])
      refine wpAnyH_done (by kernel_rfl) ?_ _
      go_wp2_with fail
      go_meet
      first | (have KF := ((K3.new 24 (Plains.two (decide (m < 0)) A5 n5 c5)).put 1 rfl (decide (mr < 0)) A6 n6 c6); (try simp only [List.set, World.size_alloc, World.size_setCell] at KF); have KG := KF.erase 1; simp only [List.eraseIdx] at KG; exact ⟨_, A5, n5, c5, rfl, KG.ints_ ⟨KG.ints.2.1, KG.ints.2.2.2.1, KG.ints.2.2.2.2.1, KG.ints.2.2.2.2.2.1, trivial⟩⟩) | (have KF := ((K3.put 0 rfl (decide (mr < 0)) A6 n6 c6).new 24 (Plains.two (decide (m < 0)) A5 n5 c5)); (try simp only [List.set, World.size_alloc, World.size_setCell] at KF); have KG := KF.erase 1; simp only [List.eraseIdx] at KG; exact ⟨_, A5, n5, c5, rfl, KG.ints_ ⟨KG.ints.2.1, KG.ints.2.2.2.1, KG.ints.2.2.2.2.1, KG.ints.2.2.2.2.2.1, trivial⟩⟩) | (trace_state; fail)
     refine AllReadyH.cons (o := ⟨some 8, _, _, _, _, _⟩) rfl (fun K hK => ?_) AllReadyH.nil
     go_simp
     have KA8 := KA9.new 24 (Plains.two false none 0 0)
     (try simp only [World.size_alloc] at KA8)
     refine hK.out _ _ ?_ (fun hh3 => ?_)
     · ((try dsimp only); go_keep)
     clear hK K hh2
     (try simp only [Act.put, sit, scz, scs])
     refine wpAnyH_ready (rs := [3]) (by kernel_rfl) (by simp) ?_
     refine AllReadyH.cons (o := ⟨some 47, _, _, _, _, _⟩) rfl (fun K hK => ?_) AllReadyH.nil
     go_simp
     have im3a := KA8.ints.1.ci kab
     have im3b := KA8.ints.2.1.ci kg
     (go_at_call 92; (with_reducible refine (rdivMod_at im3a im3b zab zg).mono ?_); rw [HM.out, HMR.out]; rintro e wm3 ⟨A5, n5, c5, A6, n6, c6, rfl, d5, u5, v5, d6, u6, v6, g5⟩)
     (try go_wp2_with fail)
     have K3 := ((KA8.call g5).add (CanAt.mk_ d5 u5 v5)).add (CanAt.mk_ d6 u6 v6)
     clear p0x1 p0y1 p4x1 p4y1
     obtain ⟨⟨b8x4, b8y4⟩, ⟨b9x4, b9y4⟩, ⟨p0x4, p0y4⟩, _, _, _, ⟨p4x4, p4y4⟩, _, _⟩ := K3.facts
     obtain ⟨f8x4, f8y4⟩ := K3.free (i := 0) rfl
     obtain ⟨e80x4, e80y4⟩ := K3.ne 0 2 rfl rfl (by decide)
     obtain ⟨e84x4, e84y4⟩ := K3.ne 0 6 rfl rfl (by decide)
     obtain ⟨e85x4, e85y4⟩ := K3.ne 0 7 rfl rfl (by decide)
     obtain ⟨f9x4, f9y4⟩ := K3.free (i := 1) rfl
     obtain ⟨e90x4, e90y4⟩ := K3.ne 1 2 rfl rfl (by decide)
     obtain ⟨e94x4, e94y4⟩ := K3.ne 1 6 rfl rfl (by decide)
     obtain ⟨e95x4, e95y4⟩ := K3.ne 1 7 rfl rfl (by decide)
     obtain ⟨eex4, eey4⟩ := K3.ne 0 1 rfl rfl (by decide)
     refine hK.out _ _ ?_ (fun hh4 => ?_)
     · ((try dsimp only); go_keep)
     clear hK K hh3
     (try simp only [Act.put, sit, scz, scs])
     refine wpAnyH_take (i := 4) (oi := ⟨some 43, _, _, _, _, _⟩) (v := ?_) rfl (by kernel_rfl) (by kernel_rfl) (by kernel_rfl) (fun _ _ _ h => h) (Or.inl ⟨by rfl, ?_⟩) ‹_› ?_
     rotate_left
     · (intro w' hSw; (try dsimp only at hSw); go_simp; (try with_reducible rfl))
     (try simp only [Act.put, sit, scz, scs])
     refine wpAnyH_take (i := 5) (oi := ⟨some 48, _, _, _, _, _⟩) (v := ?_) rfl (by kernel_rfl) (by kernel_rfl) (by kernel_rfl) (fun _ _ _ h => h) (Or.inl ⟨by rfl, ?_⟩) ‹_› ?_
     rotate_left
     · (intro w' hSw; (try dsimp only at hSw); go_simp; (try with_reducible rfl))
     (try simp only [Act.put, sit, scz, scs])
     refine wpAnyH_take (i := 6) (oi := ⟨some 49, _, _, _, _, _⟩) (v := ?_) rfl (by kernel_rfl) (by kernel_rfl) (by kernel_rfl) (fun _ _ _ h => h) (Or.inl ⟨by rfl, ?_⟩) ‹_› ?_
     rotate_left
     · (intro w' hSw; (try dsimp only at hSw); go_simp; (try with_reducible rfl))
     (try simp only [Act.put, sit, scz, scs])
     refine wpAnyH_take (i := 7) (oi := ⟨some 50, _, _, _, _, _⟩) (v := ?_) rfl (by kernel_rfl) (by kernel_rfl) (by kernel_rfl) (fun _ _ _ h => h) (Or.inl ⟨by rfl, ?_⟩) ‹_› ?_
     rotate_left
     · (intro w' hSw; (try dsimp only at hSw); go_simp; (try with_reducible rfl))
     (try simp only [Act.put, sit, scz, scs])
     refine wpAnyH_ready (rs := [10]) (by kernel_rfl) (by simp) ?_
     refine AllReadyH.cons (o := ⟨none, _, _, _, _, _⟩) rfl (fun K hK => ?_) AllReadyH.nil
     go_simp
     refine hK.out _ _ ?_ (fun hh5 => ?_)
     · ((try dsimp only); go_keep)
     clear hK K hh4
     (try simp only [Act.put, sit, scz, scs])
     refine wpAnyH_ready (rs := [11]) (by kernel_rfl) (by simp) ?_
     refine AllReadyH.cons (o := ⟨none, _, _, _, _, _⟩) rfl (fun K hK => ?_) AllReadyH.nil
     go_simp
     refine hK.out _ _ ?_ (fun hh6 => ?_)
     · ((try dsimp only); go_keep)
     clear hK K hh5
     (try simp only [Act.put, sit, scz, scs])
     refine wpAnyH_take (i := 12) (oi := ⟨some 10, _, _, _, _, _⟩) (v := ?_) rfl (by kernel_rfl) (by kernel_rfl) (by kernel_rfl) (fun _ _ _ h => h) (Or.inl ⟨by rfl, ?_⟩) ‹_› ?_
     rotate_left
     · (intro w' hSw; (try dsimp only at hSw); go_simp; (try with_reducible rfl))
     (try simp only [Act.put, sit, scz, scs])
     refine wpAnyH_done (by kernel_rfl) ?_ _
     go_wp2_with fail
     go_meet
     first | (have KF := ((K3.put 0 rfl (decide (m < 0)) A5 n5 c5).put 1 rfl (decide (mr < 0)) A6 n6 c6); (try simp only [List.set, World.size_alloc, World.size_setCell] at KF); have KG := KF.erase 1; simp only [List.eraseIdx] at KG; exact ⟨_, A5, n5, c5, rfl, KG.ints_ ⟨KG.ints.2.1, KG.ints.2.2.2.1, KG.ints.2.2.2.2.1, KG.ints.2.2.2.2.2.1, trivial⟩⟩) | (have KF := ((K3.put 0 rfl (decide (m < 0)) A5 n5 c5).put 1 rfl (decide (mr < 0)) A6 n6 c6); (try simp only [List.set, World.size_alloc, World.size_setCell] at KF); have KG := KF.erase 1; simp only [List.eraseIdx] at KG; exact ⟨_, A5, n5, c5, rfl, KG.ints_ ⟨KG.ints.2.1, KG.ints.2.2.2.1, KG.ints.2.2.2.2.1, KG.ints.2.2.2.2.2.1, trivial⟩⟩) | (trace_state; fail)
    refine AllReadyH.cons (o := ⟨some 8, _, _, _, _, _⟩) rfl (fun K hK => ?_) ?_
    ·
     go_simp
     have KA8 := K3.new 24 (Plains.two false none 0 0)
     (try simp only [World.size_alloc] at KA8)
     refine hK.out _ _ ?_ (fun hh1 => ?_)
     · ((try dsimp only); go_keep)
     clear hK K hh0
     (try simp only [Act.put, sit, scz, scs])
     refine wpAnyH_ready (rs := [1, 9]) (by kernel_rfl) (by simp) ?_
     refine AllReadyH.cons (o := ⟨some 45, _, _, _, _, _⟩) rfl (fun K hK => ?_) ?_
     ·
      go_simp
      have im1 := KA8.drew.ints.2.1.ci kb
      (go_at_call 93; (with_reducible refine (rabs_at im1).mono ?_); rw [HAB.out]; rintro e wm1 ⟨A4, n4, c4, rfl, d4, u4, v4, g4⟩)
      (try go_wp2_with fail)
      have K1 := (KA8.drew.call g4).add (CanAt.mk_ d4 u4 v4)
      clear p0 p1 p2 p3
      obtain ⟨⟨b8x2, b8y2⟩, ⟨p0x2, p0y2⟩, _, _, _, ⟨p4x2, p4y2⟩, _, _⟩ := K1.facts
      obtain ⟨f8x2, f8y2⟩ := K1.free (i := 0) rfl
      obtain ⟨e80x2, e80y2⟩ := K1.ne 0 1 rfl rfl (by decide)
      obtain ⟨e84x2, e84y2⟩ := K1.ne 0 5 rfl rfl (by decide)
      obtain ⟨e85x2, e85y2⟩ := K1.ne 0 6 rfl rfl (by decide)
      refine hK.out _ _ ?_ (fun hh2 => ?_)
      · ((try dsimp only); go_keep)
      clear hK K hh1
      (try simp only [Act.put, sit, scz, scs])
      refine wpAnyH_ready (rs := [3, 9]) (by kernel_rfl) (by simp) ?_
      refine AllReadyH.cons (o := ⟨some 47, _, _, _, _, _⟩) rfl (fun K hK => ?_) ?_
      ·
       go_simp
       have im3a := K1.ints.1.ci kab
       have im3b := K1.ints.2.1.ci kg
       (go_at_call 92; (with_reducible refine (rdivMod_at im3a im3b zab zg).mono ?_); rw [HM.out, HMR.out]; rintro e wm3 ⟨A5, n5, c5, A6, n6, c6, rfl, d5, u5, v5, d6, u6, v6, g5⟩)
       (try go_wp2_with fail)
       have K3 := ((K1.call g5).add (CanAt.mk_ d5 u5 v5)).add (CanAt.mk_ d6 u6 v6)
       clear b8x2 b8y2 p0x2 p0y2 p4x2 p4y2 f8x2 f8y2 e80x2 e80y2 e84x2 e84y2 e85x2 e85y2
       obtain ⟨⟨b8x3, b8y3⟩, ⟨p0x3, p0y3⟩, _, _, _, ⟨p4x3, p4y3⟩, _, _⟩ := K3.facts
       obtain ⟨f8x3, f8y3⟩ := K3.free (i := 0) rfl
       obtain ⟨e80x3, e80y3⟩ := K3.ne 0 1 rfl rfl (by decide)
       obtain ⟨e84x3, e84y3⟩ := K3.ne 0 5 rfl rfl (by decide)
       obtain ⟨e85x3, e85y3⟩ := K3.ne 0 6 rfl rfl (by decide)
       refine hK.out _ _ ?_ (fun hh3 => ?_)
       · ((try dsimp only); go_keep)
       clear hK K hh2
       (try simp only [Act.put, sit, scz, scs])
       refine wpAnyH_take (i := 4) (oi := ⟨some 43, _, _, _, _, _⟩) (v := ?_) rfl (by kernel_rfl) (by kernel_rfl) (by kernel_rfl) (fun _ _ _ h => h) (Or.inl ⟨by rfl, ?_⟩) ‹_› ?_
       rotate_left
       · (intro w' hSw; (try dsimp only at hSw); go_simp; (try with_reducible rfl))
       (try simp only [Act.put, sit, scz, scs])
       refine wpAnyH_take (i := 5) (oi := ⟨some 48, _, _, _, _, _⟩) (v := ?_) rfl (by kernel_rfl) (by kernel_rfl) (by kernel_rfl) (fun _ _ _ h => h) (Or.inl ⟨by rfl, ?_⟩) ‹_› ?_
       rotate_left
       · (intro w' hSw; (try dsimp only at hSw); go_simp; (try with_reducible rfl))
       (try simp only [Act.put, sit, scz, scs])
       refine wpAnyH_take (i := 6) (oi := ⟨some 49, _, _, _, _, _⟩) (v := ?_) rfl (by kernel_rfl) (by kernel_rfl) (by kernel_rfl) (fun _ _ _ h => h) (Or.inl ⟨by rfl, ?_⟩) ‹_› ?_
       rotate_left
       · (intro w' hSw; (try dsimp only at hSw); go_simp; (try with_reducible rfl))
       (try simp only [Act.put, sit, scz, scs])
       refine wpAnyH_take (i := 7) (oi := ⟨some 50, _, _, _, _, _⟩) (v := ?_) rfl (by kernel_rfl) (by kernel_rfl) (by kernel_rfl) (fun _ _ _ h => h) (Or.inl ⟨by rfl, ?_⟩) ‹_› ?_
       rotate_left
       · (intro w' hSw; (try dsimp only at hSw); go_simp; (try with_reducible rfl))
       (try simp only [Act.put, sit, scz, scs])
       refine wpAnyH_ready (rs := [9]) (by kernel_rfl) (by simp) ?_
       refine AllReadyH.cons (o := ⟨some 9, _, _, _, _, _⟩) rfl (fun K hK => ?_) AllReadyH.nil
       go_simp
       have KA9 := K3.new 24 (Plains.two false none 0 0)
       (try simp only [World.size_alloc] at KA9)
       obtain ⟨⟨b9x4, b9y4⟩, ⟨b8x4, b8y4⟩, _⟩ := KA9.facts
       obtain ⟨f9x4, f9y4⟩ := KA9.free (i := 0) rfl
       obtain ⟨e90x4, e90y4⟩ := KA9.ne 0 2 rfl rfl (by decide)
       obtain ⟨e94x4, e94y4⟩ := KA9.ne 0 6 rfl rfl (by decide)
       obtain ⟨e95x4, e95y4⟩ := KA9.ne 0 7 rfl rfl (by decide)
       obtain ⟨f8x4, f8y4⟩ := KA9.free (i := 1) rfl
       obtain ⟨eex4, eey4⟩ := KA9.ne 0 1 rfl rfl (by decide)
       refine hK.out _ _ ?_ (fun hh4 => ?_)
       · ((try dsimp only); go_keep)
       clear hK K hh3
       (try simp only [Act.put, sit, scz, scs])
       refine wpAnyH_ready (rs := [10]) (by kernel_rfl) (by simp) ?_
       refine AllReadyH.cons (o := ⟨none, _, _, _, _, _⟩) rfl (fun K hK => ?_) AllReadyH.nil
       go_simp
       refine hK.out _ _ ?_ (fun hh5 => ?_)
       · ((try dsimp only); go_keep)
       clear hK K hh4
       (try simp only [Act.put, sit, scz, scs])
       refine wpAnyH_ready (rs := [11]) (by kernel_rfl) (by simp) ?_
       refine AllReadyH.cons (o := ⟨none, _, _, _, _, _⟩) rfl (fun K hK => ?_) AllReadyH.nil
       go_simp
       refine hK.out _ _ ?_ (fun hh6 => ?_)
       · ((try dsimp only); go_keep)
       clear hK K hh5
       (try simp only [Act.put, sit, scz, scs])
       refine wpAnyH_take (i := 12) (oi := ⟨some 10, _, _, _, _, _⟩) (v := ?_) rfl (by kernel_rfl) (by kernel_rfl) (by kernel_rfl) (fun _ _ _ h => h) (Or.inl ⟨by rfl, ?_⟩) ‹_› ?_
       rotate_left
       · (intro w' hSw; (try dsimp only at hSw); go_simp; (try with_reducible rfl))
       (try simp only [Act.put, sit, scz, scs])
       refine wpAnyH_done (by kernel_rfl) ?_ _
       go_wp2_with fail
       go_meet
       first | (have KF := (((K3.new 24 (Plains.two false none 0 0)).put 1 rfl (decide (m < 0)) A5 n5 c5).put 0 rfl (decide (mr < 0)) A6 n6 c6); (try simp only [List.set, World.size_alloc, World.size_setCell] at KF); have KG := KF.erase 0; simp only [List.eraseIdx] at KG; exact ⟨_, A5, n5, c5, rfl, KG.ints_ ⟨KG.ints.2.1, KG.ints.2.2.2.1, KG.ints.2.2.2.2.1, KG.ints.2.2.2.2.2.1, trivial⟩⟩) | (trace_state; fail)
      refine AllReadyH.cons (o := ⟨some 9, _, _, _, _, _⟩) rfl (fun K hK => ?_) AllReadyH.nil
      go_simp
      have KA9 := K1.new 24 (Plains.two false none 0 0)
      (try simp only [World.size_alloc] at KA9)
      obtain ⟨⟨b9x3, b9y3⟩, ⟨b8x3, b8y3⟩, _⟩ := KA9.facts
      obtain ⟨f9x3, f9y3⟩ := KA9.free (i := 0) rfl
      obtain ⟨e90x3, e90y3⟩ := KA9.ne 0 2 rfl rfl (by decide)
      obtain ⟨e94x3, e94y3⟩ := KA9.ne 0 6 rfl rfl (by decide)
      obtain ⟨e95x3, e95y3⟩ := KA9.ne 0 7 rfl rfl (by decide)
      obtain ⟨f8x3, f8y3⟩ := KA9.free (i := 1) rfl
      obtain ⟨eex3, eey3⟩ := KA9.ne 0 1 rfl rfl (by decide)
      refine hK.out _ _ ?_ (fun hh3 => ?_)
      · ((try dsimp only); go_keep)
      clear hK K hh2
      (try simp only [Act.put, sit, scz, scs])
      refine wpAnyH_ready (rs := [3]) (by kernel_rfl) (by simp) ?_
      refine AllReadyH.cons (o := ⟨some 47, _, _, _, _, _⟩) rfl (fun K hK => ?_) AllReadyH.nil
      go_simp
      have im3a := KA9.ints.1.ci kab
      have im3b := KA9.ints.2.1.ci kg
      (go_at_call 92; (with_reducible refine (rdivMod_at im3a im3b zab zg).mono ?_); rw [HM.out, HMR.out]; rintro e wm3 ⟨A5, n5, c5, A6, n6, c6, rfl, d5, u5, v5, d6, u6, v6, g5⟩)
      (try go_wp2_with fail)
      have K3 := ((KA9.call g5).add (CanAt.mk_ d5 u5 v5)).add (CanAt.mk_ d6 u6 v6)
      clear b8x2 b8y2 p0x2 p0y2 p4x2 p4y2 f8x2 f8y2 e80x2 e80y2 e84x2 e84y2 e85x2 e85y2 b9x3 b9y3 b8x3 b8y3 f9x3 f9y3 e90x3 e90y3 e94x3 e94y3 e95x3 e95y3 f8x3 f8y3 eex3 eey3
      obtain ⟨⟨b9x4, b9y4⟩, ⟨b8x4, b8y4⟩, ⟨p0x4, p0y4⟩, _, _, _, ⟨p4x4, p4y4⟩, _, _⟩ := K3.facts
      obtain ⟨f9x4, f9y4⟩ := K3.free (i := 0) rfl
      obtain ⟨e90x4, e90y4⟩ := K3.ne 0 2 rfl rfl (by decide)
      obtain ⟨e94x4, e94y4⟩ := K3.ne 0 6 rfl rfl (by decide)
      obtain ⟨e95x4, e95y4⟩ := K3.ne 0 7 rfl rfl (by decide)
      obtain ⟨f8x4, f8y4⟩ := K3.free (i := 1) rfl
      obtain ⟨e80x4, e80y4⟩ := K3.ne 1 2 rfl rfl (by decide)
      obtain ⟨e84x4, e84y4⟩ := K3.ne 1 6 rfl rfl (by decide)
      obtain ⟨e85x4, e85y4⟩ := K3.ne 1 7 rfl rfl (by decide)
      obtain ⟨eex4, eey4⟩ := K3.ne 0 1 rfl rfl (by decide)
      refine hK.out _ _ ?_ (fun hh4 => ?_)
      · ((try dsimp only); go_keep)
      clear hK K hh3
      (try simp only [Act.put, sit, scz, scs])
      refine wpAnyH_take (i := 4) (oi := ⟨some 43, _, _, _, _, _⟩) (v := ?_) rfl (by kernel_rfl) (by kernel_rfl) (by kernel_rfl) (fun _ _ _ h => h) (Or.inl ⟨by rfl, ?_⟩) ‹_› ?_
      rotate_left
      · (intro w' hSw; (try dsimp only at hSw); go_simp; (try with_reducible rfl))
      (try simp only [Act.put, sit, scz, scs])
      refine wpAnyH_take (i := 5) (oi := ⟨some 48, _, _, _, _, _⟩) (v := ?_) rfl (by kernel_rfl) (by kernel_rfl) (by kernel_rfl) (fun _ _ _ h => h) (Or.inl ⟨by rfl, ?_⟩) ‹_› ?_
      rotate_left
      · (intro w' hSw; (try dsimp only at hSw); go_simp; (try with_reducible rfl))
      (try simp only [Act.put, sit, scz, scs])
      refine wpAnyH_take (i := 6) (oi := ⟨some 49, _, _, _, _, _⟩) (v := ?_) rfl (by kernel_rfl) (by kernel_rfl) (by kernel_rfl) (fun _ _ _ h => h) (Or.inl ⟨by rfl, ?_⟩) ‹_› ?_
      rotate_left
      · (intro w' hSw; (try dsimp only at hSw); go_simp; (try with_reducible rfl))
      (try simp only [Act.put, sit, scz, scs])
      refine wpAnyH_take (i := 7) (oi := ⟨some 50, _, _, _, _, _⟩) (v := ?_) rfl (by kernel_rfl) (by kernel_rfl) (by kernel_rfl) (fun _ _ _ h => h) (Or.inl ⟨by rfl, ?_⟩) ‹_› ?_
      rotate_left
      · (intro w' hSw; (try dsimp only at hSw); go_simp; (try with_reducible rfl))
      (try simp only [Act.put, sit, scz, scs])
      refine wpAnyH_ready (rs := [10]) (by kernel_rfl) (by simp) ?_
      refine AllReadyH.cons (o := ⟨none, _, _, _, _, _⟩) rfl (fun K hK => ?_) AllReadyH.nil
      go_simp
      refine hK.out _ _ ?_ (fun hh5 => ?_)
      · ((try dsimp only); go_keep)
      clear hK K hh4
      (try simp only [Act.put, sit, scz, scs])
      refine wpAnyH_ready (rs := [11]) (by kernel_rfl) (by simp) ?_
      refine AllReadyH.cons (o := ⟨none, _, _, _, _, _⟩) rfl (fun K hK => ?_) AllReadyH.nil
      go_simp
      refine hK.out _ _ ?_ (fun hh6 => ?_)
      · ((try dsimp only); go_keep)
      clear hK K hh5
      (try simp only [Act.put, sit, scz, scs])
      refine wpAnyH_take (i := 12) (oi := ⟨some 10, _, _, _, _, _⟩) (v := ?_) rfl (by kernel_rfl) (by kernel_rfl) (by kernel_rfl) (fun _ _ _ h => h) (Or.inl ⟨by rfl, ?_⟩) ‹_› ?_
      rotate_left
      · (intro w' hSw; (try dsimp only at hSw); go_simp; (try with_reducible rfl))
      (try simp only [Act.put, sit, scz, scs])
      refine wpAnyH_done (by kernel_rfl) ?_ _
      go_wp2_with fail
      go_meet
      first | (have KF := ((K3.put 1 rfl (decide (m < 0)) A5 n5 c5).put 0 rfl (decide (mr < 0)) A6 n6 c6); (try simp only [List.set, World.size_alloc, World.size_setCell] at KF); have KG := KF.erase 0; simp only [List.eraseIdx] at KG; exact ⟨_, A5, n5, c5, rfl, KG.ints_ ⟨KG.ints.2.1, KG.ints.2.2.2.1, KG.ints.2.2.2.2.1, KG.ints.2.2.2.2.2.1, trivial⟩⟩) | (have KF := ((K3.put 1 rfl (decide (m < 0)) A5 n5 c5).put 0 rfl (decide (mr < 0)) A6 n6 c6); (try simp only [List.set, World.size_alloc, World.size_setCell] at KF); have KG := KF.erase 0; simp only [List.eraseIdx] at KG; exact ⟨_, A5, n5, c5, rfl, KG.ints_ ⟨KG.ints.2.1, KG.ints.2.2.2.1, KG.ints.2.2.2.2.1, KG.ints.2.2.2.2.2.1, trivial⟩⟩) | (trace_state; fail)
     refine AllReadyH.cons (o := ⟨some 9, _, _, _, _, _⟩) rfl (fun K hK => ?_) AllReadyH.nil
     go_simp
     have KA9 := KA8.new 24 (Plains.two false none 0 0)
     (try simp only [World.size_alloc] at KA9)
     refine hK.out _ _ ?_ (fun hh2 => ?_)
     · ((try dsimp only); go_keep)
     clear hK K hh1
     (try simp only [Act.put, sit, scz, scs])
     refine wpAnyH_ready (rs := [1]) (by kernel_rfl) (by simp) ?_
     refine AllReadyH.cons (o := ⟨some 45, _, _, _, _, _⟩) rfl (fun K hK => ?_) AllReadyH.nil
     go_simp
     have im1 := KA9.drew.ints.2.1.ci kb
     (go_at_call 93; (with_reducible refine (rabs_at im1).mono ?_); rw [HAB.out]; rintro e wm1 ⟨A4, n4, c4, rfl, d4, u4, v4, g4⟩)
     (try go_wp2_with fail)
     have K1 := (KA9.drew.call g4).add (CanAt.mk_ d4 u4 v4)
     clear p0 p1 p2 p3
     obtain ⟨⟨b9x3, b9y3⟩, ⟨b8x3, b8y3⟩, ⟨p0x3, p0y3⟩, _, _, _, ⟨p4x3, p4y3⟩, _, _⟩ := K1.facts
     obtain ⟨f9x3, f9y3⟩ := K1.free (i := 0) rfl
     obtain ⟨e90x3, e90y3⟩ := K1.ne 0 2 rfl rfl (by decide)
     obtain ⟨e94x3, e94y3⟩ := K1.ne 0 6 rfl rfl (by decide)
     obtain ⟨e95x3, e95y3⟩ := K1.ne 0 7 rfl rfl (by decide)
     obtain ⟨f8x3, f8y3⟩ := K1.free (i := 1) rfl
     obtain ⟨e80x3, e80y3⟩ := K1.ne 1 2 rfl rfl (by decide)
     obtain ⟨e84x3, e84y3⟩ := K1.ne 1 6 rfl rfl (by decide)
     obtain ⟨e85x3, e85y3⟩ := K1.ne 1 7 rfl rfl (by decide)
     obtain ⟨eex3, eey3⟩ := K1.ne 0 1 rfl rfl (by decide)
     refine hK.out _ _ ?_ (fun hh3 => ?_)
     · ((try dsimp only); go_keep)
     clear hK K hh2
     (try simp only [Act.put, sit, scz, scs])
     refine wpAnyH_ready (rs := [3]) (by kernel_rfl) (by simp) ?_
     refine AllReadyH.cons (o := ⟨some 47, _, _, _, _, _⟩) rfl (fun K hK => ?_) AllReadyH.nil
     go_simp
     have im3a := K1.ints.1.ci kab
     have im3b := K1.ints.2.1.ci kg
     (go_at_call 92; (with_reducible refine (rdivMod_at im3a im3b zab zg).mono ?_); rw [HM.out, HMR.out]; rintro e wm3 ⟨A5, n5, c5, A6, n6, c6, rfl, d5, u5, v5, d6, u6, v6, g5⟩)
     (try go_wp2_with fail)
     have K3 := ((K1.call g5).add (CanAt.mk_ d5 u5 v5)).add (CanAt.mk_ d6 u6 v6)
     clear b9x3 b9y3 b8x3 b8y3 p0x3 p0y3 p4x3 p4y3 f9x3 f9y3 e90x3 e90y3 e94x3 e94y3 e95x3 e95y3 f8x3 f8y3 e80x3 e80y3 e84x3 e84y3 e85x3 e85y3 eex3 eey3
     obtain ⟨⟨b9x4, b9y4⟩, ⟨b8x4, b8y4⟩, ⟨p0x4, p0y4⟩, _, _, _, ⟨p4x4, p4y4⟩, _, _⟩ := K3.facts
     obtain ⟨f9x4, f9y4⟩ := K3.free (i := 0) rfl
     obtain ⟨e90x4, e90y4⟩ := K3.ne 0 2 rfl rfl (by decide)
     obtain ⟨e94x4, e94y4⟩ := K3.ne 0 6 rfl rfl (by decide)
     obtain ⟨e95x4, e95y4⟩ := K3.ne 0 7 rfl rfl (by decide)
     obtain ⟨f8x4, f8y4⟩ := K3.free (i := 1) rfl
     obtain ⟨e80x4, e80y4⟩ := K3.ne 1 2 rfl rfl (by decide)
     obtain ⟨e84x4, e84y4⟩ := K3.ne 1 6 rfl rfl (by decide)
     obtain ⟨e85x4, e85y4⟩ := K3.ne 1 7 rfl rfl (by decide)
     obtain ⟨eex4, eey4⟩ := K3.ne 0 1 rfl rfl (by decide)
     refine hK.out _ _ ?_ (fun hh4 => ?_)
     · ((try dsimp only); go_keep)
     clear hK K hh3
     (try simp only [Act.put, sit, scz, scs])
     refine wpAnyH_take (i := 4) (oi := ⟨some 43, _, _, _, _, _⟩) (v := ?_) rfl (by kernel_rfl) (by kernel_rfl) (by kernel_rfl) (fun _ _ _ h => h) (Or.inl ⟨by rfl, ?_⟩) ‹_› ?_
     rotate_left
     · (intro w' hSw; (try dsimp only at hSw); go_simp; (try with_reducible rfl))
     (try simp only [Act.put, sit, scz, scs])
     refine wpAnyH_take (i := 5) (oi := ⟨some 48, _, _, _, _, _⟩) (v := ?_) rfl (by kernel_rfl) (by kernel_rfl) (by kernel_rfl) (fun _ _ _ h => h) (Or.inl ⟨by rfl, ?_⟩) ‹_› ?_
     rotate_left
     · (intro w' hSw; (try dsimp only at hSw); go_simp; (try with_reducible rfl))
     (try simp only [Act.put, sit, scz, scs])
     refine wpAnyH_take (i := 6) (oi := ⟨some 49, _, _, _, _, _⟩) (v := ?_) rfl (by kernel_rfl) (by kernel_rfl) (by kernel_rfl) (fun _ _ _ h => h) (Or.inl ⟨by rfl, ?_⟩) ‹_› ?_
     rotate_left
     · (intro w' hSw; (try dsimp only at hSw); go_simp; (try with_reducible rfl))
     (try simp only [Act.put, sit, scz, scs])
     refine wpAnyH_take (i := 7) (oi := ⟨some 50, _, _, _, _, _⟩) (v := ?_) rfl (by kernel_rfl) (by kernel_rfl) (by kernel_rfl) (fun _ _ _ h => h) (Or.inl ⟨by rfl, ?_⟩) ‹_› ?_
     rotate_left
     · (intro w' hSw; (try dsimp only at hSw); go_simp; (try with_reducible rfl))
     (try simp only [Act.put, sit, scz, scs])
     refine wpAnyH_ready (rs := [10]) (by kernel_rfl) (by simp) ?_
     refine AllReadyH.cons (o := ⟨none, _, _, _, _, _⟩) rfl (fun K hK => ?_) AllReadyH.nil
     go_simp
     refine hK.out _ _ ?_ (fun hh5 => ?_)
     · ((try dsimp only); go_keep)
     clear hK K hh4
     (try simp only [Act.put, sit, scz, scs])
     refine wpAnyH_ready (rs := [11]) (by kernel_rfl) (by simp) ?_
     refine AllReadyH.cons (o := ⟨none, _, _, _, _, _⟩) rfl (fun K hK => ?_) AllReadyH.nil
     go_simp
     refine hK.out _ _ ?_ (fun hh6 => ?_)
     · ((try dsimp only); go_keep)
     clear hK K hh5
     (try simp only [Act.put, sit, scz, scs])
     refine wpAnyH_take (i := 12) (oi := ⟨some 10, _, _, _, _, _⟩) (v := ?_) rfl (by kernel_rfl) (by kernel_rfl) (by kernel_rfl) (fun _ _ _ h => h) (Or.inl ⟨by rfl, ?_⟩) ‹_› ?_
     rotate_left
     · (intro w' hSw; (try dsimp only at hSw); go_simp; (try with_reducible rfl))
     (try simp only [Act.put, sit, scz, scs])
     refine wpAnyH_done (by kernel_rfl) ?_ _
     go_wp2_with fail
     go_meet
     first | (have KF := ((K3.put 1 rfl (decide (m < 0)) A5 n5 c5).put 0 rfl (decide (mr < 0)) A6 n6 c6); (try simp only [List.set, World.size_alloc, World.size_setCell] at KF); have KG := KF.erase 0; simp only [List.eraseIdx] at KG; exact ⟨_, A5, n5, c5, rfl, KG.ints_ ⟨KG.ints.2.1, KG.ints.2.2.2.1, KG.ints.2.2.2.2.1, KG.ints.2.2.2.2.2.1, trivial⟩⟩) | (have KF := ((K3.put 1 rfl (decide (m < 0)) A5 n5 c5).put 0 rfl (decide (mr < 0)) A6 n6 c6); (try simp only [List.set, World.size_alloc, World.size_setCell] at KF); have KG := KF.erase 0; simp only [List.eraseIdx] at KG; exact ⟨_, A5, n5, c5, rfl, KG.ints_ ⟨KG.ints.2.1, KG.ints.2.2.2.1, KG.ints.2.2.2.2.1, KG.ints.2.2.2.2.2.1, trivial⟩⟩) | (trace_state; fail)
    refine AllReadyH.cons (o := ⟨some 9, _, _, _, _, _⟩) rfl (fun K hK => ?_) AllReadyH.nil
    go_simp
    have KA9 := K3.new 24 (Plains.two false none 0 0)
    (try simp only [World.size_alloc] at KA9)
    refine hK.out _ _ ?_ (fun hh1 => ?_)
    · ((try dsimp only); go_keep)
    clear hK K hh0
    (try simp only [Act.put, sit, scz, scs])
    refine wpAnyH_ready (rs := [1, 8]) (by kernel_rfl) (by simp) ?_
    refine AllReadyH.cons (o := ⟨some 45, _, _, _, _, _⟩) rfl (fun K hK => ?_) ?_
    ·
     go_simp
     have im1 := KA9.drew.ints.2.1.ci kb
     (go_at_call 93; (with_reducible refine (rabs_at im1).mono ?_); rw [HAB.out]; rintro e wm1 ⟨A4, n4, c4, rfl, d4, u4, v4, g4⟩)
     (try go_wp2_with fail)
     have K1 := (KA9.drew.call g4).add (CanAt.mk_ d4 u4 v4)
     clear p0 p1 p2 p3
     obtain ⟨⟨b9x2, b9y2⟩, ⟨p0x2, p0y2⟩, _, _, _, ⟨p4x2, p4y2⟩, _, _⟩ := K1.facts
     obtain ⟨f9x2, f9y2⟩ := K1.free (i := 0) rfl
     obtain ⟨e90x2, e90y2⟩ := K1.ne 0 1 rfl rfl (by decide)
     obtain ⟨e94x2, e94y2⟩ := K1.ne 0 5 rfl rfl (by decide)
     obtain ⟨e95x2, e95y2⟩ := K1.ne 0 6 rfl rfl (by decide)
     refine hK.out _ _ ?_ (fun hh2 => ?_)
     · ((try dsimp only); go_keep)
     clear hK K hh1
     (try simp only [Act.put, sit, scz, scs])
     refine wpAnyH_ready (rs := [3, 8]) (by kernel_rfl) (by simp) ?_
     refine AllReadyH.cons (o := ⟨some 47, _, _, _, _, _⟩) rfl (fun K hK => ?_) ?_
     ·
      go_simp
      have im3a := K1.ints.1.ci kab
      have im3b := K1.ints.2.1.ci kg
      (go_at_call 92; (with_reducible refine (rdivMod_at im3a im3b zab zg).mono ?_); rw [HM.out, HMR.out]; rintro e wm3 ⟨A5, n5, c5, A6, n6, c6, rfl, d5, u5, v5, d6, u6, v6, g5⟩)
      (try go_wp2_with fail)
      have K3 := ((K1.call g5).add (CanAt.mk_ d5 u5 v5)).add (CanAt.mk_ d6 u6 v6)
      clear b9x2 b9y2 p0x2 p0y2 p4x2 p4y2 f9x2 f9y2 e90x2 e90y2 e94x2 e94y2 e95x2 e95y2
      obtain ⟨⟨b9x3, b9y3⟩, ⟨p0x3, p0y3⟩, _, _, _, ⟨p4x3, p4y3⟩, _, _⟩ := K3.facts
      obtain ⟨f9x3, f9y3⟩ := K3.free (i := 0) rfl
      obtain ⟨e90x3, e90y3⟩ := K3.ne 0 1 rfl rfl (by decide)
      obtain ⟨e94x3, e94y3⟩ := K3.ne 0 5 rfl rfl (by decide)
      obtain ⟨e95x3, e95y3⟩ := K3.ne 0 6 rfl rfl (by decide)
      refine hK.out _ _ ?_ (fun hh3 => ?_)
      · ((try dsimp only); go_keep)
      clear hK K hh2
      (try simp only [Act.put, sit, scz, scs])
      refine wpAnyH_take (i := 4) (oi := ⟨some 43, _, _, _, _, _⟩) (v := ?_) rfl (by kernel_rfl) (by kernel_rfl) (by kernel_rfl) (fun _ _ _ h => h) (Or.inl ⟨by rfl, ?_⟩) ‹_› ?_
      rotate_left
      · (intro w' hSw; (try dsimp only at hSw); go_simp; (try with_reducible rfl))
      (try simp only [Act.put, sit, scz, scs])
      refine wpAnyH_take (i := 5) (oi := ⟨some 48, _, _, _, _, _⟩) (v := ?_) rfl (by kernel_rfl) (by kernel_rfl) (by kernel_rfl) (fun _ _ _ h => h) (Or.inl ⟨by rfl, ?_⟩) ‹_› ?_
      rotate_left
      · (intro w' hSw; (try dsimp only at hSw); go_simp; (try with_reducible rfl))
      (try simp only [Act.put, sit, scz, scs])
      refine wpAnyH_take (i := 6) (oi := ⟨some 49, _, _, _, _, _⟩) (v := ?_) rfl (by kernel_rfl) (by kernel_rfl) (by kernel_rfl) (fun _ _ _ h => h) (Or.inl ⟨by rfl, ?_⟩) ‹_› ?_
      rotate_left
      · (intro w' hSw; (try dsimp only at hSw); go_simp; (try with_reducible rfl))
      (try simp only [Act.put, sit, scz, scs])
      refine wpAnyH_take (i := 7) (oi := ⟨some 50, _, _, _, _, _⟩) (v := ?_) rfl (by kernel_rfl) (by kernel_rfl) (by kernel_rfl) (fun _ _ _ h => h) (Or.inl ⟨by rfl, ?_⟩) ‹_› ?_
      rotate_left
      · (intro w' hSw; (try dsimp only at hSw); go_simp; (try with_reducible rfl))
      (try simp only [Act.put, sit, scz, scs])
      refine wpAnyH_ready (rs := [8]) (by kernel_rfl) (by simp) ?_
      refine AllReadyH.cons (o := ⟨some 8, _, _, _, _, _⟩) rfl (fun K hK => ?_) AllReadyH.nil
      go_simp
      have KA8 := K3.new 24 (Plains.two false none 0 0)
      (try simp only [World.size_alloc] at KA8)
      obtain ⟨⟨b8x4, b8y4⟩, ⟨b9x4, b9y4⟩, _⟩ := KA8.facts
      obtain ⟨f8x4, f8y4⟩ := KA8.free (i := 0) rfl
      obtain ⟨e80x4, e80y4⟩ := KA8.ne 0 2 rfl rfl (by decide)
      obtain ⟨e84x4, e84y4⟩ := KA8.ne 0 6 rfl rfl (by decide)
      obtain ⟨e85x4, e85y4⟩ := KA8.ne 0 7 rfl rfl (by decide)
      obtain ⟨f9x4, f9y4⟩ := KA8.free (i := 1) rfl
      obtain ⟨eex4, eey4⟩ := KA8.ne 0 1 rfl rfl (by decide)
      refine hK.out _ _ ?_ (fun hh4 => ?_)
      · ((try dsimp only); go_keep)
      clear hK K hh3
      (try simp only [Act.put, sit, scz, scs])
      refine wpAnyH_ready (rs := [10]) (by kernel_rfl) (by simp) ?_
      refine AllReadyH.cons (o := ⟨none, _, _, _, _, _⟩) rfl (fun K hK => ?_) AllReadyH.nil
      go_simp
      have KS := K3.new 24 (Plains.two (decide (m < 0)) A5 n5 c5)
      (try simp only [World.size_alloc] at KS)
      obtain ⟨⟨b8x5, b8y5⟩, ⟨b9x5, b9y5⟩, _⟩ := KS.facts
      obtain ⟨f8x5, f8y5⟩ := KS.free (i := 0) rfl
      obtain ⟨e80x5, e80y5⟩ := KS.ne 0 2 rfl rfl (by decide)
      obtain ⟨e84x5, e84y5⟩ := KS.ne 0 6 rfl rfl (by decide)
      obtain ⟨e85x5, e85y5⟩ := KS.ne 0 7 rfl rfl (by decide)
      obtain ⟨f9x5, f9y5⟩ := KS.free (i := 1) rfl
      obtain ⟨eex5, eey5⟩ := KS.ne 0 1 rfl rfl (by decide)
      refine hK.out _ _ ?_ (fun hh5 => ?_)
      · ((try dsimp only); go_keep)
      clear hK K hh4
      (try simp only [Act.put, sit, scz, scs])
      refine wpAnyH_ready (rs := [11]) (by kernel_rfl) (by simp) ?_
      refine AllReadyH.cons (o := ⟨none, _, _, _, _, _⟩) rfl (fun K hK => ?_) AllReadyH.nil
      go_simp
      refine hK.out _ _ ?_ (fun hh6 => ?_)
      · ((try dsimp only); go_keep)
      clear hK K hh5
      (try simp only [Act.put, sit, scz, scs])
      refine wpAnyH_take (i := 12) (oi := ⟨some 10, _, _, _, _, _⟩) (v := ?_) rfl (by kernel_rfl) (by kernel_rfl) (by kernel_rfl) (fun _ _ _ h => h) (Or.inl ⟨by rfl, ?_⟩) ‹_› ?_
      rotate_left
      · (intro w' hSw; (try dsimp only at hSw); go_simp; (try with_reducible rfl))
      (try simp only [Act.put, sit, scz, scs])
      refine wpAnyH_done (by kernel_rfl) ?_ _
      go_wp2_with fail
      go_meet
      first | (have KF := ((K3.new 24 (Plains.two (decide (m < 0)) A5 n5 c5)).put 1 rfl (decide (mr < 0)) A6 n6 c6); (try simp only [List.set, World.size_alloc, World.size_setCell] at KF); have KG := KF.erase 1; simp only [List.eraseIdx] at KG; exact ⟨_, A5, n5, c5, rfl, KG.ints_ ⟨KG.ints.2.1, KG.ints.2.2.2.1, KG.ints.2.2.2.2.1, KG.ints.2.2.2.2.2.1, trivial⟩⟩) | (have KF := ((K3.put 0 rfl (decide (mr < 0)) A6 n6 c6).new 24 (Plains.two (decide (m < 0)) A5 n5 c5)); (try simp only [List.set, World.size_alloc, World.size_setCell] at KF); have KG := KF.erase 1; simp only [List.eraseIdx] at KG; exact ⟨_, A5, n5, c5, rfl, KG.ints_ ⟨KG.ints.2.1, KG.ints.2.2.2.1, KG.ints.2.2.2.2.1, KG.ints.2.2.2.2.2.1, trivial⟩⟩) | (trace_state; fail)
     refine AllReadyH.cons (o := ⟨some 8, _, _, _, _, _⟩) rfl (fun K hK => ?_) AllReadyH.nil
     go_simp
     have KA8 := K1.new 24 (Plains.two false none 0 0)
     (try simp only [World.size_alloc] at KA8)
     obtain ⟨⟨b8x3, b8y3⟩, ⟨b9x3, b9y3⟩, _⟩ := KA8.facts
     obtain ⟨f8x3, f8y3⟩ := KA8.free (i := 0) rfl
     obtain ⟨e80x3, e80y3⟩ := KA8.ne 0 2 rfl rfl (by decide)
     obtain ⟨e84x3, e84y3⟩ := KA8.ne 0 6 rfl rfl (by decide)
     obtain ⟨e85x3, e85y3⟩ := KA8.ne 0 7 rfl rfl (by decide)
     obtain ⟨f9x3, f9y3⟩ := KA8.free (i := 1) rfl
     obtain ⟨eex3, eey3⟩ := KA8.ne 0 1 rfl rfl (by decide)
     refine hK.out _ _ ?_ (fun hh3 => ?_)
     · ((try dsimp only); go_keep)
     clear hK K hh2
     (try simp only [Act.put, sit, scz, scs])
     refine wpAnyH_ready (rs := [3]) (by kernel_rfl) (by simp) ?_
     refine AllReadyH.cons (o := ⟨some 47, _, _, _, _, _⟩) rfl (fun K hK => ?_) AllReadyH.nil
     go_simp
     have im3a := KA8.ints.1.ci kab
     have im3b := KA8.ints.2.1.ci kg
     (go_at_call 92; (with_reducible refine (rdivMod_at im3a im3b zab zg).mono ?_); rw [HM.out, HMR.out]; rintro e wm3 ⟨A5, n5, c5, A6, n6, c6, rfl, d5, u5, v5, d6, u6, v6, g5⟩)
     (try go_wp2_with fail)
     have K3 := ((KA8.call g5).add (CanAt.mk_ d5 u5 v5)).add (CanAt.mk_ d6 u6 v6)
     clear b9x2 b9y2 p0x2 p0y2 p4x2 p4y2 f9x2 f9y2 e90x2 e90y2 e94x2 e94y2 e95x2 e95y2 b8x3 b8y3 b9x3 b9y3 f8x3 f8y3 e80x3 e80y3 e84x3 e84y3 e85x3 e85y3 f9x3 f9y3 eex3 eey3
     obtain ⟨⟨b8x4, b8y4⟩, ⟨b9x4, b9y4⟩, ⟨p0x4, p0y4⟩, _, _, _, ⟨p4x4, p4y4⟩, _, _⟩ := K3.facts
     obtain ⟨f8x4, f8y4⟩ := K3.free (i := 0) rfl
     obtain ⟨e80x4, e80y4⟩ := K3.ne 0 2 rfl rfl (by decide)
     obtain ⟨e84x4, e84y4⟩ := K3.ne 0 6 rfl rfl (by decide)
     obtain ⟨e85x4, e85y4⟩ := K3.ne 0 7 rfl rfl (by decide)
     obtain ⟨f9x4, f9y4⟩ := K3.free (i := 1) rfl
     obtain ⟨e90x4, e90y4⟩ := K3.ne 1 2 rfl rfl (by decide)
     obtain ⟨e94x4, e94y4⟩ := K3.ne 1 6 rfl rfl (by decide)
     obtain ⟨e95x4, e95y4⟩ := K3.ne 1 7 rfl rfl (by decide)
     obtain ⟨eex4, eey4⟩ := K3.ne 0 1 rfl rfl (by decide)
     refine hK.out _ _ ?_ (fun hh4 => ?_)
     · ((try dsimp only); go_keep)
     clear hK K hh3
     (try simp only [Act.put, sit, scz, scs])
     refine wpAnyH_take (i := 4) (oi := ⟨some 43, _, _, _, _, _⟩) (v := ?_) rfl (by kernel_rfl) (by kernel_rfl) (by kernel_rfl) (fun _ _ _ h => h) (Or.inl ⟨by rfl, ?_⟩) ‹_› ?_
     rotate_left
     · (intro w' hSw; (try dsimp only at hSw); go_simp; (try with_reducible rfl))
     (try simp only [Act.put, sit, scz, scs])
     refine wpAnyH_take (i := 5) (oi := ⟨some 48, _, _, _, _, _⟩) (v := ?_) rfl (by kernel_rfl) (by kernel_rfl) (by kernel_rfl) (fun _ _ _ h => h) (Or.inl ⟨by rfl, ?_⟩) ‹_› ?_
     rotate_left
     · (intro w' hSw; (try dsimp only at hSw); go_simp; (try with_reducible rfl))
     (try simp only [Act.put, sit, scz, scs])
     refine wpAnyH_take (i := 6) (oi := ⟨some 49, _, _, _, _, _⟩) (v := ?_) rfl (by kernel_rfl) (by kernel_rfl) (by kernel_rfl) (fun _ _ _ h => h) (Or.inl ⟨by rfl, ?_⟩) ‹_› ?_
     rotate_left
     · (intro w' hSw; (try dsimp only at hSw); go_simp; (try with_reducible rfl))
     (try simp only [Act.put, sit, scz, scs])
     refine wpAnyH_take (i := 7) (oi := ⟨some 50, _, _, _, _, _⟩) (v := ?_) rfl (by kernel_rfl) (by kernel_rfl) (by kernel_rfl) (fun _ _ _ h => h) (Or.inl ⟨by rfl, ?_⟩) ‹_› ?_
     rotate_left
     · (intro w' hSw; (try dsimp only at hSw); go_simp; (try with_reducible rfl))
     (try simp only [Act.put, sit, scz, scs])
     refine wpAnyH_ready (rs := [10]) (by kernel_rfl) (by simp) ?_
     refine AllReadyH.cons (o := ⟨none, _, _, _, _, _⟩) rfl (fun K hK => ?_) AllReadyH.nil
     go_simp
     refine hK.out _ _ ?_ (fun hh5 => ?_)
     · ((try dsimp only); go_keep)
     clear hK K hh4
     (try simp only [Act.put, sit, scz, scs])
     refine wpAnyH_ready (rs := [11]) (by kernel_rfl) (by simp) ?_
     refine AllReadyH.cons (o := ⟨none, _, _, _, _, _⟩) rfl (fun K hK => ?_) AllReadyH.nil
     go_simp
     refine hK.out _ _ ?_ (fun hh6 => ?_)
     · ((try dsimp only); go_keep)
     clear hK K hh5
     (try simp only [Act.put, sit, scz, scs])
     refine wpAnyH_take (i := 12) (oi := ⟨some 10, _, _, _, _, _⟩) (v := ?_) rfl (by kernel_rfl) (by kernel_rfl) (by kernel_rfl) (fun _ _ _ h => h) (Or.inl ⟨by rfl, ?_⟩) ‹_› ?_
     rotate_left
     · (intro w' hSw; (try dsimp only at hSw); go_simp; (try with_reducible rfl))
     (try simp only [Act.put, sit, scz, scs])
     refine wpAnyH_done (by kernel_rfl) ?_ _
     go_wp2_with fail
     go_meet
     first | (have KF := ((K3.put 0 rfl (decide (m < 0)) A5 n5 c5).put 1 rfl (decide (mr < 0)) A6 n6 c6); (try simp only [List.set, World.size_alloc, World.size_setCell] at KF); have KG := KF.erase 1; simp only [List.eraseIdx] at KG; exact ⟨_, A5, n5, c5, rfl, KG.ints_ ⟨KG.ints.2.1, KG.ints.2.2.2.1, KG.ints.2.2.2.2.1, KG.ints.2.2.2.2.2.1, trivial⟩⟩) | (have KF := ((K3.put 0 rfl (decide (m < 0)) A5 n5 c5).put 1 rfl (decide (mr < 0)) A6 n6 c6); (try simp only [List.set, World.size_alloc, World.size_setCell] at KF); have KG := KF.erase 1; simp only [List.eraseIdx] at KG; exact ⟨_, A5, n5, c5, rfl, KG.ints_ ⟨KG.ints.2.1, KG.ints.2.2.2.1, KG.ints.2.2.2.2.1, KG.ints.2.2.2.2.2.1, trivial⟩⟩) | (trace_state; fail)
    refine AllReadyH.cons (o := ⟨some 8, _, _, _, _, _⟩) rfl (fun K hK => ?_) AllReadyH.nil
    go_simp
    have KA8 := KA9.new 24 (Plains.two false none 0 0)
    (try simp only [World.size_alloc] at KA8)
    refine hK.out _ _ ?_ (fun hh2 => ?_)
    · ((try dsimp only); go_keep)
    clear hK K hh1
    (try simp only [Act.put, sit, scz, scs])
    refine wpAnyH_ready (rs := [1]) (by kernel_rfl) (by simp) ?_
    refine AllReadyH.cons (o := ⟨some 45, _, _, _, _, _⟩) rfl (fun K hK => ?_) AllReadyH.nil
    go_simp
    have im1 := KA8.drew.ints.2.1.ci kb
    (go_at_call 93; (with_reducible refine (rabs_at im1).mono ?_); rw [HAB.out]; rintro e wm1 ⟨A4, n4, c4, rfl, d4, u4, v4, g4⟩)
    (try go_wp2_with fail)
    have K1 := (KA8.drew.call g4).add (CanAt.mk_ d4 u4 v4)
    clear p0 p1 p2 p3
    obtain ⟨⟨b8x3, b8y3⟩, ⟨b9x3, b9y3⟩, ⟨p0x3, p0y3⟩, _, _, _, ⟨p4x3, p4y3⟩, _, _⟩ := K1.facts
    obtain ⟨f8x3, f8y3⟩ := K1.free (i := 0) rfl
    obtain ⟨e80x3, e80y3⟩ := K1.ne 0 2 rfl rfl (by decide)
    obtain ⟨e84x3, e84y3⟩ := K1.ne 0 6 rfl rfl (by decide)
    obtain ⟨e85x3, e85y3⟩ := K1.ne 0 7 rfl rfl (by decide)
    obtain ⟨f9x3, f9y3⟩ := K1.free (i := 1) rfl
    obtain ⟨e90x3, e90y3⟩ := K1.ne 1 2 rfl rfl (by decide)
    obtain ⟨e94x3, e94y3⟩ := K1.ne 1 6 rfl rfl (by decide)
    obtain ⟨e95x3, e95y3⟩ := K1.ne 1 7 rfl rfl (by decide)
    obtain ⟨eex3, eey3⟩ := K1.ne 0 1 rfl rfl (by decide)
    refine hK.out _ _ ?_ (fun hh3 => ?_)
    · ((try dsimp only); go_keep)
    clear hK K hh2
    (try simp only [Act.put, sit, scz, scs])
    refine wpAnyH_ready (rs := [3]) (by kernel_rfl) (by simp) ?_
    refine AllReadyH.cons (o := ⟨some 47, _, _, _, _, _⟩) rfl (fun K hK => ?_) AllReadyH.nil
    go_simp
    have im3a := K1.ints.1.ci kab
    have im3b := K1.ints.2.1.ci kg
    (go_at_call 92; (with_reducible refine (rdivMod_at im3a im3b zab zg).mono ?_); rw [HM.out, HMR.out]; rintro e wm3 ⟨A5, n5, c5, A6, n6, c6, rfl, d5, u5, v5, d6, u6, v6, g5⟩)
    (try go_wp2_with fail)
    have K3 := ((K1.call g5).add (CanAt.mk_ d5 u5 v5)).add (CanAt.mk_ d6 u6 v6)
    clear b8x3 b8y3 b9x3 b9y3 p0x3 p0y3 p4x3 p4y3 f8x3 f8y3 e80x3 e80y3 e84x3 e84y3 e85x3 e85y3 f9x3 f9y3 e90x3 e90y3 e94x3 e94y3 e95x3 e95y3 eex3 eey3
    obtain ⟨⟨b8x4, b8y4⟩, ⟨b9x4, b9y4⟩, ⟨p0x4, p0y4⟩, _, _, _, ⟨p4x4, p4y4⟩, _, _⟩ := K3.facts
    obtain ⟨f8x4, f8y4⟩ := K3.free (i := 0) rfl
    obtain ⟨e80x4, e80y4⟩ := K3.ne 0 2 rfl rfl (by decide)
    obtain ⟨e84x4, e84y4⟩ := K3.ne 0 6 rfl rfl (by decide)
    obtain ⟨e85x4, e85y4⟩ := K3.ne 0 7 rfl rfl (by decide)
    obtain ⟨f9x4, f9y4⟩ := K3.free (i := 1) rfl
    obtain ⟨e90x4, e90y4⟩ := K3.ne 1 2 rfl rfl (by decide)
    obtain ⟨e94x4, e94y4⟩ := K3.ne 1 6 rfl rfl (by decide)
    obtain ⟨e95x4, e95y4⟩ := K3.ne 1 7 rfl rfl (by decide)
    obtain ⟨eex4, eey4⟩ := K3.ne 0 1 rfl rfl (by decide)
    refine hK.out _ _ ?_ (fun hh4 => ?_)
    · ((try dsimp only); go_keep)
    clear hK K hh3
    (try simp only [Act.put, sit, scz, scs])
    refine wpAnyH_take (i := 4) (oi := ⟨some 43, _, _, _, _, _⟩) (v := ?_) rfl (by kernel_rfl) (by kernel_rfl) (by kernel_rfl) (fun _ _ _ h => h) (Or.inl ⟨by rfl, ?_⟩) ‹_› ?_
    rotate_left
    · (intro w' hSw; (try dsimp only at hSw); go_simp; (try with_reducible rfl))
    (try simp only [Act.put, sit, scz, scs])
    refine wpAnyH_take (i := 5) (oi := ⟨some 48, _, _, _, _, _⟩) (v := ?_) rfl (by kernel_rfl) (by kernel_rfl) (by kernel_rfl) (fun _ _ _ h => h) (Or.inl ⟨by rfl, ?_⟩) ‹_› ?_
    rotate_left
    · (intro w' hSw; (try dsimp only at hSw); go_simp; (try with_reducible rfl))
    (try simp only [Act.put, sit, scz, scs])
    refine wpAnyH_take (i := 6) (oi := ⟨some 49, _, _, _, _, _⟩) (v := ?_) rfl (by kernel_rfl) (by kernel_rfl) (by kernel_rfl) (fun _ _ _ h => h) (Or.inl ⟨by rfl, ?_⟩) ‹_› ?_
    rotate_left
    · (intro w' hSw; (try dsimp only at hSw); go_simp; (try with_reducible rfl))
    (try simp only [Act.put, sit, scz, scs])
    refine wpAnyH_take (i := 7) (oi := ⟨some 50, _, _, _, _, _⟩) (v := ?_) rfl (by kernel_rfl) (by kernel_rfl) (by kernel_rfl) (fun _ _ _ h => h) (Or.inl ⟨by rfl, ?_⟩) ‹_› ?_
    rotate_left
    · (intro w' hSw; (try dsimp only at hSw); go_simp; (try with_reducible rfl))
    (try simp only [Act.put, sit, scz, scs])
    refine wpAnyH_ready (rs := [10]) (by kernel_rfl) (by simp) ?_
    refine AllReadyH.cons (o := ⟨none, _, _, _, _, _⟩) rfl (fun K hK => ?_) AllReadyH.nil
    go_simp
    refine hK.out _ _ ?_ (fun hh5 => ?_)
    · ((try dsimp only); go_keep)
    clear hK K hh4
    (try simp only [Act.put, sit, scz, scs])
    refine wpAnyH_ready (rs := [11]) (by kernel_rfl) (by simp) ?_
    refine AllReadyH.cons (o := ⟨none, _, _, _, _, _⟩) rfl (fun K hK => ?_) AllReadyH.nil
    go_simp
    refine hK.out _ _ ?_ (fun hh6 => ?_)
    · ((try dsimp only); go_keep)
    clear hK K hh5
    (try simp only [Act.put, sit, scz, scs])
    refine wpAnyH_take (i := 12) (oi := ⟨some 10, _, _, _, _, _⟩) (v := ?_) rfl (by kernel_rfl) (by kernel_rfl) (by kernel_rfl) (fun _ _ _ h => h) (Or.inl ⟨by rfl, ?_⟩) ‹_› ?_
    rotate_left
    · (intro w' hSw; (try dsimp only at hSw); go_simp; (try with_reducible rfl))
    (try simp only [Act.put, sit, scz, scs])
    refine wpAnyH_done (by kernel_rfl) ?_ _
    go_wp2_with fail
    go_meet
    first | (have KF := ((K3.put 0 rfl (decide (m < 0)) A5 n5 c5).put 1 rfl (decide (mr < 0)) A6 n6 c6); (try simp only [List.set, World.size_alloc, World.size_setCell] at KF); have KG := KF.erase 1; simp only [List.eraseIdx] at KG; exact ⟨_, A5, n5, c5, rfl, KG.ints_ ⟨KG.ints.2.1, KG.ints.2.2.2.1, KG.ints.2.2.2.2.1, KG.ints.2.2.2.2.2.1, trivial⟩⟩) | (have KF := ((K3.put 0 rfl (decide (m < 0)) A5 n5 c5).put 1 rfl (decide (mr < 0)) A6 n6 c6); (try simp only [List.set, World.size_alloc, World.size_setCell] at KF); have KG := KF.erase 1; simp only [List.eraseIdx] at KG; exact ⟨_, A5, n5, c5, rfl, KG.ints_ ⟨KG.ints.2.1, KG.ints.2.2.2.1, KG.ints.2.2.2.2.1, KG.ints.2.2.2.2.2.1, trivial⟩⟩) | (trace_state; fail)
   case rest =>
    clear K3 p0 p1 p2 p3
    obtain ⟨h8, A5, n5, c5, rfl, K⟩ := hcut
    obtain ⟨im, ig, _, ia, _⟩ := K.ints
    obtain ⟨⟨p0, p1⟩, ⟨p2, p3⟩, _, _, _, _, ⟨p4, p5⟩, _⟩ := K.facts
    go_upto_region 7 with (first
     | (go_at_call 92; (with_reducible refine (rdivMod_at (ia.ci ka) (ig.ci kg) za2 zg).mono ?_); rw [HP0.out, HP0R.out]; rintro e w6 ⟨A6, n6, c6, A7, n7, c7, rfl, d6, u6, v6, d7, u7, v7, g6⟩; have K6 := (((K.call g6).add (CanAt.mk_ d6 u6 v6)).new 24 (Plains.two (decide (p0' < 0)) A6 n6 c6)).new 24 (Plains.two (decide (p0r < 0)) A7 n7 c7))
     | fail)
    simp only [World.size_alloc] at K6
    clear im ig ia p0 p1 p2 p3 p4 p5 d6 d7 g6 K
    generalize (w6.alloc (.cells #[.bool (decide (p0' < 0)), .slice A6 n6 c6] 24)).alloc (.cells #[.bool (decide (p0r < 0)), .slice A7 n7 c7] 24) = W6 at K6 ⊢
    have K7 := K6.erase 0
    simp only [List.eraseIdx] at K7
    clear K6
    generalize w6.heap.size = h11 at K7 ⊢
    obtain ⟨⟨p0, p1⟩, ⟨p2, p3⟩, ⟨p4, p5⟩, _⟩ := K7.facts
    obtain ⟨f0, f1⟩ := K7.free (i := 0) rfl
    obtain ⟨ip, im, _⟩ := K7.ints
    go_upto_region 8 with (first
     | (go_at_call 92; (with_reducible refine (rdivMod_at (ip.ci kp) (im.ci km) zp zm).mono ?_); rw [HP1Q.out, HP1.out]; rintro e w8 ⟨A8, n8, c8, A9, n9, c9, rfl, d8, u8, v8, d9, u9, v9, g8⟩; have K8 := (K7.call g8).add (CanAt.mk_ d9 u9 v9); clear p0 p1 p2 p3 p4 p5; obtain ⟨⟨p0, p1⟩, ⟨p2, p3⟩, ⟨p4, p5⟩, _⟩ := K8.facts; clear f0 f1; obtain ⟨f0, f1⟩ := K8.free (i := 0) rfl)
     | fail)
    have K9 := K8.put 0 rfl (decide (p1' < 0)) A9 n9 c9
    simp only [List.set] at K9
    clear p0 p1 p2 p3 p4 p5 f0 f1 K7 K8 ip im d8 d9 g8
    generalize ((w8.setCell ⟨h11, 0, none⟩ (.bool (decide (p1' < 0)))).setCell ⟨h11, 1, none⟩ (.slice A9 n9 c9)) = W9 at K9 ⊢
    go_cut [14, 15] (fun p14 p15 wx => ∃ (h14 h15 : Nat), p14 = .pointer (some ⟨h14, 0, none⟩) ∧ p15 = .pointer (some ⟨h15, 0, none⟩) ∧
     St w wx [vi h15 (decide (p1' < 0)) A9 n9 c9, vi h14 (decide (m < 0)) A5 n5 c5, vi h8 (decide (m < 0)) A5 n5 c5, vi h7 (decide (g < 0)) A3 n3 c3, vi (w.heap.size + 1 + 1 + 1 + 1) false none 0 0, vi (w.heap.size + 1 + 1 + 1) false none 0 0, vi (w.heap.size + 1 + 1) false none 0 0, vi (w.heap.size + 1) (decide (b < 0)) A2 n2 c2, vi w.heap.size (decide (a < 0)) A1 n1 c1] [((decide (p1' < 0)), A9, n9, c9, p1', true), ((decide (m < 0)), A5, n5, c5, m, true), ((decide (g < 0)), A3, n3, c3, g, true), ((decide (b < 0)), A2, n2, c2, b, true), ((decide (a < 0)), A1, n1, c1, a, true)])
    case first =>
     -- R8 begin
     obtain ⟨z1, z2⟩ := K9.ne 0 1 rfl rfl (by decide)
     obtain ⟨⟨p0, p1⟩, ⟨p2, p3⟩, _⟩ := K9.facts
     have y1 : ¬ W9.heap.size = h11 := by have := K9.lt (i := 0) rfl; omega
     have y2 : ¬ W9.heap.size + 1 = h11 := by have := K9.lt (i := 0) rfl; omega
     have y3 : ¬ W9.heap.size = h8 := by have := K9.lt (i := 1) rfl; omega
     have y4 : ¬ W9.heap.size + 1 = h8 := by have := K9.lt (i := 1) rfl; omega
     have y5 : ¬ h11 = W9.heap.size := fun h => y1 h.symm
     have y6 : ¬ h11 = W9.heap.size + 1 := fun h => y2 h.symm
     have y7 : ¬ h8 = W9.heap.size := fun h => y3 h.symm
     have y8 : ¬ h8 = W9.heap.size + 1 := fun h => y4 h.symm
     go_region_held3 (fun w' => w'.cell? ⟨h8, 0, none⟩ = some (.bool (decide (m < 0))) ∧ w'.cell? ⟨h8, 1, none⟩ = some (.slice A5 n5 c5) ∧ w'.cell? ⟨h11, 0, none⟩ = some (.bool (decide (p1' < 0))) ∧ w'.cell? ⟨h11, 1, none⟩ = some (.slice A9 n9 c9))
      (go_keep)
      (fail)
     all_goals
      go_wp2_with fail
      go_meet
      obtain ⟨i1, _, im, ig, ib, ia, _⟩ := K9.ints
      first
       | (have KX := (((K9.new 24 (Plains.two (decide (m < 0)) A5 n5 c5)).new 24 (Plains.two (decide (p1' < 0)) A9 n9 c9)).drew).erase 2; simp only [List.eraseIdx, World.size_alloc] at KX; obtain ⟨i1, _, im, ig, ib, ia, _⟩ := KX.ints; exact ⟨_, _, rfl, rfl, KX.ints_ ⟨i1, im, ig, ib, ia, trivial⟩⟩)
       | (have KX := ((((K9.new 24 (Plains.two (decide (p1' < 0)) A9 n9 c9)).new 24 (Plains.two (decide (m < 0)) A5 n5 c5)).drew).erase 2).swap; simp only [List.eraseIdx, World.size_alloc] at KX; obtain ⟨i1, _, im, ig, ib, ia, _⟩ := KX.ints; exact ⟨_, _, rfl, rfl, KX.ints_ ⟨i1, im, ig, ib, ia, trivial⟩⟩)
     -- R8 end
    case rest =>
     clear K9 W9
     obtain ⟨h14, h15, rfl, rfl, K⟩ := hcut
     go_wp2_with (first
      | (go_at_call 90; (with_reducible refine (rfromInt64_any 1 (by decide) (by decide) _).mono ?_); rintro e w10 ⟨B1, m1, e1, rfl, d10, u10, v10, g10⟩; have K10 := (((K.call g10).add (show CanAt w10 false B1 m1 e1 1 from CanAt.mk_ d10 u10 v10)).new 24 (Plains.two false none 0 0)).new 24 (Plains.two false B1 m1 e1))
      | fail)
     simp only [World.size_alloc] at K10
     clear K d10 g10
     have HK10 := K10
     clear K10
     obtain ⟨h16, H16⟩ : ∃ v, v = w10.heap.size := ⟨_, rfl⟩
     rw [← H16] at HK10 ⊢
     obtain ⟨h17, H17⟩ : ∃ v, v = h16 + 1 := ⟨_, rfl⟩
     rw [← H17] at HK10 ⊢
     clear H16 H17
     have HST : RxI w ((w10.alloc (.cells #[.bool false, .slice none 0 0] 24)).alloc (.cells #[.bool false, .slice B1 m1 e1] 24)) h7 h8 h14 h15 h16 h17 a b g m p0' A1 A2 A3 A5 n1 c1 n2 c2 n3 c3 n5 c5 p1'.natAbs := by
      obtain ⟨i1, ip, im, ig, ib, ia, _⟩ := HK10.ints
      exact ⟨m, p1', 0, 1, A5, A9, none, B1, n5, c5, n9, c9, 0, 0, m1, e1, rfl, HSOL.out, HK10.ints_ ⟨i1, Ent.mk_ (CanAt.zero_ _), ip, im, im, ig, ib, ia, trivial⟩⟩
     clear HK10
     go_loopg [] p1'.natAbs (fun k wr => RxI w wr h7 h8 h14 h15 h16 h17 a b g m p0' A1 A2 A3 A5 n1 c1 n2 c2 n3 c3 n5 c5 k)
     case atStart => exact HST
     case round =>
      clear HST
      obtain ⟨r0, r, x0, y0, A0, Ar, Ax, Ay, n0, c0, nr, cr, nx, cx, ny, cy, hk, hS, K⟩ := hrel
      by_cases hr : r = 0
      ·
       have HL := Lib.hid (hS.last hr)
       have HN := Lib.hid hS.next_le
       obtain ⟨_, _, ir, _⟩ := K.ints
       obtain rfl := digs_len0 ir.c hr
       clear hS hk hr ir
       obtain ⟨x, HX⟩ : ∃ v, Hid (dmR x0 m = v) := ⟨_, rfl⟩
       obtain ⟨xq, HXQ⟩ : ∃ v, Hid (dmQ x0 m = v) := ⟨_, rfl⟩
       obtain ⟨t, HT⟩ : ∃ v, Hid (a * x = v) := ⟨_, rfl⟩
       obtain ⟨z, HZ⟩ : ∃ v, Hid (g - t = v) := ⟨_, rfl⟩
       obtain ⟨y, HY⟩ : ∃ v, Hid (dmQ z b = v) := ⟨_, rfl⟩
       obtain ⟨yr, HYR⟩ : ∃ v, Hid (dmR z b = v) := ⟨_, rfl⟩
       have HE : Hid (EgP a b g x y ∧ 0 < g ∧ 0 < m ∧ g.natAbs ≤ b.natAbs ∧ m.natAbs ≤ b.natAbs ∧ x.natAbs ≤ b.natAbs) := by
        obtain ⟨s1, s2, s3, s4, s5, s6, s7, s8⟩ := HSTART.out
        refine eg_end (x0 := x0) HB.out (by rw [gcd_abs]; exact HG.out.symm) ?_ (by rw [HAB.out]; exact HM.out) HX.out (by rw [HT.out, HZ.out]; exact HY.out)
        obtain ⟨k, hk⟩ := HL.out.2
        rw [HL.out.1, s8] at hk
        refine ⟨k, ?_⟩
        rw [s5, Int.mul_assoc, hk, s6, Int.mul_add]
        simp only [Int.mul_comm, Int.mul_left_comm, Int.mul_one, Int.one_mul, Int.natCast_one]
       have zx0 : Sz x0 2000 := zm.le HN.out.2
       have zx1 : Sz x 100 := zb.le HE.out.2.2.2.2.2
       have zt : Sz t 200 := by rw [← HT.out]; exact za.mul zx1
       have zz : Sz z 201 := by rw [← HZ.out]; exact (zg0.mono (by decide)).sub zt
       have zy : Sz y 202 := by rw [← HY.out]; exact dmQ_sz zz
       have zz2 : Sz z 2000 := zz.mono (by decide)
       have kx := zx1.ok
       have kt := zt.ok
       have kz := zz.ok
       have kx0 := zx0.ok
       obtain ⟨⟨p0, p1⟩, ⟨p2, p3⟩, ⟨p4, p5⟩, ⟨p6, p7⟩, ⟨p8, p9⟩, _⟩ := K.facts
       obtain ⟨_, ix, _, _, im, _⟩ := K.ints
       go_upto_region 15 with (first
        | (go_at_call 92; (with_reducible refine (rdivMod_at (ix.ci kx0) (im.ci km) zx0 zm).mono ?_); rw [HXQ.out, HX.out]; rintro e w14 ⟨Bq, mq, eq, Bx, mx, ex, rfl, dq, uq, vq, dx, ux, vx, g14⟩; have K14 := (((K.call g14).add (CanAt.mk_ dx ux vx)).new 24 (Plains.two (decide (xq < 0)) Bq mq eq)).new 24 (Plains.two (decide (x < 0)) Bx mx ex))
        | fail)
       simp only [World.size_alloc] at K14
       clear ix im p0 p1 p2 p3 p4 p5 p6 p7 p8 p9 K dx g14
       generalize (w14.alloc (.cells #[.bool (decide (xq < 0)), .slice Bq mq eq] 24)).alloc (.cells #[.bool (decide (x < 0)), .slice Bx mx ex] 24) = W14 at K14 ⊢
       have K15 := ((((((K14.erase 1).erase 1).erase 1).erase 1).erase 1).erase 1)
       simp only [List.eraseIdx] at K15
       clear K14
       obtain ⟨h21, H21⟩ : ∃ v, v = w14.heap.size := ⟨_, rfl⟩
       rw [← H21] at K15 ⊢
       obtain ⟨h22, H22⟩ : ∃ v, v = h21 + 1 := ⟨_, rfl⟩
       rw [← H22] at K15 ⊢
       clear H21 H22
       have K3 : St w W14 [vi h22 (decide (x < 0)) Bx mx ex, vi h7 (decide (g < 0)) A3 n3 c3, vi (w.heap.size + 1 + 1 + 1 + 1) false none 0 0, vi (w.heap.size + 1 + 1 + 1) false none 0 0, vi (w.heap.size + 1 + 1) false none 0 0, vi (w.heap.size + 1) (decide (b < 0)) A2 n2 c2, vi w.heap.size (decide (a < 0)) A1 n1 c1] [((decide (x < 0)), Bx, mx, ex, x, true), ((decide (g < 0)), A3, n3, c3, g, true), ((decide (b < 0)), A2, n2, c2, b, true), ((decide (a < 0)), A1, n1, c1, a, true)] := by
        obtain ⟨i1, _, _, _, _, _, ig, ib, ia, _⟩ := K15.ints
        exact K15.ints_ ⟨i1, ig, ib, ia, trivial⟩
       clear K15
       obtain ⟨i1, ig, ib, ia, _⟩ := K3.ints
       have hna : n1 ≤ 100000 := by rw [← ia.c.2.1.len]; exact za.len2
       have hnx : mx ≤ 100000 := by rw [← i1.c.2.1.len]; exact zx1.len2
       have hng : n3 ≤ 100000 := by rw [← ig.c.2.1.len]; exact zg.len2
       clear i1 ig ib ia
       go_cut [24] (fun p24 wx => ∃ (h24 : Nat) (E6 : Option Addr) (l6 k6 : Nat), p24 = .pointer (some ⟨h24, 0, none⟩) ∧
        St w wx [vi h24 (decide (y < 0)) E6 l6 k6, vi h22 (decide (x < 0)) Bx mx ex, vi h7 (decide (g < 0)) A3 n3 c3, vi (w.heap.size + 1 + 1 + 1 + 1) false none 0 0, vi (w.heap.size + 1 + 1 + 1) false none 0 0, vi (w.heap.size + 1 + 1) false none 0 0, vi (w.heap.size + 1) (decide (b < 0)) A2 n2 c2, vi w.heap.size (decide (a < 0)) A1 n1 c1] [((decide (y < 0)), E6, l6, k6, y, true), ((decide (x < 0)), Bx, mx, ex, x, true), ((decide (g < 0)), A3, n3, c3, g, true), ((decide (b < 0)), A2, n2, c2, b, true), ((decide (a < 0)), A1, n1, c1, a, true)])
       case first =>
        obtain ⟨z1, z2⟩ := K3.ne 0 1 rfl rfl (by decide)
        obtain ⟨z3, z4⟩ := K3.ne 0 5 rfl rfl (by decide)
        obtain ⟨z5, z6⟩ := K3.ne 0 6 rfl rfl (by decide)
        obtain ⟨z7, z8⟩ := K3.ne 1 5 rfl rfl (by decide)
        obtain ⟨z9, za'⟩ := K3.ne 1 6 rfl rfl (by decide)
        obtain ⟨⟨p0, p1⟩, ⟨p2, p3⟩, _, _, _, ⟨p4, p5⟩, ⟨p6, p7⟩, _⟩ := K3.facts
        clear HSTART HSOL HL HN HG HAB HM HMR HP0 HP0R HP1 HP1Q HX HXQ HM0 HE
        as_aux_lemma =>
        refine wp_region_held_drew (S := fun w' => w'.cell? ⟨h22, 0, none⟩ = some (.bool (decide (x < 0))) ∧ w'.cell? ⟨h22, 1, none⟩ = some (.slice Bx mx ex) ∧ w'.cell? ⟨h7, 0, none⟩ = some (.bool (decide (g < 0))) ∧ w'.cell? ⟨h7, 1, none⟩ = some (.slice A3 n3 c3) ∧ w'.cell? ⟨w.heap.size + 1, 0, none⟩ = some (.bool (decide (b < 0))) ∧ w'.cell? ⟨w.heap.size + 1, 1, none⟩ = some (.slice A2 n2 c2) ∧ w'.cell? ⟨w.heap.size, 0, none⟩ = some (.bool (decide (a < 0))) ∧ w'.cell? ⟨w.heap.size, 1, none⟩ = some (.slice A1 n1 c1)) (by kernel_rfl) ?_ (fun hh0 => ?_)
        · ((try dsimp only); go_keep)
        refine wpAnyH_take (i := 0) (oi := ⟨some 96, _, _, _, _, _⟩) (v := ?_) rfl (by kernel_rfl) (by kernel_rfl) (by kernel_rfl) (fun _ _ _ h => h) (Or.inl ⟨by rfl, ?_⟩) ‹_› ?_
        rotate_left
        · (intro w' hSw; (try dsimp only at hSw); go_simp; (try with_reducible rfl))
        (try simp only [Act.put, sit, scz, scs])
        refine wpAnyH_take (i := 1) (oi := ⟨some 97, _, _, _, _, _⟩) (v := ?_) rfl (by kernel_rfl) (by kernel_rfl) (by kernel_rfl) (fun _ _ _ h => h) (Or.inl ⟨by rfl, ?_⟩) ‹_› ?_
        rotate_left
        · (intro w' hSw; (try dsimp only at hSw); go_simp; (try with_reducible rfl))
        (try simp only [Act.put, sit, scz, scs])
        refine wpAnyH_take (i := 2) (oi := ⟨some 98, _, _, _, _, _⟩) (v := ?_) rfl (by kernel_rfl) (by kernel_rfl) (by kernel_rfl) (fun _ _ _ h => h) (Or.inl ⟨by rfl, ?_⟩) ‹_› ?_
        rotate_left
        · (intro w' hSw; (try dsimp only at hSw); go_simp; (try with_reducible rfl))
        (try simp only [Act.put, sit, scz, scs])
        refine wpAnyH_take (i := 5) (oi := ⟨some 101, _, _, _, _, _⟩) (v := ?_) rfl (by kernel_rfl) (by kernel_rfl) (by kernel_rfl) (fun _ _ _ h => h) (Or.inl ⟨by rfl, ?_⟩) ‹_› ?_
        rotate_left
        · (intro w' hSw; (try dsimp only at hSw); go_simp; (try with_reducible rfl))
        (try simp only [Act.put, sit, scz, scs])
        refine wpAnyH_ready (rs := [3, 11, 12]) (by kernel_rfl) (by simp) ?_
        refine AllReadyH.cons (o := ⟨some 99, _, _, _, _, _⟩) rfl (fun K hK => ?_) ?_
        ·
         go_simp
         have im3a := K3.drew.ints.2.2.2.1.ci ka
         have im3b := K3.drew.ints.1.ci kx
         (go_at_call 95; (with_reducible refine (rmul_at im3a im3b hna hnx).mono ?_); rw [HT.out]; rintro e wm1 ⟨E4, l4, k4, rfl, d4, u4, v4, g4⟩)
         have hnt : l4 ≤ 100000 := (by rw [← d4.len]; exact zt.len2)
         (try go_wp2_with fail)
         have K3 := (K3.drew.call g4).add (CanAt.mk_ d4 u4 v4)
         clear p0 p1 p2 p3 p4 p5 p6 p7
         obtain ⟨⟨p0x1, p0y1⟩, ⟨p1x1, p1y1⟩, _, _, _, ⟨p5x1, p5y1⟩, ⟨p6x1, p6y1⟩, _⟩ := K3.facts
         refine hK.out _ _ ?_ (fun hh1 => ?_)
         · ((try dsimp only); go_keep)
         clear hK K hh0
         (try simp only [Act.put, sit, scz, scs])
         refine wpAnyH_ready (rs := [4, 11, 12]) (by kernel_rfl) (by simp) ?_
         refine AllReadyH.cons (o := ⟨some 100, _, _, _, _, _⟩) rfl (fun K hK => ?_) ?_
         ·
          go_simp
          have im4a := K3.ints.2.2.1.ci kg
          have im4b := K3.ints.1.ci kt
          (go_at_call 94; (with_reducible refine (rsub_at im4a im4b hng hnt).mono ?_); rw [HZ.out]; rintro e wm2 ⟨E5, l5, k5, rfl, d5, u5, v5, g5⟩)
          (try go_wp2_with fail)
          have K4 := (K3.call g5).add (CanAt.mk_ d5 u5 v5)
          clear p0x1 p0y1 p1x1 p1y1 p5x1 p5y1 p6x1 p6y1
          obtain ⟨⟨p0x2, p0y2⟩, ⟨p1x2, p1y2⟩, _, _, _, ⟨p5x2, p5y2⟩, ⟨p6x2, p6y2⟩, _⟩ := K4.facts
          refine hK.out _ _ ?_ (fun hh2 => ?_)
          · ((try dsimp only); go_keep)
          clear hK K hh1
          (try simp only [Act.put, sit, scz, scs])
          refine wpAnyH_ready (rs := [6, 11, 12]) (by kernel_rfl) (by simp) ?_
          refine AllReadyH.cons (o := ⟨some 102, _, _, _, _, _⟩) rfl (fun K hK => ?_) ?_
          ·
           go_simp
           have im6a := K4.ints.1.ci kz
           have im6b := K4.ints.2.2.2.2.1.ci kb
           (go_at_call 92; (with_reducible refine (rdivMod_at im6a im6b zz2 zb2).mono ?_); rw [HY.out, HYR.out]; rintro e wm3 ⟨E6, l6, k6, E7, l7, k7, rfl, d6, u6, v6, d7, u7, v7, g6⟩)
           (try go_wp2_with fail)
           have K6 := ((K4.call g6).add (CanAt.mk_ d6 u6 v6)).add (CanAt.mk_ d7 u7 v7)
           clear p0x2 p0y2 p1x2 p1y2 p5x2 p5y2 p6x2 p6y2
           obtain ⟨⟨p0x3, p0y3⟩, ⟨p1x3, p1y3⟩, _, _, _, ⟨p5x3, p5y3⟩, ⟨p6x3, p6y3⟩, _⟩ := K6.facts
           refine hK.out _ _ ?_ (fun hh3 => ?_)
           · ((try dsimp only); go_keep)
           clear hK K hh2
           (try simp only [Act.put, sit, scz, scs])
           refine wpAnyH_take (i := 7) (oi := ⟨some 95, _, _, _, _, _⟩) (v := ?_) rfl (by kernel_rfl) (by kernel_rfl) (by kernel_rfl) (fun _ _ _ h => h) (Or.inl ⟨by rfl, ?_⟩) ‹_› ?_
           rotate_left
           · (intro w' hSw; (try dsimp only at hSw); go_simp; (try with_reducible rfl))
           (try simp only [Act.put, sit, scz, scs])
           refine wpAnyH_take (i := 8) (oi := ⟨some 103, _, _, _, _, _⟩) (v := ?_) rfl (by kernel_rfl) (by kernel_rfl) (by kernel_rfl) (fun _ _ _ h => h) (Or.inl ⟨by rfl, ?_⟩) ‹_› ?_
           rotate_left
           · (intro w' hSw; (try dsimp only at hSw); go_simp; (try with_reducible rfl))
           (try simp only [Act.put, sit, scz, scs])
           refine wpAnyH_take (i := 9) (oi := ⟨some 104, _, _, _, _, _⟩) (v := ?_) rfl (by kernel_rfl) (by kernel_rfl) (by kernel_rfl) (fun _ _ _ h => h) (Or.inl ⟨by rfl, ?_⟩) ‹_› ?_
           rotate_left
           · (intro w' hSw; (try dsimp only at hSw); go_simp; (try with_reducible rfl))
           (try simp only [Act.put, sit, scz, scs])
           refine wpAnyH_take (i := 10) (oi := ⟨some 105, _, _, _, _, _⟩) (v := ?_) rfl (by kernel_rfl) (by kernel_rfl) (by kernel_rfl) (fun _ _ _ h => h) (Or.inl ⟨by rfl, ?_⟩) ‹_› ?_
           rotate_left
           · (intro w' hSw; (try dsimp only at hSw); go_simp; (try with_reducible rfl))
           (try simp only [Act.put, sit, scz, scs])
           refine wpAnyH_ready (rs := [11, 12]) (by kernel_rfl) (by simp) ?_
           refine AllReadyH.cons (o := ⟨some 24, _, _, _, _, _⟩) rfl (fun K hK => ?_) ?_
           ·
            go_simp
            have KA11 := K6.new 24 (Plains.two false none 0 0)
            (try simp only [World.size_alloc] at KA11)
            refine hK.out _ _ ?_ (fun hh4 => ?_)
            · ((try dsimp only); go_keep)
            clear hK K hh3
            (try simp only [Act.put, sit, scz, scs])
            refine wpAnyH_ready (rs := [12]) (by kernel_rfl) (by simp) ?_
            refine AllReadyH.cons (o := ⟨some 25, _, _, _, _, _⟩) rfl (fun K hK => ?_) AllReadyH.nil
            go_simp
            have KA12 := KA11.new 24 (Plains.two false none 0 0)
            (try simp only [World.size_alloc] at KA12)
            refine hK.out _ _ ?_ (fun hh5 => ?_)
            · ((try dsimp only); go_keep)
            clear hK K hh4
            (try simp only [Act.put, sit, scz, scs])
            refine wpAnyH_ready (rs := [13]) (by kernel_rfl) (by simp) ?_
            refine AllReadyH.cons (o := ⟨none, _, _, _, _, _⟩) rfl (fun K hK => ?_) AllReadyH.nil
            go_simp
            refine hK.out _ _ ?_ (fun hh6 => ?_)
            · ((try dsimp only); go_keep)
            clear hK K hh5
            (try simp only [Act.put, sit, scz, scs])
            refine wpAnyH_ready (rs := [14]) (by kernel_rfl) (by simp) ?_
            refine AllReadyH.cons (o := ⟨none, _, _, _, _, _⟩) rfl (fun K hK => ?_) AllReadyH.nil
            go_simp
            refine hK.out _ _ ?_ (fun hh7 => ?_)
            · ((try dsimp only); go_keep)
            clear hK K hh6
            (try simp only [Act.put, sit, scz, scs])
            refine wpAnyH_take (i := 15) (oi := ⟨some 26, _, _, _, _, _⟩) (v := ?_) rfl (by kernel_rfl) (by kernel_rfl) (by kernel_rfl) (fun _ _ _ h => h) (Or.inl ⟨by rfl, ?_⟩) ‹_› ?_
            rotate_left
            · (intro w' hSw; (try dsimp only at hSw); go_simp; (try with_reducible rfl))
            (try simp only [Act.put, sit, scz, scs])
            refine wpAnyH_done (by kernel_rfl) ?_ _
            go_wp2_with fail
            go_meet
            first | (have KF := ((K6.new 24 (Plains.two (decide (y < 0)) E6 l6 k6)).new 24 (Plains.two (decide (yr < 0)) E7 l7 k7)); (try simp only [List.set, World.size_alloc, World.size_setCell] at KF); have KG := KF.erase 0; simp only [List.eraseIdx] at KG; exact ⟨_, E6, l6, k6, rfl, KG.ints_ ⟨KG.ints.2.1, KG.ints.2.2.2.2.1, KG.ints.2.2.2.2.2.1, KG.ints.2.2.2.2.2.2.1, KG.ints.2.2.2.2.2.2.2.1, trivial⟩⟩) | (have KF := ((K6.new 24 (Plains.two (decide (y < 0)) E6 l6 k6)).new 24 (Plains.two (decide (yr < 0)) E7 l7 k7)); (try simp only [List.set, World.size_alloc, World.size_setCell] at KF); have KG := KF.erase 0; simp only [List.eraseIdx] at KG; exact ⟨_, E6, l6, k6, rfl, KG.ints_ ⟨KG.ints.2.1, KG.ints.2.2.2.2.1, KG.ints.2.2.2.2.2.1, KG.ints.2.2.2.2.2.2.1, KG.ints.2.2.2.2.2.2.2.1, trivial⟩⟩) | (trace_state; fail)
           refine AllReadyH.cons (o := ⟨some 25, _, _, _, _, _⟩) rfl (fun K hK => ?_) AllReadyH.nil
           go_simp
           have KA12 := K6.new 24 (Plains.two false none 0 0)
           (try simp only [World.size_alloc] at KA12)
           refine hK.out _ _ ?_ (fun hh4 => ?_)
           · ((try dsimp only); go_keep)
           clear hK K hh3
           (try simp only [Act.put, sit, scz, scs])
           refine wpAnyH_ready (rs := [11]) (by kernel_rfl) (by simp) ?_
           refine AllReadyH.cons (o := ⟨some 24, _, _, _, _, _⟩) rfl (fun K hK => ?_) AllReadyH.nil
           go_simp
           have KA11 := KA12.new 24 (Plains.two false none 0 0)
           (try simp only [World.size_alloc] at KA11)
           refine hK.out _ _ ?_ (fun hh5 => ?_)
           · ((try dsimp only); go_keep)
           clear hK K hh4
           (try simp only [Act.put, sit, scz, scs])
           refine wpAnyH_ready (rs := [13]) (by kernel_rfl) (by simp) ?_
           refine AllReadyH.cons (o := ⟨none, _, _, _, _, _⟩) rfl (fun K hK => ?_) AllReadyH.nil
           go_simp
           refine hK.out _ _ ?_ (fun hh6 => ?_)
           · ((try dsimp only); go_keep)
           clear hK K hh5
           (try simp only [Act.put, sit, scz, scs])
           refine wpAnyH_ready (rs := [14]) (by kernel_rfl) (by simp) ?_
           refine AllReadyH.cons (o := ⟨none, _, _, _, _, _⟩) rfl (fun K hK => ?_) AllReadyH.nil
           go_simp
           refine hK.out _ _ ?_ (fun hh7 => ?_)
           · ((try dsimp only); go_keep)
           clear hK K hh6
           (try simp only [Act.put, sit, scz, scs])
           refine wpAnyH_take (i := 15) (oi := ⟨some 26, _, _, _, _, _⟩) (v := ?_) rfl (by kernel_rfl) (by kernel_rfl) (by kernel_rfl) (fun _ _ _ h => h) (Or.inl ⟨by rfl, ?_⟩) ‹_› ?_
           rotate_left
           · (intro w' hSw; (try dsimp only at hSw); go_simp; (try with_reducible rfl))
           (try simp only [Act.put, sit, scz, scs])
           refine wpAnyH_done (by kernel_rfl) ?_ _
           go_wp2_with fail
           go_meet
           first | (have KF := ((K6.new 24 (Plains.two (decide (yr < 0)) E7 l7 k7)).new 24 (Plains.two (decide (y < 0)) E6 l6 k6)); (try simp only [List.set, World.size_alloc, World.size_setCell] at KF); have KG := KF.erase 1; simp only [List.eraseIdx] at KG; exact ⟨_, E6, l6, k6, rfl, KG.ints_ ⟨KG.ints.2.1, KG.ints.2.2.2.2.1, KG.ints.2.2.2.2.2.1, KG.ints.2.2.2.2.2.2.1, KG.ints.2.2.2.2.2.2.2.1, trivial⟩⟩) | (have KF := ((K6.new 24 (Plains.two (decide (yr < 0)) E7 l7 k7)).new 24 (Plains.two (decide (y < 0)) E6 l6 k6)); (try simp only [List.set, World.size_alloc, World.size_setCell] at KF); have KG := KF.erase 1; simp only [List.eraseIdx] at KG; exact ⟨_, E6, l6, k6, rfl, KG.ints_ ⟨KG.ints.2.1, KG.ints.2.2.2.2.1, KG.ints.2.2.2.2.2.1, KG.ints.2.2.2.2.2.2.1, KG.ints.2.2.2.2.2.2.2.1, trivial⟩⟩) | (trace_state; fail)
          refine AllReadyH.cons (o := ⟨some 24, _, _, _, _, _⟩) rfl (fun K hK => ?_) ?_
          ·
           go_simp
           have KA11 := K4.new 24 (Plains.two false none 0 0)
           (try simp only [World.size_alloc] at KA11)
           refine hK.out _ _ ?_ (fun hh3 => ?_)
           · ((try dsimp only); go_keep)
           clear hK K hh2
           (try simp only [Act.put, sit, scz, scs])
           refine wpAnyH_ready (rs := [6, 12]) (by kernel_rfl) (by simp) ?_
           refine AllReadyH.cons (o := ⟨some 102, _, _, _, _, _⟩) rfl (fun K hK => ?_) ?_
           ·
            go_simp
            have im6a := KA11.ints.1.ci kz
            have im6b := KA11.ints.2.2.2.2.1.ci kb
            (go_at_call 92; (with_reducible refine (rdivMod_at im6a im6b zz2 zb2).mono ?_); rw [HY.out, HYR.out]; rintro e wm3 ⟨E6, l6, k6, E7, l7, k7, rfl, d6, u6, v6, d7, u7, v7, g6⟩)
            (try go_wp2_with fail)
            have K6 := ((KA11.call g6).add (CanAt.mk_ d6 u6 v6)).add (CanAt.mk_ d7 u7 v7)
            clear p0x2 p0y2 p1x2 p1y2 p5x2 p5y2 p6x2 p6y2
            obtain ⟨⟨b24x4, b24y4⟩, ⟨p0x4, p0y4⟩, ⟨p1x4, p1y4⟩, _, _, _, ⟨p5x4, p5y4⟩, ⟨p6x4, p6y4⟩, _⟩ := K6.facts
            obtain ⟨f24x4, f24y4⟩ := K6.free (i := 0) rfl
            obtain ⟨e240x4, e240y4⟩ := K6.ne 0 1 rfl rfl (by decide)
            obtain ⟨e241x4, e241y4⟩ := K6.ne 0 2 rfl rfl (by decide)
            obtain ⟨e245x4, e245y4⟩ := K6.ne 0 6 rfl rfl (by decide)
            obtain ⟨e246x4, e246y4⟩ := K6.ne 0 7 rfl rfl (by decide)
            refine hK.out _ _ ?_ (fun hh4 => ?_)
            · ((try dsimp only); go_keep)
            clear hK K hh3
            (try simp only [Act.put, sit, scz, scs])
            refine wpAnyH_take (i := 7) (oi := ⟨some 95, _, _, _, _, _⟩) (v := ?_) rfl (by kernel_rfl) (by kernel_rfl) (by kernel_rfl) (fun _ _ _ h => h) (Or.inl ⟨by rfl, ?_⟩) ‹_› ?_
            rotate_left
            · (intro w' hSw; (try dsimp only at hSw); go_simp; (try with_reducible rfl))
            (try simp only [Act.put, sit, scz, scs])
            refine wpAnyH_take (i := 8) (oi := ⟨some 103, _, _, _, _, _⟩) (v := ?_) rfl (by kernel_rfl) (by kernel_rfl) (by kernel_rfl) (fun _ _ _ h => h) (Or.inl ⟨by rfl, ?_⟩) ‹_› ?_
            rotate_left
            · (intro w' hSw; (try dsimp only at hSw); go_simp; (try with_reducible rfl))
            (try simp only [Act.put, sit, scz, scs])
            refine wpAnyH_take (i := 9) (oi := ⟨some 104, _, _, _, _, _⟩) (v := ?_) rfl (by kernel_rfl) (by kernel_rfl) (by kernel_rfl) (fun _ _ _ h => h) (Or.inl ⟨by rfl, ?_⟩) ‹_› ?_
            rotate_left
            · (intro w' hSw; (try dsimp only at hSw); go_simp; (try with_reducible rfl))
            (try simp only [Act.put, sit, scz, scs])
            refine wpAnyH_take (i := 10) (oi := ⟨some 105, _, _, _, _, _⟩) (v := ?_) rfl (by kernel_rfl) (by kernel_rfl) (by kernel_rfl) (fun _ _ _ h => h) (Or.inl ⟨by rfl, ?_⟩) ‹_› ?_
            rotate_left
            · (intro w' hSw; (try dsimp only at hSw); go_simp; (try with_reducible rfl))
            (try simp only [Act.put, sit, scz, scs])
            refine wpAnyH_ready (rs := [12]) (by kernel_rfl) (by simp) ?_
            refine AllReadyH.cons (o := ⟨some 25, _, _, _, _, _⟩) rfl (fun K hK => ?_) AllReadyH.nil
            go_simp
            have KA12 := K6.new 24 (Plains.two false none 0 0)
            (try simp only [World.size_alloc] at KA12)
            obtain ⟨⟨b25x5, b25y5⟩, ⟨b24x5, b24y5⟩, _⟩ := KA12.facts
            obtain ⟨f25x5, f25y5⟩ := KA12.free (i := 0) rfl
            obtain ⟨e250x5, e250y5⟩ := KA12.ne 0 2 rfl rfl (by decide)
            obtain ⟨e251x5, e251y5⟩ := KA12.ne 0 3 rfl rfl (by decide)
            obtain ⟨e255x5, e255y5⟩ := KA12.ne 0 7 rfl rfl (by decide)
            obtain ⟨e256x5, e256y5⟩ := KA12.ne 0 8 rfl rfl (by decide)
            obtain ⟨f24x5, f24y5⟩ := KA12.free (i := 1) rfl
            obtain ⟨eex5, eey5⟩ := KA12.ne 0 1 rfl rfl (by decide)
            refine hK.out _ _ ?_ (fun hh5 => ?_)
            · ((try dsimp only); go_keep)
            clear hK K hh4
            (try simp only [Act.put, sit, scz, scs])
            refine wpAnyH_ready (rs := [13]) (by kernel_rfl) (by simp) ?_
            refine AllReadyH.cons (o := ⟨none, _, _, _, _, _⟩) rfl (fun K hK => ?_) AllReadyH.nil
            go_simp
            refine hK.out _ _ ?_ (fun hh6 => ?_)
            · ((try dsimp only); go_keep)
            clear hK K hh5
            (try simp only [Act.put, sit, scz, scs])
            refine wpAnyH_ready (rs := [14]) (by kernel_rfl) (by simp) ?_
            refine AllReadyH.cons (o := ⟨none, _, _, _, _, _⟩) rfl (fun K hK => ?_) AllReadyH.nil
            go_simp
            refine hK.out _ _ ?_ (fun hh7 => ?_)
            · ((try dsimp only); go_keep)
            clear hK K hh6
            (try simp only [Act.put, sit, scz, scs])
            refine wpAnyH_take (i := 15) (oi := ⟨some 26, _, _, _, _, _⟩) (v := ?_) rfl (by kernel_rfl) (by kernel_rfl) (by kernel_rfl) (fun _ _ _ h => h) (Or.inl ⟨by rfl, ?_⟩) ‹_› ?_
            rotate_left
            · (intro w' hSw; (try dsimp only at hSw); go_simp; (try with_reducible rfl))
            (try simp only [Act.put, sit, scz, scs])
            refine wpAnyH_done (by kernel_rfl) ?_ _
            go_wp2_with fail
            go_meet
            first | (have KF := (((K6.new 24 (Plains.two false none 0 0)).put 1 rfl (decide (y < 0)) E6 l6 k6).put 0 rfl (decide (yr < 0)) E7 l7 k7); (try simp only [List.set, World.size_alloc, World.size_setCell] at KF); have KG := KF.erase 0; simp only [List.eraseIdx] at KG; exact ⟨_, E6, l6, k6, rfl, KG.ints_ ⟨KG.ints.2.1, KG.ints.2.2.2.2.1, KG.ints.2.2.2.2.2.1, KG.ints.2.2.2.2.2.2.1, KG.ints.2.2.2.2.2.2.2.1, trivial⟩⟩) | (trace_state; fail)
           refine AllReadyH.cons (o := ⟨some 25, _, _, _, _, _⟩) rfl (fun K hK => ?_) AllReadyH.nil
           go_simp
           have KA12 := KA11.new 24 (Plains.two false none 0 0)
           (try simp only [World.size_alloc] at KA12)
           refine hK.out _ _ ?_ (fun hh4 => ?_)
           · ((try dsimp only); go_keep)
           clear hK K hh3
           (try simp only [Act.put, sit, scz, scs])
           refine wpAnyH_ready (rs := [6]) (by kernel_rfl) (by simp) ?_
           refine AllReadyH.cons (o := ⟨some 102, _, _, _, _, _⟩) rfl (fun K hK => ?_) AllReadyH.nil
           go_simp
           have im6a := KA12.ints.1.ci kz
           have im6b := KA12.ints.2.2.2.2.1.ci kb
           (go_at_call 92; (with_reducible refine (rdivMod_at im6a im6b zz2 zb2).mono ?_); rw [HY.out, HYR.out]; rintro e wm3 ⟨E6, l6, k6, E7, l7, k7, rfl, d6, u6, v6, d7, u7, v7, g6⟩)
           (try go_wp2_with fail)
           have K6 := ((KA12.call g6).add (CanAt.mk_ d6 u6 v6)).add (CanAt.mk_ d7 u7 v7)
           clear p0x2 p0y2 p1x2 p1y2 p5x2 p5y2 p6x2 p6y2
           obtain ⟨⟨b25x5, b25y5⟩, ⟨b24x5, b24y5⟩, ⟨p0x5, p0y5⟩, ⟨p1x5, p1y5⟩, _, _, _, ⟨p5x5, p5y5⟩, ⟨p6x5, p6y5⟩, _⟩ := K6.facts
           obtain ⟨f25x5, f25y5⟩ := K6.free (i := 0) rfl
           obtain ⟨e250x5, e250y5⟩ := K6.ne 0 2 rfl rfl (by decide)
           obtain ⟨e251x5, e251y5⟩ := K6.ne 0 3 rfl rfl (by decide)
           obtain ⟨e255x5, e255y5⟩ := K6.ne 0 7 rfl rfl (by decide)
           obtain ⟨e256x5, e256y5⟩ := K6.ne 0 8 rfl rfl (by decide)
           obtain ⟨f24x5, f24y5⟩ := K6.free (i := 1) rfl
           obtain ⟨e240x5, e240y5⟩ := K6.ne 1 2 rfl rfl (by decide)
           obtain ⟨e241x5, e241y5⟩ := K6.ne 1 3 rfl rfl (by decide)
           obtain ⟨e245x5, e245y5⟩ := K6.ne 1 7 rfl rfl (by decide)
           obtain ⟨e246x5, e246y5⟩ := K6.ne 1 8 rfl rfl (by decide)
           obtain ⟨eex5, eey5⟩ := K6.ne 0 1 rfl rfl (by decide)
           refine hK.out _ _ ?_ (fun hh5 => ?_)
           · ((try dsimp only); go_keep)
           clear hK K hh4
           (try simp only [Act.put, sit, scz, scs])
           refine wpAnyH_take (i := 7) (oi := ⟨some 95, _, _, _, _, _⟩) (v := ?_) rfl (by kernel_rfl) (by kernel_rfl) (by kernel_rfl) (fun _ _ _ h => h) (Or.inl ⟨by rfl, ?_⟩) ‹_› ?_
           rotate_left
           · (intro w' hSw; (try dsimp only at hSw); go_simp; (try with_reducible rfl))
           (try simp only [Act.put, sit, scz, scs])
           refine wpAnyH_take (i := 8) (oi := ⟨some 103, _, _, _, _, _⟩) (v := ?_) rfl (by kernel_rfl) (by kernel_rfl) (by kernel_rfl) (fun _ _ _ h => h) (Or.inl ⟨by rfl, ?_⟩) ‹_› ?_
           rotate_left
           · (intro w' hSw; (try dsimp only at hSw); go_simp; (try with_reducible rfl))
           (try simp only [Act.put, sit, scz, scs])
           refine wpAnyH_take (i := 9) (oi := ⟨some 104, _, _, _, _, _⟩) (v := ?_) rfl (by kernel_rfl) (by kernel_rfl) (by kernel_rfl) (fun _ _ _ h => h) (Or.inl ⟨by rfl, ?_⟩) ‹_› ?_
           rotate_left
           · (intro w' hSw; (try dsimp only at hSw); go_simp; (try with_reducible rfl))
           (try simp only [Act.put, sit, scz, scs])
           refine wpAnyH_take (i := 10) (oi := ⟨some 105, _, _, _, _, _⟩) (v := ?_) rfl (by kernel_rfl) (by kernel_rfl) (by kernel_rfl) (fun _ _ _ h => h) (Or.inl ⟨by rfl, ?_⟩) ‹_› ?_
           rotate_left
           · (intro w' hSw; (try dsimp only at hSw); go_simp; (try with_reducible rfl))
           (try simp only [Act.put, sit, scz, scs])
           refine wpAnyH_ready (rs := [13]) (by kernel_rfl) (by simp) ?_
           refine AllReadyH.cons (o := ⟨none, _, _, _, _, _⟩) rfl (fun K hK => ?_) AllReadyH.nil
           go_simp
           refine hK.out _ _ ?_ (fun hh6 => ?_)
           · ((try dsimp only); go_keep)
           clear hK K hh5
           (try simp only [Act.put, sit, scz, scs])
           refine wpAnyH_ready (rs := [14]) (by kernel_rfl) (by simp) ?_
           refine AllReadyH.cons (o := ⟨none, _, _, _, _, _⟩) rfl (fun K hK => ?_) AllReadyH.nil
           go_simp
           refine hK.out _ _ ?_ (fun hh7 => ?_)
           · ((try dsimp only); go_keep)
           clear hK K hh6
           (try simp only [Act.put, sit, scz, scs])
           refine wpAnyH_take (i := 15) (oi := ⟨some 26, _, _, _, _, _⟩) (v := ?_) rfl (by kernel_rfl) (by kernel_rfl) (by kernel_rfl) (fun _ _ _ h => h) (Or.inl ⟨by rfl, ?_⟩) ‹_› ?_
           rotate_left
           · (intro w' hSw; (try dsimp only at hSw); go_simp; (try with_reducible rfl))
           (try simp only [Act.put, sit, scz, scs])
           refine wpAnyH_done (by kernel_rfl) ?_ _
           go_wp2_with fail
           go_meet
           first | (have KF := ((K6.put 1 rfl (decide (y < 0)) E6 l6 k6).put 0 rfl (decide (yr < 0)) E7 l7 k7); (try simp only [List.set, World.size_alloc, World.size_setCell] at KF); have KG := KF.erase 0; simp only [List.eraseIdx] at KG; exact ⟨_, E6, l6, k6, rfl, KG.ints_ ⟨KG.ints.2.1, KG.ints.2.2.2.2.1, KG.ints.2.2.2.2.2.1, KG.ints.2.2.2.2.2.2.1, KG.ints.2.2.2.2.2.2.2.1, trivial⟩⟩) | (have KF := ((K6.put 1 rfl (decide (y < 0)) E6 l6 k6).put 0 rfl (decide (yr < 0)) E7 l7 k7); (try simp only [List.set, World.size_alloc, World.size_setCell] at KF); have KG := KF.erase 0; simp only [List.eraseIdx] at KG; exact ⟨_, E6, l6, k6, rfl, KG.ints_ ⟨KG.ints.2.1, KG.ints.2.2.2.2.1, KG.ints.2.2.2.2.2.1, KG.ints.2.2.2.2.2.2.1, KG.ints.2.2.2.2.2.2.2.1, trivial⟩⟩) | (trace_state; fail)
          refine AllReadyH.cons (o := ⟨some 25, _, _, _, _, _⟩) rfl (fun K hK => ?_) AllReadyH.nil
          go_simp
          have KA12 := K4.new 24 (Plains.two false none 0 0)
          (try simp only [World.size_alloc] at KA12)
          refine hK.out _ _ ?_ (fun hh3 => ?_)
          · ((try dsimp only); go_keep)
          clear hK K hh2
          (try simp only [Act.put, sit, scz, scs])
          refine wpAnyH_ready (rs := [6, 11]) (by kernel_rfl) (by simp) ?_
          refine AllReadyH.cons (o := ⟨some 102, _, _, _, _, _⟩) rfl (fun K hK => ?_) ?_
          ·
           go_simp
           have im6a := KA12.ints.1.ci kz
           have im6b := KA12.ints.2.2.2.2.1.ci kb
           (go_at_call 92; (with_reducible refine (rdivMod_at im6a im6b zz2 zb2).mono ?_); rw [HY.out, HYR.out]; rintro e wm3 ⟨E6, l6, k6, E7, l7, k7, rfl, d6, u6, v6, d7, u7, v7, g6⟩)
           (try go_wp2_with fail)
           have K6 := ((KA12.call g6).add (CanAt.mk_ d6 u6 v6)).add (CanAt.mk_ d7 u7 v7)
           clear p0x2 p0y2 p1x2 p1y2 p5x2 p5y2 p6x2 p6y2
           obtain ⟨⟨b25x4, b25y4⟩, ⟨p0x4, p0y4⟩, ⟨p1x4, p1y4⟩, _, _, _, ⟨p5x4, p5y4⟩, ⟨p6x4, p6y4⟩, _⟩ := K6.facts
           obtain ⟨f25x4, f25y4⟩ := K6.free (i := 0) rfl
           obtain ⟨e250x4, e250y4⟩ := K6.ne 0 1 rfl rfl (by decide)
           obtain ⟨e251x4, e251y4⟩ := K6.ne 0 2 rfl rfl (by decide)
           obtain ⟨e255x4, e255y4⟩ := K6.ne 0 6 rfl rfl (by decide)
           obtain ⟨e256x4, e256y4⟩ := K6.ne 0 7 rfl rfl (by decide)
           refine hK.out _ _ ?_ (fun hh4 => ?_)
           · ((try dsimp only); go_keep)
           clear hK K hh3
           (try simp only [Act.put, sit, scz, scs])
           refine wpAnyH_take (i := 7) (oi := ⟨some 95, _, _, _, _, _⟩) (v := ?_) rfl (by kernel_rfl) (by kernel_rfl) (by kernel_rfl) (fun _ _ _ h => h) (Or.inl ⟨by rfl, ?_⟩) ‹_› ?_
           rotate_left
           · (intro w' hSw; (try dsimp only at hSw); go_simp; (try with_reducible rfl))
           (try simp only [Act.put, sit, scz, scs])
           refine wpAnyH_take (i := 8) (oi := ⟨some 103, _, _, _, _, _⟩) (v := ?_) rfl (by kernel_rfl) (by kernel_rfl) (by kernel_rfl) (fun _ _ _ h => h) (Or.inl ⟨by rfl, ?_⟩) ‹_› ?_
           rotate_left
           · (intro w' hSw; (try dsimp only at hSw); go_simp; (try with_reducible rfl))
           (try simp only [Act.put, sit, scz, scs])
           refine wpAnyH_take (i := 9) (oi := ⟨some 104, _, _, _, _, _⟩) (v := ?_) rfl (by kernel_rfl) (by kernel_rfl) (by kernel_rfl) (fun _ _ _ h => h) (Or.inl ⟨by rfl, ?_⟩) ‹_› ?_
           rotate_left
           · (intro w' hSw; (try dsimp only at hSw); go_simp; (try with_reducible rfl))
           (try simp only [Act.put, sit, scz, scs])
           refine wpAnyH_take (i := 10) (oi := ⟨some 105, _, _, _, _, _⟩) (v := ?_) rfl (by kernel_rfl) (by kernel_rfl) (by kernel_rfl) (fun _ _ _ h => h) (Or.inl ⟨by rfl, ?_⟩) ‹_› ?_
           rotate_left
           · (intro w' hSw; (try dsimp only at hSw); go_simp; (try with_reducible rfl))
           (try simp only [Act.put, sit, scz, scs])
           refine wpAnyH_ready (rs := [11]) (by kernel_rfl) (by simp) ?_
           refine AllReadyH.cons (o := ⟨some 24, _, _, _, _, _⟩) rfl (fun K hK => ?_) AllReadyH.nil
           go_simp
           have KA11 := K6.new 24 (Plains.two false none 0 0)
           (try simp only [World.size_alloc] at KA11)
           obtain ⟨⟨b24x5, b24y5⟩, ⟨b25x5, b25y5⟩, _⟩ := KA11.facts
           obtain ⟨f24x5, f24y5⟩ := KA11.free (i := 0) rfl
           obtain ⟨e240x5, e240y5⟩ := KA11.ne 0 2 rfl rfl (by decide)
           obtain ⟨e241x5, e241y5⟩ := KA11.ne 0 3 rfl rfl (by decide)
           obtain ⟨e245x5, e245y5⟩ := KA11.ne 0 7 rfl rfl (by decide)
           obtain ⟨e246x5, e246y5⟩ := KA11.ne 0 8 rfl rfl (by decide)
           obtain ⟨f25x5, f25y5⟩ := KA11.free (i := 1) rfl
           obtain ⟨eex5, eey5⟩ := KA11.ne 0 1 rfl rfl (by decide)
           refine hK.out _ _ ?_ (fun hh5 => ?_)
           · ((try dsimp only); go_keep)
           clear hK K hh4
           (try simp only [Act.put, sit, scz, scs])
           refine wpAnyH_ready (rs := [13]) (by kernel_rfl) (by simp) ?_
           refine AllReadyH.cons (o := ⟨none, _, _, _, _, _⟩) rfl (fun K hK => ?_) AllReadyH.nil
           go_simp
           have KS := K6.new 24 (Plains.two (decide (y < 0)) E6 l6 k6)
           (try simp only [World.size_alloc] at KS)
           obtain ⟨⟨b24x6, b24y6⟩, ⟨b25x6, b25y6⟩, _⟩ := KS.facts
           obtain ⟨f24x6, f24y6⟩ := KS.free (i := 0) rfl
           obtain ⟨e240x6, e240y6⟩ := KS.ne 0 2 rfl rfl (by decide)
           obtain ⟨e241x6, e241y6⟩ := KS.ne 0 3 rfl rfl (by decide)
           obtain ⟨e245x6, e245y6⟩ := KS.ne 0 7 rfl rfl (by decide)
           obtain ⟨e246x6, e246y6⟩ := KS.ne 0 8 rfl rfl (by decide)
           obtain ⟨f25x6, f25y6⟩ := KS.free (i := 1) rfl
           obtain ⟨eex6, eey6⟩ := KS.ne 0 1 rfl rfl (by decide)
           refine hK.out _ _ ?_ (fun hh6 => ?_)
           · ((try dsimp only); go_keep)
           clear hK K hh5
           (try simp only [Act.put, sit, scz, scs])
           refine wpAnyH_ready (rs := [14]) (by kernel_rfl) (by simp) ?_
           refine AllReadyH.cons (o := ⟨none, _, _, _, _, _⟩) rfl (fun K hK => ?_) AllReadyH.nil
           go_simp
           refine hK.out _ _ ?_ (fun hh7 => ?_)
           · ((try dsimp only); go_keep)
           clear hK K hh6
           (try simp only [Act.put, sit, scz, scs])
           refine wpAnyH_take (i := 15) (oi := ⟨some 26, _, _, _, _, _⟩) (v := ?_) rfl (by kernel_rfl) (by kernel_rfl) (by kernel_rfl) (fun _ _ _ h => h) (Or.inl ⟨by rfl, ?_⟩) ‹_› ?_
           rotate_left
           · (intro w' hSw; (try dsimp only at hSw); go_simp; (try with_reducible rfl))
           (try simp only [Act.put, sit, scz, scs])
           refine wpAnyH_done (by kernel_rfl) ?_ _
           go_wp2_with fail
           go_meet
           first | (have KF := ((K6.new 24 (Plains.two (decide (y < 0)) E6 l6 k6)).put 1 rfl (decide (yr < 0)) E7 l7 k7); (try simp only [List.set, World.size_alloc, World.size_setCell] at KF); have KG := KF.erase 1; simp only [List.eraseIdx] at KG; exact ⟨_, E6, l6, k6, rfl, KG.ints_ ⟨KG.ints.2.1, KG.ints.2.2.2.2.1, KG.ints.2.2.2.2.2.1, KG.ints.2.2.2.2.2.2.1, KG.ints.2.2.2.2.2.2.2.1, trivial⟩⟩) | (have KF := ((K6.put 0 rfl (decide (yr < 0)) E7 l7 k7).new 24 (Plains.two (decide (y < 0)) E6 l6 k6)); (try simp only [List.set, World.size_alloc, World.size_setCell] at KF); have KG := KF.erase 1; simp only [List.eraseIdx] at KG; exact ⟨_, E6, l6, k6, rfl, KG.ints_ ⟨KG.ints.2.1, KG.ints.2.2.2.2.1, KG.ints.2.2.2.2.2.1, KG.ints.2.2.2.2.2.2.1, KG.ints.2.2.2.2.2.2.2.1, trivial⟩⟩) | (trace_state; fail)
          refine AllReadyH.cons (o := ⟨some 24, _, _, _, _, _⟩) rfl (fun K hK => ?_) AllReadyH.nil
          go_simp
          have KA11 := KA12.new 24 (Plains.two false none 0 0)
          (try simp only [World.size_alloc] at KA11)
          refine hK.out _ _ ?_ (fun hh4 => ?_)
          · ((try dsimp only); go_keep)
          clear hK K hh3
          (try simp only [Act.put, sit, scz, scs])
          refine wpAnyH_ready (rs := [6]) (by kernel_rfl) (by simp) ?_
          refine AllReadyH.cons (o := ⟨some 102, _, _, _, _, _⟩) rfl (fun K hK => ?_) AllReadyH.nil
          go_simp
          have im6a := KA11.ints.1.ci kz
          have im6b := KA11.ints.2.2.2.2.1.ci kb
          (go_at_call 92; (with_reducible refine (rdivMod_at im6a im6b zz2 zb2).mono ?_); rw [HY.out, HYR.out]; rintro e wm3 ⟨E6, l6, k6, E7, l7, k7, rfl, d6, u6, v6, d7, u7, v7, g6⟩)
          (try go_wp2_with fail)
          have K6 := ((KA11.call g6).add (CanAt.mk_ d6 u6 v6)).add (CanAt.mk_ d7 u7 v7)
          clear p0x2 p0y2 p1x2 p1y2 p5x2 p5y2 p6x2 p6y2
          obtain ⟨⟨b24x5, b24y5⟩, ⟨b25x5, b25y5⟩, ⟨p0x5, p0y5⟩, ⟨p1x5, p1y5⟩, _, _, _, ⟨p5x5, p5y5⟩, ⟨p6x5, p6y5⟩, _⟩ := K6.facts
          obtain ⟨f24x5, f24y5⟩ := K6.free (i := 0) rfl
          obtain ⟨e240x5, e240y5⟩ := K6.ne 0 2 rfl rfl (by decide)
          obtain ⟨e241x5, e241y5⟩ := K6.ne 0 3 rfl rfl (by decide)
          obtain ⟨e245x5, e245y5⟩ := K6.ne 0 7 rfl rfl (by decide)
          obtain ⟨e246x5, e246y5⟩ := K6.ne 0 8 rfl rfl (by decide)
          obtain ⟨f25x5, f25y5⟩ := K6.free (i := 1) rfl
          obtain ⟨e250x5, e250y5⟩ := K6.ne 1 2 rfl rfl (by decide)
          obtain ⟨e251x5, e251y5⟩ := K6.ne 1 3 rfl rfl (by decide)
          obtain ⟨e255x5, e255y5⟩ := K6.ne 1 7 rfl rfl (by decide)
          obtain ⟨e256x5, e256y5⟩ := K6.ne 1 8 rfl rfl (by decide)
          obtain ⟨eex5, eey5⟩ := K6.ne 0 1 rfl rfl (by decide)
          refine hK.out _ _ ?_ (fun hh5 => ?_)
          · ((try dsimp only); go_keep)
          clear hK K hh4
          (try simp only [Act.put, sit, scz, scs])
          refine wpAnyH_take (i := 7) (oi := ⟨some 95, _, _, _, _, _⟩) (v := ?_) rfl (by kernel_rfl) (by kernel_rfl) (by kernel_rfl) (fun _ _ _ h => h) (Or.inl ⟨by rfl, ?_⟩) ‹_› ?_
          rotate_left
          · (intro w' hSw; (try dsimp only at hSw); go_simp; (try with_reducible rfl))
          (try simp only [Act.put, sit, scz, scs])
          refine wpAnyH_take (i := 8) (oi := ⟨some 103, _, _, _, _, _⟩) (v := ?_) rfl (by kernel_rfl) (by kernel_rfl) (by kernel_rfl) (fun _ _ _ h => h) (Or.inl ⟨by rfl, ?_⟩) ‹_› ?_
          rotate_left
          · (intro w' hSw; (try dsimp only at hSw); go_simp; (try with_reducible rfl))
          (try simp only [Act.put, sit, scz, scs])
          refine wpAnyH_take (i := 9) (oi := ⟨some 104, _, _, _, _, _⟩) (v := ?_) rfl (by kernel_rfl) (by kernel_rfl) (by kernel_rfl) (fun _ _ _ h => h) (Or.inl ⟨by rfl, ?_⟩) ‹_› ?_
          rotate_left
          · (intro w' hSw; (try dsimp only at hSw); go_simp; (try with_reducible rfl))
          (try simp only [Act.put, sit, scz, scs])
          refine wpAnyH_take (i := 10) (oi := ⟨some 105, _, _, _, _, _⟩) (v := ?_) rfl (by kernel_rfl) (by kernel_rfl) (by kernel_rfl) (fun _ _ _ h => h) (Or.inl ⟨by rfl, ?_⟩) ‹_› ?_
          rotate_left
          · (intro w' hSw; (try dsimp only at hSw); go_simp; (try with_reducible rfl))
          (try simp only [Act.put, sit, scz, scs])
          refine wpAnyH_ready (rs := [13]) (by kernel_rfl) (by simp) ?_
          refine AllReadyH.cons (o := ⟨none, _, _, _, _, _⟩) rfl (fun K hK => ?_) AllReadyH.nil
          go_simp
          refine hK.out _ _ ?_ (fun hh6 => ?_)
          · ((try dsimp only); go_keep)
          clear hK K hh5
          (try simp only [Act.put, sit, scz, scs])
          refine wpAnyH_ready (rs := [14]) (by kernel_rfl) (by simp) ?_
          refine AllReadyH.cons (o := ⟨none, _, _, _, _, _⟩) rfl (fun K hK => ?_) AllReadyH.nil
          go_simp
          refine hK.out _ _ ?_ (fun hh7 => ?_)
          · ((try dsimp only); go_keep)
          clear hK K hh6
          (try simp only [Act.put, sit, scz, scs])
          refine wpAnyH_take (i := 15) (oi := ⟨some 26, _, _, _, _, _⟩) (v := ?_) rfl (by kernel_rfl) (by kernel_rfl) (by kernel_rfl) (fun _ _ _ h => h) (Or.inl ⟨by rfl, ?_⟩) ‹_› ?_
          rotate_left
          · (intro w' hSw; (try dsimp only at hSw); go_simp; (try with_reducible rfl))
          (try simp only [Act.put, sit, scz, scs])
          refine wpAnyH_done (by kernel_rfl) ?_ _
          go_wp2_with fail
          go_meet
          first | (have KF := ((K6.put 0 rfl (decide (y < 0)) E6 l6 k6).put 1 rfl (decide (yr < 0)) E7 l7 k7); (try simp only [List.set, World.size_alloc, World.size_setCell] at KF); have KG := KF.erase 1; simp only [List.eraseIdx] at KG; exact ⟨_, E6, l6, k6, rfl, KG.ints_ ⟨KG.ints.2.1, KG.ints.2.2.2.2.1, KG.ints.2.2.2.2.2.1, KG.ints.2.2.2.2.2.2.1, KG.ints.2.2.2.2.2.2.2.1, trivial⟩⟩) | (have KF := ((K6.put 0 rfl (decide (y < 0)) E6 l6 k6).put 1 rfl (decide (yr < 0)) E7 l7 k7); (try simp only [List.set, World.size_alloc, World.size_setCell] at KF); have KG := KF.erase 1; simp only [List.eraseIdx] at KG; exact ⟨_, E6, l6, k6, rfl, KG.ints_ ⟨KG.ints.2.1, KG.ints.2.2.2.2.1, KG.ints.2.2.2.2.2.1, KG.ints.2.2.2.2.2.2.1, KG.ints.2.2.2.2.2.2.2.1, trivial⟩⟩) | (trace_state; fail)
         refine AllReadyH.cons (o := ⟨some 24, _, _, _, _, _⟩) rfl (fun K hK => ?_) ?_
         ·
          go_simp
          have KA11 := K3.new 24 (Plains.two false none 0 0)
          (try simp only [World.size_alloc] at KA11)
          refine hK.out _ _ ?_ (fun hh2 => ?_)
          · ((try dsimp only); go_keep)
          clear hK K hh1
          (try simp only [Act.put, sit, scz, scs])
          refine wpAnyH_ready (rs := [4, 12]) (by kernel_rfl) (by simp) ?_
          refine AllReadyH.cons (o := ⟨some 100, _, _, _, _, _⟩) rfl (fun K hK => ?_) ?_
          ·
           go_simp
           have im4a := KA11.ints.2.2.1.ci kg
           have im4b := KA11.ints.1.ci kt
           (go_at_call 94; (with_reducible refine (rsub_at im4a im4b hng hnt).mono ?_); rw [HZ.out]; rintro e wm2 ⟨E5, l5, k5, rfl, d5, u5, v5, g5⟩)
           (try go_wp2_with fail)
           have K4 := (KA11.call g5).add (CanAt.mk_ d5 u5 v5)
           clear p0x1 p0y1 p1x1 p1y1 p5x1 p5y1 p6x1 p6y1
           obtain ⟨⟨b24x3, b24y3⟩, ⟨p0x3, p0y3⟩, ⟨p1x3, p1y3⟩, _, _, _, ⟨p5x3, p5y3⟩, ⟨p6x3, p6y3⟩, _⟩ := K4.facts
           obtain ⟨f24x3, f24y3⟩ := K4.free (i := 0) rfl
           obtain ⟨e240x3, e240y3⟩ := K4.ne 0 1 rfl rfl (by decide)
           obtain ⟨e241x3, e241y3⟩ := K4.ne 0 2 rfl rfl (by decide)
           obtain ⟨e245x3, e245y3⟩ := K4.ne 0 6 rfl rfl (by decide)
           obtain ⟨e246x3, e246y3⟩ := K4.ne 0 7 rfl rfl (by decide)
           refine hK.out _ _ ?_ (fun hh3 => ?_)
           · ((try dsimp only); go_keep)
           clear hK K hh2
           (try simp only [Act.put, sit, scz, scs])
           refine wpAnyH_ready (rs := [6, 12]) (by kernel_rfl) (by simp) ?_
           refine AllReadyH.cons (o := ⟨some 102, _, _, _, _, _⟩) rfl (fun K hK => ?_) ?_
           ·
            go_simp
            have im6a := K4.ints.1.ci kz
            have im6b := K4.ints.2.2.2.2.1.ci kb
            (go_at_call 92; (with_reducible refine (rdivMod_at im6a im6b zz2 zb2).mono ?_); rw [HY.out, HYR.out]; rintro e wm3 ⟨E6, l6, k6, E7, l7, k7, rfl, d6, u6, v6, d7, u7, v7, g6⟩)
            (try go_wp2_with fail)
            have K6 := ((K4.call g6).add (CanAt.mk_ d6 u6 v6)).add (CanAt.mk_ d7 u7 v7)
            clear b24x3 b24y3 p0x3 p0y3 p1x3 p1y3 p5x3 p5y3 p6x3 p6y3 f24x3 f24y3 e240x3 e240y3 e241x3 e241y3 e245x3 e245y3 e246x3 e246y3
            obtain ⟨⟨b24x4, b24y4⟩, ⟨p0x4, p0y4⟩, ⟨p1x4, p1y4⟩, _, _, _, ⟨p5x4, p5y4⟩, ⟨p6x4, p6y4⟩, _⟩ := K6.facts
            obtain ⟨f24x4, f24y4⟩ := K6.free (i := 0) rfl
            obtain ⟨e240x4, e240y4⟩ := K6.ne 0 1 rfl rfl (by decide)
            obtain ⟨e241x4, e241y4⟩ := K6.ne 0 2 rfl rfl (by decide)
            obtain ⟨e245x4, e245y4⟩ := K6.ne 0 6 rfl rfl (by decide)
            obtain ⟨e246x4, e246y4⟩ := K6.ne 0 7 rfl rfl (by decide)
            refine hK.out _ _ ?_ (fun hh4 => ?_)
            · ((try dsimp only); go_keep)
            clear hK K hh3
            (try simp only [Act.put, sit, scz, scs])
            refine wpAnyH_take (i := 7) (oi := ⟨some 95, _, _, _, _, _⟩) (v := ?_) rfl (by kernel_rfl) (by kernel_rfl) (by kernel_rfl) (fun _ _ _ h => h) (Or.inl ⟨by rfl, ?_⟩) ‹_› ?_
            rotate_left
            · (intro w' hSw; (try dsimp only at hSw); go_simp; (try with_reducible rfl))
            (try simp only [Act.put, sit, scz, scs])
            refine wpAnyH_take (i := 8) (oi := ⟨some 103, _, _, _, _, _⟩) (v := ?_) rfl (by kernel_rfl) (by kernel_rfl) (by kernel_rfl) (fun _ _ _ h => h) (Or.inl ⟨by rfl, ?_⟩) ‹_› ?_
            rotate_left
            · (intro w' hSw; (try dsimp only at hSw); go_simp; (try with_reducible rfl))
            (try simp only [Act.put, sit, scz, scs])
            refine wpAnyH_take (i := 9) (oi := ⟨some 104, _, _, _, _, _⟩) (v := ?_) rfl (by kernel_rfl) (by kernel_rfl) (by kernel_rfl) (fun _ _ _ h => h) (Or.inl ⟨by rfl, ?_⟩) ‹_› ?_
            rotate_left
            · (intro w' hSw; (try dsimp only at hSw); go_simp; (try with_reducible rfl))
            (try simp only [Act.put, sit, scz, scs])
            refine wpAnyH_take (i := 10) (oi := ⟨some 105, _, _, _, _, _⟩) (v := ?_) rfl (by kernel_rfl) (by kernel_rfl) (by kernel_rfl) (fun _ _ _ h => h) (Or.inl ⟨by rfl, ?_⟩) ‹_› ?_
            rotate_left
            · (intro w' hSw; (try dsimp only at hSw); go_simp; (try with_reducible rfl))
            (try simp only [Act.put, sit, scz, scs])
            refine wpAnyH_ready (rs := [12]) (by kernel_rfl) (by simp) ?_
            refine AllReadyH.cons (o := ⟨some 25, _, _, _, _, _⟩) rfl (fun K hK => ?_) AllReadyH.nil
            go_simp
            have KA12 := K6.new 24 (Plains.two false none 0 0)
            (try simp only [World.size_alloc] at KA12)
            obtain ⟨⟨b25x5, b25y5⟩, ⟨b24x5, b24y5⟩, _⟩ := KA12.facts
            obtain ⟨f25x5, f25y5⟩ := KA12.free (i := 0) rfl
            obtain ⟨e250x5, e250y5⟩ := KA12.ne 0 2 rfl rfl (by decide)
            obtain ⟨e251x5, e251y5⟩ := KA12.ne 0 3 rfl rfl (by decide)
            obtain ⟨e255x5, e255y5⟩ := KA12.ne 0 7 rfl rfl (by decide)
            obtain ⟨e256x5, e256y5⟩ := KA12.ne 0 8 rfl rfl (by decide)
            obtain ⟨f24x5, f24y5⟩ := KA12.free (i := 1) rfl
            obtain ⟨eex5, eey5⟩ := KA12.ne 0 1 rfl rfl (by decide)
            refine hK.out _ _ ?_ (fun hh5 => ?_)
            · ((try dsimp only); go_keep)
            clear hK K hh4
            (try simp only [Act.put, sit, scz, scs])
            refine wpAnyH_ready (rs := [13]) (by kernel_rfl) (by simp) ?_
            refine AllReadyH.cons (o := ⟨none, _, _, _, _, _⟩) rfl (fun K hK => ?_) AllReadyH.nil
            go_simp
            refine hK.out _ _ ?_ (fun hh6 => ?_)
            · ((try dsimp only); go_keep)
            clear hK K hh5
            (try simp only [Act.put, sit, scz, scs])
            refine wpAnyH_ready (rs := [14]) (by kernel_rfl) (by simp) ?_
            refine AllReadyH.cons (o := ⟨none, _, _, _, _, _⟩) rfl (fun K hK => ?_) AllReadyH.nil
            go_simp
            refine hK.out _ _ ?_ (fun hh7 => ?_)
            · ((try dsimp only); go_keep)
            clear hK K hh6
            (try simp only [Act.put, sit, scz, scs])
            refine wpAnyH_take (i := 15) (oi := ⟨some 26, _, _, _, _, _⟩) (v := ?_) rfl (by kernel_rfl) (by kernel_rfl) (by kernel_rfl) (fun _ _ _ h => h) (Or.inl ⟨by rfl, ?_⟩) ‹_› ?_
            rotate_left
            · (intro w' hSw; (try dsimp only at hSw); go_simp; (try with_reducible rfl))
            (try simp only [Act.put, sit, scz, scs])
            refine wpAnyH_done (by kernel_rfl) ?_ _
            go_wp2_with fail
            go_meet
            first | (have KF := (((K6.new 24 (Plains.two false none 0 0)).put 1 rfl (decide (y < 0)) E6 l6 k6).put 0 rfl (decide (yr < 0)) E7 l7 k7); (try simp only [List.set, World.size_alloc, World.size_setCell] at KF); have KG := KF.erase 0; simp only [List.eraseIdx] at KG; exact ⟨_, E6, l6, k6, rfl, KG.ints_ ⟨KG.ints.2.1, KG.ints.2.2.2.2.1, KG.ints.2.2.2.2.2.1, KG.ints.2.2.2.2.2.2.1, KG.ints.2.2.2.2.2.2.2.1, trivial⟩⟩) | (trace_state; fail)
           refine AllReadyH.cons (o := ⟨some 25, _, _, _, _, _⟩) rfl (fun K hK => ?_) AllReadyH.nil
           go_simp
           have KA12 := K4.new 24 (Plains.two false none 0 0)
           (try simp only [World.size_alloc] at KA12)
           obtain ⟨⟨b25x4, b25y4⟩, ⟨b24x4, b24y4⟩, _⟩ := KA12.facts
           obtain ⟨f25x4, f25y4⟩ := KA12.free (i := 0) rfl
           obtain ⟨e250x4, e250y4⟩ := KA12.ne 0 2 rfl rfl (by decide)
           obtain ⟨e251x4, e251y4⟩ := KA12.ne 0 3 rfl rfl (by decide)
           obtain ⟨e255x4, e255y4⟩ := KA12.ne 0 7 rfl rfl (by decide)
           obtain ⟨e256x4, e256y4⟩ := KA12.ne 0 8 rfl rfl (by decide)
           obtain ⟨f24x4, f24y4⟩ := KA12.free (i := 1) rfl
           obtain ⟨eex4, eey4⟩ := KA12.ne 0 1 rfl rfl (by decide)
           refine hK.out _ _ ?_ (fun hh4 => ?_)
           · ((try dsimp only); go_keep)
           clear hK K hh3
           (try simp only [Act.put, sit, scz, scs])
           refine wpAnyH_ready (rs := [6]) (by kernel_rfl) (by simp) ?_
           refine AllReadyH.cons (o := ⟨some 102, _, _, _, _, _⟩) rfl (fun K hK => ?_) AllReadyH.nil
           go_simp
           have im6a := KA12.ints.1.ci kz
           have im6b := KA12.ints.2.2.2.2.1.ci kb
           (go_at_call 92; (with_reducible refine (rdivMod_at im6a im6b zz2 zb2).mono ?_); rw [HY.out, HYR.out]; rintro e wm3 ⟨E6, l6, k6, E7, l7, k7, rfl, d6, u6, v6, d7, u7, v7, g6⟩)
           (try go_wp2_with fail)
           have K6 := ((KA12.call g6).add (CanAt.mk_ d6 u6 v6)).add (CanAt.mk_ d7 u7 v7)
           clear b24x3 b24y3 p0x3 p0y3 p1x3 p1y3 p5x3 p5y3 p6x3 p6y3 f24x3 f24y3 e240x3 e240y3 e241x3 e241y3 e245x3 e245y3 e246x3 e246y3 b25x4 b25y4 b24x4 b24y4 f25x4 f25y4 e250x4 e250y4 e251x4 e251y4 e255x4 e255y4 e256x4 e256y4 f24x4 f24y4 eex4 eey4
           obtain ⟨⟨b25x5, b25y5⟩, ⟨b24x5, b24y5⟩, ⟨p0x5, p0y5⟩, ⟨p1x5, p1y5⟩, _, _, _, ⟨p5x5, p5y5⟩, ⟨p6x5, p6y5⟩, _⟩ := K6.facts
           obtain ⟨f25x5, f25y5⟩ := K6.free (i := 0) rfl
           obtain ⟨e250x5, e250y5⟩ := K6.ne 0 2 rfl rfl (by decide)
           obtain ⟨e251x5, e251y5⟩ := K6.ne 0 3 rfl rfl (by decide)
           obtain ⟨e255x5, e255y5⟩ := K6.ne 0 7 rfl rfl (by decide)
           obtain ⟨e256x5, e256y5⟩ := K6.ne 0 8 rfl rfl (by decide)
           obtain ⟨f24x5, f24y5⟩ := K6.free (i := 1) rfl
           obtain ⟨e240x5, e240y5⟩ := K6.ne 1 2 rfl rfl (by decide)
           obtain ⟨e241x5, e241y5⟩ := K6.ne 1 3 rfl rfl (by decide)
           obtain ⟨e245x5, e245y5⟩ := K6.ne 1 7 rfl rfl (by decide)
           obtain ⟨e246x5, e246y5⟩ := K6.ne 1 8 rfl rfl (by decide)
           obtain ⟨eex5, eey5⟩ := K6.ne 0 1 rfl rfl (by decide)
           refine hK.out _ _ ?_ (fun hh5 => ?_)
           · ((try dsimp only); go_keep)
           clear hK K hh4
           (try simp only [Act.put, sit, scz, scs])
           refine wpAnyH_take (i := 7) (oi := ⟨some 95, _, _, _, _, _⟩) (v := ?_) rfl (by kernel_rfl) (by kernel_rfl) (by kernel_rfl) (fun _ _ _ h => h) (Or.inl ⟨by rfl, ?_⟩) ‹_› ?_
           rotate_left
           · (intro w' hSw; (try dsimp only at hSw); go_simp; (try with_reducible rfl))
           (try simp only [Act.put, sit, scz, scs])
           refine wpAnyH_take (i := 8) (oi := ⟨some 103, _, _, _, _, _⟩) (v := ?_) rfl (by kernel_rfl) (by kernel_rfl) (by kernel_rfl) (fun _ _ _ h => h) (Or.inl ⟨by rfl, ?_⟩) ‹_› ?_
           rotate_left
           · (intro w' hSw; (try dsimp only at hSw); go_simp; (try with_reducible rfl))
           (try simp only [Act.put, sit, scz, scs])
           refine wpAnyH_take (i := 9) (oi := ⟨some 104, _, _, _, _, _⟩) (v := ?_) rfl (by kernel_rfl) (by kernel_rfl) (by kernel_rfl) (fun _ _ _ h => h) (Or.inl ⟨by rfl, ?_⟩) ‹_› ?_
           rotate_left
           · (intro w' hSw; (try dsimp only at hSw); go_simp; (try with_reducible rfl))
           (try simp only [Act.put, sit, scz, scs])
           refine wpAnyH_take (i := 10) (oi := ⟨some 105, _, _, _, _, _⟩) (v := ?_) rfl (by kernel_rfl) (by kernel_rfl) (by kernel_rfl) (fun _ _ _ h => h) (Or.inl ⟨by rfl, ?_⟩) ‹_› ?_
           rotate_left
           · (intro w' hSw; (try dsimp only at hSw); go_simp; (try with_reducible rfl))
           (try simp only [Act.put, sit, scz, scs])
           refine wpAnyH_ready (rs := [13]) (by kernel_rfl) (by simp) ?_
           refine AllReadyH.cons (o := ⟨none, _, _, _, _, _⟩) rfl (fun K hK => ?_) AllReadyH.nil
           go_simp
           refine hK.out _ _ ?_ (fun hh6 => ?_)
           · ((try dsimp only); go_keep)
           clear hK K hh5
           (try simp only [Act.put, sit, scz, scs])
           refine wpAnyH_ready (rs := [14]) (by kernel_rfl) (by simp) ?_
           refine AllReadyH.cons (o := ⟨none, _, _, _, _, _⟩) rfl (fun K hK => ?_) AllReadyH.nil
           go_simp
           refine hK.out _ _ ?_ (fun hh7 => ?_)
           · ((try dsimp only); go_keep)
           clear hK K hh6
           (try simp only [Act.put, sit, scz, scs])
           refine wpAnyH_take (i := 15) (oi := ⟨some 26, _, _, _, _, _⟩) (v := ?_) rfl (by kernel_rfl) (by kernel_rfl) (by kernel_rfl) (fun _ _ _ h => h) (Or.inl ⟨by rfl, ?_⟩) ‹_› ?_
           rotate_left
           · (intro w' hSw; (try dsimp only at hSw); go_simp; (try with_reducible rfl))
           (try simp only [Act.put, sit, scz, scs])
           refine wpAnyH_done (by kernel_rfl) ?_ _
           go_wp2_with fail
           go_meet
           first | (have KF := ((K6.put 1 rfl (decide (y < 0)) E6 l6 k6).put 0 rfl (decide (yr < 0)) E7 l7 k7); (try simp only [List.set, World.size_alloc, World.size_setCell] at KF); have KG := KF.erase 0; simp only [List.eraseIdx] at KG; exact ⟨_, E6, l6, k6, rfl, KG.ints_ ⟨KG.ints.2.1, KG.ints.2.2.2.2.1, KG.ints.2.2.2.2.2.1, KG.ints.2.2.2.2.2.2.1, KG.ints.2.2.2.2.2.2.2.1, trivial⟩⟩) | (have KF := ((K6.put 1 rfl (decide (y < 0)) E6 l6 k6).put 0 rfl (decide (yr < 0)) E7 l7 k7); (try simp only [List.set, World.size_alloc, World.size_setCell] at KF); have KG := KF.erase 0; simp only [List.eraseIdx] at KG; exact ⟨_, E6, l6, k6, rfl, KG.ints_ ⟨KG.ints.2.1, KG.ints.2.2.2.2.1, KG.ints.2.2.2.2.2.1, KG.ints.2.2.2.2.2.2.1, KG.ints.2.2.2.2.2.2.2.1, trivial⟩⟩) | (trace_state; fail)
          refine AllReadyH.cons (o := ⟨some 25, _, _, _, _, _⟩) rfl (fun K hK => ?_) AllReadyH.nil
          go_simp
          have KA12 := KA11.new 24 (Plains.two false none 0 0)
          (try simp only [World.size_alloc] at KA12)
          refine hK.out _ _ ?_ (fun hh3 => ?_)
          · ((try dsimp only); go_keep)
          clear hK K hh2
          (try simp only [Act.put, sit, scz, scs])
          refine wpAnyH_ready (rs := [4]) (by kernel_rfl) (by simp) ?_
          refine AllReadyH.cons (o := ⟨some 100, _, _, _, _, _⟩) rfl (fun K hK => ?_) AllReadyH.nil
          go_simp
          have im4a := KA12.ints.2.2.1.ci kg
          have im4b := KA12.ints.1.ci kt
          (go_at_call 94; (with_reducible refine (rsub_at im4a im4b hng hnt).mono ?_); rw [HZ.out]; rintro e wm2 ⟨E5, l5, k5, rfl, d5, u5, v5, g5⟩)
          (try go_wp2_with fail)
          have K4 := (KA12.call g5).add (CanAt.mk_ d5 u5 v5)
          clear p0x1 p0y1 p1x1 p1y1 p5x1 p5y1 p6x1 p6y1
          obtain ⟨⟨b25x4, b25y4⟩, ⟨b24x4, b24y4⟩, ⟨p0x4, p0y4⟩, ⟨p1x4, p1y4⟩, _, _, _, ⟨p5x4, p5y4⟩, ⟨p6x4, p6y4⟩, _⟩ := K4.facts
          obtain ⟨f25x4, f25y4⟩ := K4.free (i := 0) rfl
          obtain ⟨e250x4, e250y4⟩ := K4.ne 0 2 rfl rfl (by decide)
          obtain ⟨e251x4, e251y4⟩ := K4.ne 0 3 rfl rfl (by decide)
          obtain ⟨e255x4, e255y4⟩ := K4.ne 0 7 rfl rfl (by decide)
          obtain ⟨e256x4, e256y4⟩ := K4.ne 0 8 rfl rfl (by decide)
          obtain ⟨f24x4, f24y4⟩ := K4.free (i := 1) rfl
          obtain ⟨e240x4, e240y4⟩ := K4.ne 1 2 rfl rfl (by decide)
          obtain ⟨e241x4, e241y4⟩ := K4.ne 1 3 rfl rfl (by decide)
          obtain ⟨e245x4, e245y4⟩ := K4.ne 1 7 rfl rfl (by decide)
          obtain ⟨e246x4, e246y4⟩ := K4.ne 1 8 rfl rfl (by decide)
          obtain ⟨eex4, eey4⟩ := K4.ne 0 1 rfl rfl (by decide)
          refine hK.out _ _ ?_ (fun hh4 => ?_)
          · ((try dsimp only); go_keep)
          clear hK K hh3
          (try simp only [Act.put, sit, scz, scs])
          refine wpAnyH_ready (rs := [6]) (by kernel_rfl) (by simp) ?_
          refine AllReadyH.cons (o := ⟨some 102, _, _, _, _, _⟩) rfl (fun K hK => ?_) AllReadyH.nil
          go_simp
          have im6a := K4.ints.1.ci kz
          have im6b := K4.ints.2.2.2.2.1.ci kb
          (go_at_call 92; (with_reducible refine (rdivMod_at im6a im6b zz2 zb2).mono ?_); rw [HY.out, HYR.out]; rintro e wm3 ⟨E6, l6, k6, E7, l7, k7, rfl, d6, u6, v6, d7, u7, v7, g6⟩)
          (try go_wp2_with fail)
          have K6 := ((K4.call g6).add (CanAt.mk_ d6 u6 v6)).add (CanAt.mk_ d7 u7 v7)
          clear b25x4 b25y4 b24x4 b24y4 p0x4 p0y4 p1x4 p1y4 p5x4 p5y4 p6x4 p6y4 f25x4 f25y4 e250x4 e250y4 e251x4 e251y4 e255x4 e255y4 e256x4 e256y4 f24x4 f24y4 e240x4 e240y4 e241x4 e241y4 e245x4 e245y4 e246x4 e246y4 eex4 eey4
          obtain ⟨⟨b25x5, b25y5⟩, ⟨b24x5, b24y5⟩, ⟨p0x5, p0y5⟩, ⟨p1x5, p1y5⟩, _, _, _, ⟨p5x5, p5y5⟩, ⟨p6x5, p6y5⟩, _⟩ := K6.facts
          obtain ⟨f25x5, f25y5⟩ := K6.free (i := 0) rfl
          obtain ⟨e250x5, e250y5⟩ := K6.ne 0 2 rfl rfl (by decide)
          obtain ⟨e251x5, e251y5⟩ := K6.ne 0 3 rfl rfl (by decide)
          obtain ⟨e255x5, e255y5⟩ := K6.ne 0 7 rfl rfl (by decide)
          obtain ⟨e256x5, e256y5⟩ := K6.ne 0 8 rfl rfl (by decide)
          obtain ⟨f24x5, f24y5⟩ := K6.free (i := 1) rfl
          obtain ⟨e240x5, e240y5⟩ := K6.ne 1 2 rfl rfl (by decide)
          obtain ⟨e241x5, e241y5⟩ := K6.ne 1 3 rfl rfl (by decide)
          obtain ⟨e245x5, e245y5⟩ := K6.ne 1 7 rfl rfl (by decide)
          obtain ⟨e246x5, e246y5⟩ := K6.ne 1 8 rfl rfl (by decide)
          obtain ⟨eex5, eey5⟩ := K6.ne 0 1 rfl rfl (by decide)
          refine hK.out _ _ ?_ (fun hh5 => ?_)
          · ((try dsimp only); go_keep)
          clear hK K hh4
          (try simp only [Act.put, sit, scz, scs])
          refine wpAnyH_take (i := 7) (oi := ⟨some 95, _, _, _, _, _⟩) (v := ?_) rfl (by kernel_rfl) (by kernel_rfl) (by kernel_rfl) (fun _ _ _ h => h) (Or.inl ⟨by rfl, ?_⟩) ‹_› ?_
          rotate_left
          · (intro w' hSw; (try dsimp only at hSw); go_simp; (try with_reducible rfl))
          (try simp only [Act.put, sit, scz, scs])
          refine wpAnyH_take (i := 8) (oi := ⟨some 103, _, _, _, _, _⟩) (v := ?_) rfl (by kernel_rfl) (by kernel_rfl) (by kernel_rfl) (fun _ _ _ h => h) (Or.inl ⟨by rfl, ?_⟩) ‹_› ?_
          rotate_left
          · (intro w' hSw; (try dsimp only at hSw); go_simp; (try with_reducible rfl))
          (try simp only [Act.put, sit, scz, scs])
          refine wpAnyH_take (i := 9) (oi := ⟨some 104, _, _, _, _, _⟩) (v := ?_) rfl (by kernel_rfl) (by kernel_rfl) (by kernel_rfl) (fun _ _ _ h => h) (Or.inl ⟨by rfl, ?_⟩) ‹_› ?_
          rotate_left
          · (intro w' hSw; (try dsimp only at hSw); go_simp; (try with_reducible rfl))
          (try simp only [Act.put, sit, scz, scs])
          refine wpAnyH_take (i := 10) (oi := ⟨some 105, _, _, _, _, _⟩) (v := ?_) rfl (by kernel_rfl) (by kernel_rfl) (by kernel_rfl) (fun _ _ _ h => h) (Or.inl ⟨by rfl, ?_⟩) ‹_› ?_
          rotate_left
          · (intro w' hSw; (try dsimp only at hSw); go_simp; (try with_reducible rfl))
          (try simp only [Act.put, sit, scz, scs])
          refine wpAnyH_ready (rs := [13]) (by kernel_rfl) (by simp) ?_
          refine AllReadyH.cons (o := ⟨none, _, _, _, _, _⟩) rfl (fun K hK => ?_) AllReadyH.nil
          go_simp
          refine hK.out _ _ ?_ (fun hh6 => ?_)
          · ((try dsimp only); go_keep)
          clear hK K hh5
          (try simp only [Act.put, sit, scz, scs])
          refine wpAnyH_ready (rs := [14]) (by kernel_rfl) (by simp) ?_
          refine AllReadyH.cons (o := ⟨none, _, _, _, _, _⟩) rfl (fun K hK => ?_) AllReadyH.nil
          go_simp
          refine hK.out _ _ ?_ (fun hh7 => ?_)
          · ((try dsimp only); go_keep)
          clear hK K hh6
          (try simp only [Act.put, sit, scz, scs])
          refine wpAnyH_take (i := 15) (oi := ⟨some 26, _, _, _, _, _⟩) (v := ?_) rfl (by kernel_rfl) (by kernel_rfl) (by kernel_rfl) (fun _ _ _ h => h) (Or.inl ⟨by rfl, ?_⟩) ‹_› ?_
          rotate_left
          · (intro w' hSw; (try dsimp only at hSw); go_simp; (try with_reducible rfl))
          (try simp only [Act.put, sit, scz, scs])
          refine wpAnyH_done (by kernel_rfl) ?_ _
          go_wp2_with fail
          go_meet
          first | (have KF := ((K6.put 1 rfl (decide (y < 0)) E6 l6 k6).put 0 rfl (decide (yr < 0)) E7 l7 k7); (try simp only [List.set, World.size_alloc, World.size_setCell] at KF); have KG := KF.erase 0; simp only [List.eraseIdx] at KG; exact ⟨_, E6, l6, k6, rfl, KG.ints_ ⟨KG.ints.2.1, KG.ints.2.2.2.2.1, KG.ints.2.2.2.2.2.1, KG.ints.2.2.2.2.2.2.1, KG.ints.2.2.2.2.2.2.2.1, trivial⟩⟩) | (have KF := ((K6.put 1 rfl (decide (y < 0)) E6 l6 k6).put 0 rfl (decide (yr < 0)) E7 l7 k7); (try simp only [List.set, World.size_alloc, World.size_setCell] at KF); have KG := KF.erase 0; simp only [List.eraseIdx] at KG; exact ⟨_, E6, l6, k6, rfl, KG.ints_ ⟨KG.ints.2.1, KG.ints.2.2.2.2.1, KG.ints.2.2.2.2.2.1, KG.ints.2.2.2.2.2.2.1, KG.ints.2.2.2.2.2.2.2.1, trivial⟩⟩) | (trace_state; fail)
         refine AllReadyH.cons (o := ⟨some 25, _, _, _, _, _⟩) rfl (fun K hK => ?_) AllReadyH.nil
         go_simp
         have KA12 := K3.new 24 (Plains.two false none 0 0)
         (try simp only [World.size_alloc] at KA12)
         refine hK.out _ _ ?_ (fun hh2 => ?_)
         · ((try dsimp only); go_keep)
         clear hK K hh1
         (try simp only [Act.put, sit, scz, scs])
         refine wpAnyH_ready (rs := [4, 11]) (by kernel_rfl) (by simp) ?_
         refine AllReadyH.cons (o := ⟨some 100, _, _, _, _, _⟩) rfl (fun K hK => ?_) ?_
         ·
          go_simp
          have im4a := KA12.ints.2.2.1.ci kg
          have im4b := KA12.ints.1.ci kt
          (go_at_call 94; (with_reducible refine (rsub_at im4a im4b hng hnt).mono ?_); rw [HZ.out]; rintro e wm2 ⟨E5, l5, k5, rfl, d5, u5, v5, g5⟩)
          (try go_wp2_with fail)
          have K4 := (KA12.call g5).add (CanAt.mk_ d5 u5 v5)
          clear p0x1 p0y1 p1x1 p1y1 p5x1 p5y1 p6x1 p6y1
          obtain ⟨⟨b25x3, b25y3⟩, ⟨p0x3, p0y3⟩, ⟨p1x3, p1y3⟩, _, _, _, ⟨p5x3, p5y3⟩, ⟨p6x3, p6y3⟩, _⟩ := K4.facts
          obtain ⟨f25x3, f25y3⟩ := K4.free (i := 0) rfl
          obtain ⟨e250x3, e250y3⟩ := K4.ne 0 1 rfl rfl (by decide)
          obtain ⟨e251x3, e251y3⟩ := K4.ne 0 2 rfl rfl (by decide)
          obtain ⟨e255x3, e255y3⟩ := K4.ne 0 6 rfl rfl (by decide)
          obtain ⟨e256x3, e256y3⟩ := K4.ne 0 7 rfl rfl (by decide)
          refine hK.out _ _ ?_ (fun hh3 => ?_)
          · ((try dsimp only); go_keep)
          clear hK K hh2
          (try simp only [Act.put, sit, scz, scs])
          refine wpAnyH_ready (rs := [6, 11]) (by kernel_rfl) (by simp) ?_
          refine AllReadyH.cons (o := ⟨some 102, _, _, _, _, _⟩) rfl (fun K hK => ?_) ?_
          ·
           go_simp
           have im6a := K4.ints.1.ci kz
           have im6b := K4.ints.2.2.2.2.1.ci kb
           (go_at_call 92; (with_reducible refine (rdivMod_at im6a im6b zz2 zb2).mono ?_); rw [HY.out, HYR.out]; rintro e wm3 ⟨E6, l6, k6, E7, l7, k7, rfl, d6, u6, v6, d7, u7, v7, g6⟩)
           (try go_wp2_with fail)
           have K6 := ((K4.call g6).add (CanAt.mk_ d6 u6 v6)).add (CanAt.mk_ d7 u7 v7)
           clear b25x3 b25y3 p0x3 p0y3 p1x3 p1y3 p5x3 p5y3 p6x3 p6y3 f25x3 f25y3 e250x3 e250y3 e251x3 e251y3 e255x3 e255y3 e256x3 e256y3
           obtain ⟨⟨b25x4, b25y4⟩, ⟨p0x4, p0y4⟩, ⟨p1x4, p1y4⟩, _, _, _, ⟨p5x4, p5y4⟩, ⟨p6x4, p6y4⟩, _⟩ := K6.facts
           obtain ⟨f25x4, f25y4⟩ := K6.free (i := 0) rfl
           obtain ⟨e250x4, e250y4⟩ := K6.ne 0 1 rfl rfl (by decide)
           obtain ⟨e251x4, e251y4⟩ := K6.ne 0 2 rfl rfl (by decide)
           obtain ⟨e255x4, e255y4⟩ := K6.ne 0 6 rfl rfl (by decide)
           obtain ⟨e256x4, e256y4⟩ := K6.ne 0 7 rfl rfl (by decide)
           refine hK.out _ _ ?_ (fun hh4 => ?_)
           · ((try dsimp only); go_keep)
           clear hK K hh3
           (try simp only [Act.put, sit, scz, scs])
           refine wpAnyH_take (i := 7) (oi := ⟨some 95, _, _, _, _, _⟩) (v := ?_) rfl (by kernel_rfl) (by kernel_rfl) (by kernel_rfl) (fun _ _ _ h => h) (Or.inl ⟨by rfl, ?_⟩) ‹_› ?_
           rotate_left
           · (intro w' hSw; (try dsimp only at hSw); go_simp; (try with_reducible rfl))
           (try simp only [Act.put, sit, scz, scs])
           refine wpAnyH_take (i := 8) (oi := ⟨some 103, _, _, _, _, _⟩) (v := ?_) rfl (by kernel_rfl) (by kernel_rfl) (by kernel_rfl) (fun _ _ _ h => h) (Or.inl ⟨by rfl, ?_⟩) ‹_› ?_
           rotate_left
           · (intro w' hSw; (try dsimp only at hSw); go_simp; (try with_reducible rfl))
           (try simp only [Act.put, sit, scz, scs])
           refine wpAnyH_take (i := 9) (oi := ⟨some 104, _, _, _, _, _⟩) (v := ?_) rfl (by kernel_rfl) (by kernel_rfl) (by kernel_rfl) (fun _ _ _ h => h) (Or.inl ⟨by rfl, ?_⟩) ‹_› ?_
           rotate_left
           · (intro w' hSw; (try dsimp only at hSw); go_simp; (try with_reducible rfl))
           (try simp only [Act.put, sit, scz, scs])
           refine wpAnyH_take (i := 10) (oi := ⟨some 105, _, _, _, _, _⟩) (v := ?_) rfl (by kernel_rfl) (by kernel_rfl) (by kernel_rfl) (fun _ _ _ h => h) (Or.inl ⟨by rfl, ?_⟩) ‹_› ?_
           rotate_left
           · (intro w' hSw; (try dsimp only at hSw); go_simp; (try with_reducible rfl))
           (try simp only [Act.put, sit, scz, scs])
           refine wpAnyH_ready (rs := [11]) (by kernel_rfl) (by simp) ?_
           refine AllReadyH.cons (o := ⟨some 24, _, _, _, _, _⟩) rfl (fun K hK => ?_) AllReadyH.nil
           go_simp
           have KA11 := K6.new 24 (Plains.two false none 0 0)
           (try simp only [World.size_alloc] at KA11)
           obtain ⟨⟨b24x5, b24y5⟩, ⟨b25x5, b25y5⟩, _⟩ := KA11.facts
           obtain ⟨f24x5, f24y5⟩ := KA11.free (i := 0) rfl
           obtain ⟨e240x5, e240y5⟩ := KA11.ne 0 2 rfl rfl (by decide)
           obtain ⟨e241x5, e241y5⟩ := KA11.ne 0 3 rfl rfl (by decide)
           obtain ⟨e245x5, e245y5⟩ := KA11.ne 0 7 rfl rfl (by decide)
           obtain ⟨e246x5, e246y5⟩ := KA11.ne 0 8 rfl rfl (by decide)
           obtain ⟨f25x5, f25y5⟩ := KA11.free (i := 1) rfl
           obtain ⟨eex5, eey5⟩ := KA11.ne 0 1 rfl rfl (by decide)
           refine hK.out _ _ ?_ (fun hh5 => ?_)
           · ((try dsimp only); go_keep)
           clear hK K hh4
           (try simp only [Act.put, sit, scz, scs])
           refine wpAnyH_ready (rs := [13]) (by kernel_rfl) (by simp) ?_
           refine AllReadyH.cons (o := ⟨none, _, _, _, _, _⟩) rfl (fun K hK => ?_) AllReadyH.nil
           go_simp
           have KS := K6.new 24 (Plains.two (decide (y < 0)) E6 l6 k6)
           (try simp only [World.size_alloc] at KS)
           obtain ⟨⟨b24x6, b24y6⟩, ⟨b25x6, b25y6⟩, _⟩ := KS.facts
           obtain ⟨f24x6, f24y6⟩ := KS.free (i := 0) rfl
           obtain ⟨e240x6, e240y6⟩ := KS.ne 0 2 rfl rfl (by decide)
           obtain ⟨e241x6, e241y6⟩ := KS.ne 0 3 rfl rfl (by decide)
           obtain ⟨e245x6, e245y6⟩ := KS.ne 0 7 rfl rfl (by decide)
           obtain ⟨e246x6, e246y6⟩ := KS.ne 0 8 rfl rfl (by decide)
           obtain ⟨f25x6, f25y6⟩ := KS.free (i := 1) rfl
           obtain ⟨eex6, eey6⟩ := KS.ne 0 1 rfl rfl (by decide)
           refine hK.out _ _ ?_ (fun hh6 => ?_)
           · ((try dsimp only); go_keep)
           clear hK K hh5
           (try simp only [Act.put, sit, scz, scs])
           refine wpAnyH_ready (rs := [14]) (by kernel_rfl) (by simp) ?_
           refine AllReadyH.cons (o := ⟨none, _, _, _, _, _⟩) rfl (fun K hK => ?_) AllReadyH.nil
           go_simp
           refine hK.out _ _ ?_ (fun hh7 => ?_)
           · ((try dsimp only); go_keep)
           clear hK K hh6
           (try simp only [Act.put, sit, scz, scs])
           refine wpAnyH_take (i := 15) (oi := ⟨some 26, _, _, _, _, _⟩) (v := ?_) rfl (by kernel_rfl) (by kernel_rfl) (by kernel_rfl) (fun _ _ _ h => h) (Or.inl ⟨by rfl, ?_⟩) ‹_› ?_
           rotate_left
           · (intro w' hSw; (try dsimp only at hSw); go_simp; (try with_reducible rfl))
           (try simp only [Act.put, sit, scz, scs])
           refine wpAnyH_done (by kernel_rfl) ?_ _
           go_wp2_with fail
           go_meet
           first | (have KF := ((K6.new 24 (Plains.two (decide (y < 0)) E6 l6 k6)).put 1 rfl (decide (yr < 0)) E7 l7 k7); (try simp only [List.set, World.size_alloc, World.size_setCell] at KF); have KG := KF.erase 1; simp only [List.eraseIdx] at KG; exact ⟨_, E6, l6, k6, rfl, KG.ints_ ⟨KG.ints.2.1, KG.ints.2.2.2.2.1, KG.ints.2.2.2.2.2.1, KG.ints.2.2.2.2.2.2.1, KG.ints.2.2.2.2.2.2.2.1, trivial⟩⟩) | (have KF := ((K6.put 0 rfl (decide (yr < 0)) E7 l7 k7).new 24 (Plains.two (decide (y < 0)) E6 l6 k6)); (try simp only [List.set, World.size_alloc, World.size_setCell] at KF); have KG := KF.erase 1; simp only [List.eraseIdx] at KG; exact ⟨_, E6, l6, k6, rfl, KG.ints_ ⟨KG.ints.2.1, KG.ints.2.2.2.2.1, KG.ints.2.2.2.2.2.1, KG.ints.2.2.2.2.2.2.1, KG.ints.2.2.2.2.2.2.2.1, trivial⟩⟩) | (trace_state; fail)
          refine AllReadyH.cons (o := ⟨some 24, _, _, _, _, _⟩) rfl (fun K hK => ?_) AllReadyH.nil
          go_simp
          have KA11 := K4.new 24 (Plains.two false none 0 0)
          (try simp only [World.size_alloc] at KA11)
          obtain ⟨⟨b24x4, b24y4⟩, ⟨b25x4, b25y4⟩, _⟩ := KA11.facts
          obtain ⟨f24x4, f24y4⟩ := KA11.free (i := 0) rfl
          obtain ⟨e240x4, e240y4⟩ := KA11.ne 0 2 rfl rfl (by decide)
          obtain ⟨e241x4, e241y4⟩ := KA11.ne 0 3 rfl rfl (by decide)
          obtain ⟨e245x4, e245y4⟩ := KA11.ne 0 7 rfl rfl (by decide)
          obtain ⟨e246x4, e246y4⟩ := KA11.ne 0 8 rfl rfl (by decide)
          obtain ⟨f25x4, f25y4⟩ := KA11.free (i := 1) rfl
          obtain ⟨eex4, eey4⟩ := KA11.ne 0 1 rfl rfl (by decide)
          refine hK.out _ _ ?_ (fun hh4 => ?_)
          · ((try dsimp only); go_keep)
          clear hK K hh3
          (try simp only [Act.put, sit, scz, scs])
          refine wpAnyH_ready (rs := [6]) (by kernel_rfl) (by simp) ?_
          refine AllReadyH.cons (o := ⟨some 102, _, _, _, _, _⟩) rfl (fun K hK => ?_) AllReadyH.nil
          go_simp
          have im6a := KA11.ints.1.ci kz
          have im6b := KA11.ints.2.2.2.2.1.ci kb
          (go_at_call 92; (with_reducible refine (rdivMod_at im6a im6b zz2 zb2).mono ?_); rw [HY.out, HYR.out]; rintro e wm3 ⟨E6, l6, k6, E7, l7, k7, rfl, d6, u6, v6, d7, u7, v7, g6⟩)
          (try go_wp2_with fail)
          have K6 := ((KA11.call g6).add (CanAt.mk_ d6 u6 v6)).add (CanAt.mk_ d7 u7 v7)
          clear b25x3 b25y3 p0x3 p0y3 p1x3 p1y3 p5x3 p5y3 p6x3 p6y3 f25x3 f25y3 e250x3 e250y3 e251x3 e251y3 e255x3 e255y3 e256x3 e256y3 b24x4 b24y4 b25x4 b25y4 f24x4 f24y4 e240x4 e240y4 e241x4 e241y4 e245x4 e245y4 e246x4 e246y4 f25x4 f25y4 eex4 eey4
          obtain ⟨⟨b24x5, b24y5⟩, ⟨b25x5, b25y5⟩, ⟨p0x5, p0y5⟩, ⟨p1x5, p1y5⟩, _, _, _, ⟨p5x5, p5y5⟩, ⟨p6x5, p6y5⟩, _⟩ := K6.facts
          obtain ⟨f24x5, f24y5⟩ := K6.free (i := 0) rfl
          obtain ⟨e240x5, e240y5⟩ := K6.ne 0 2 rfl rfl (by decide)
          obtain ⟨e241x5, e241y5⟩ := K6.ne 0 3 rfl rfl (by decide)
          obtain ⟨e245x5, e245y5⟩ := K6.ne 0 7 rfl rfl (by decide)
          obtain ⟨e246x5, e246y5⟩ := K6.ne 0 8 rfl rfl (by decide)
          obtain ⟨f25x5, f25y5⟩ := K6.free (i := 1) rfl
          obtain ⟨e250x5, e250y5⟩ := K6.ne 1 2 rfl rfl (by decide)
          obtain ⟨e251x5, e251y5⟩ := K6.ne 1 3 rfl rfl (by decide)
          obtain ⟨e255x5, e255y5⟩ := K6.ne 1 7 rfl rfl (by decide)
          obtain ⟨e256x5, e256y5⟩ := K6.ne 1 8 rfl rfl (by decide)
          obtain ⟨eex5, eey5⟩ := K6.ne 0 1 rfl rfl (by decide)
          refine hK.out _ _ ?_ (fun hh5 => ?_)
          · ((try dsimp only); go_keep)
          clear hK K hh4
          (try simp only [Act.put, sit, scz, scs])
          refine wpAnyH_take (i := 7) (oi := ⟨some 95, _, _, _, _, _⟩) (v := ?_) rfl (by kernel_rfl) (by kernel_rfl) (by kernel_rfl) (fun _ _ _ h => h) (Or.inl ⟨by rfl, ?_⟩) ‹_› ?_
          rotate_left
          · (intro w' hSw; (try dsimp only at hSw); go_simp; (try with_reducible rfl))
          (try simp only [Act.put, sit, scz, scs])
          refine wpAnyH_take (i := 8) (oi := ⟨some 103, _, _, _, _, _⟩) (v := ?_) rfl (by kernel_rfl) (by kernel_rfl) (by kernel_rfl) (fun _ _ _ h => h) (Or.inl ⟨by rfl, ?_⟩) ‹_› ?_
          rotate_left
          · (intro w' hSw; (try dsimp only at hSw); go_simp; (try with_reducible rfl))
          (try simp only [Act.put, sit, scz, scs])
          refine wpAnyH_take (i := 9) (oi := ⟨some 104, _, _, _, _, _⟩) (v := ?_) rfl (by kernel_rfl) (by kernel_rfl) (by kernel_rfl) (fun _ _ _ h => h) (Or.inl ⟨by rfl, ?_⟩) ‹_› ?_
          rotate_left
          · (intro w' hSw; (try dsimp only at hSw); go_simp; (try with_reducible rfl))
          (try simp only [Act.put, sit, scz, scs])
          refine wpAnyH_take (i := 10) (oi := ⟨some 105, _, _, _, _, _⟩) (v := ?_) rfl (by kernel_rfl) (by kernel_rfl) (by kernel_rfl) (fun _ _ _ h => h) (Or.inl ⟨by rfl, ?_⟩) ‹_› ?_
          rotate_left
          · (intro w' hSw; (try dsimp only at hSw); go_simp; (try with_reducible rfl))
          (try simp only [Act.put, sit, scz, scs])
          refine wpAnyH_ready (rs := [13]) (by kernel_rfl) (by simp) ?_
          refine AllReadyH.cons (o := ⟨none, _, _, _, _, _⟩) rfl (fun K hK => ?_) AllReadyH.nil
          go_simp
          refine hK.out _ _ ?_ (fun hh6 => ?_)
          · ((try dsimp only); go_keep)
          clear hK K hh5
          (try simp only [Act.put, sit, scz, scs])
          refine wpAnyH_ready (rs := [14]) (by kernel_rfl) (by simp) ?_
          refine AllReadyH.cons (o := ⟨none, _, _, _, _, _⟩) rfl (fun K hK => ?_) AllReadyH.nil
          go_simp
          refine hK.out _ _ ?_ (fun hh7 => ?_)
          · ((try dsimp only); go_keep)
          clear hK K hh6
          (try simp only [Act.put, sit, scz, scs])
          refine wpAnyH_take (i := 15) (oi := ⟨some 26, _, _, _, _, _⟩) (v := ?_) rfl (by kernel_rfl) (by kernel_rfl) (by kernel_rfl) (fun _ _ _ h => h) (Or.inl ⟨by rfl, ?_⟩) ‹_› ?_
          rotate_left
          · (intro w' hSw; (try dsimp only at hSw); go_simp; (try with_reducible rfl))
          (try simp only [Act.put, sit, scz, scs])
          refine wpAnyH_done (by kernel_rfl) ?_ _
          go_wp2_with fail
          go_meet
          first | (have KF := ((K6.put 0 rfl (decide (y < 0)) E6 l6 k6).put 1 rfl (decide (yr < 0)) E7 l7 k7); (try simp only [List.set, World.size_alloc, World.size_setCell] at KF); have KG := KF.erase 1; simp only [List.eraseIdx] at KG; exact ⟨_, E6, l6, k6, rfl, KG.ints_ ⟨KG.ints.2.1, KG.ints.2.2.2.2.1, KG.ints.2.2.2.2.2.1, KG.ints.2.2.2.2.2.2.1, KG.ints.2.2.2.2.2.2.2.1, trivial⟩⟩) | (have KF := ((K6.put 0 rfl (decide (y < 0)) E6 l6 k6).put 1 rfl (decide (yr < 0)) E7 l7 k7); (try simp only [List.set, World.size_alloc, World.size_setCell] at KF); have KG := KF.erase 1; simp only [List.eraseIdx] at KG; exact ⟨_, E6, l6, k6, rfl, KG.ints_ ⟨KG.ints.2.1, KG.ints.2.2.2.2.1, KG.ints.2.2.2.2.2.1, KG.ints.2.2.2.2.2.2.1, KG.ints.2.2.2.2.2.2.2.1, trivial⟩⟩) | (trace_state; fail)
         refine AllReadyH.cons (o := ⟨some 24, _, _, _, _, _⟩) rfl (fun K hK => ?_) AllReadyH.nil
         go_simp
         have KA11 := KA12.new 24 (Plains.two false none 0 0)
         (try simp only [World.size_alloc] at KA11)
         refine hK.out _ _ ?_ (fun hh3 => ?_)
         · ((try dsimp only); go_keep)
         clear hK K hh2
         (try simp only [Act.put, sit, scz, scs])
         refine wpAnyH_ready (rs := [4]) (by kernel_rfl) (by simp) ?_
         refine AllReadyH.cons (o := ⟨some 100, _, _, _, _, _⟩) rfl (fun K hK => ?_) AllReadyH.nil
         go_simp
         have im4a := KA11.ints.2.2.1.ci kg
         have im4b := KA11.ints.1.ci kt
         (go_at_call 94; (with_reducible refine (rsub_at im4a im4b hng hnt).mono ?_); rw [HZ.out]; rintro e wm2 ⟨E5, l5, k5, rfl, d5, u5, v5, g5⟩)
         (try go_wp2_with fail)
         have K4 := (KA11.call g5).add (CanAt.mk_ d5 u5 v5)
         clear p0x1 p0y1 p1x1 p1y1 p5x1 p5y1 p6x1 p6y1
         obtain ⟨⟨b24x4, b24y4⟩, ⟨b25x4, b25y4⟩, ⟨p0x4, p0y4⟩, ⟨p1x4, p1y4⟩, _, _, _, ⟨p5x4, p5y4⟩, ⟨p6x4, p6y4⟩, _⟩ := K4.facts
         obtain ⟨f24x4, f24y4⟩ := K4.free (i := 0) rfl
         obtain ⟨e240x4, e240y4⟩ := K4.ne 0 2 rfl rfl (by decide)
         obtain ⟨e241x4, e241y4⟩ := K4.ne 0 3 rfl rfl (by decide)
         obtain ⟨e245x4, e245y4⟩ := K4.ne 0 7 rfl rfl (by decide)
         obtain ⟨e246x4, e246y4⟩ := K4.ne 0 8 rfl rfl (by decide)
         obtain ⟨f25x4, f25y4⟩ := K4.free (i := 1) rfl
         obtain ⟨e250x4, e250y4⟩ := K4.ne 1 2 rfl rfl (by decide)
         obtain ⟨e251x4, e251y4⟩ := K4.ne 1 3 rfl rfl (by decide)
         obtain ⟨e255x4, e255y4⟩ := K4.ne 1 7 rfl rfl (by decide)
         obtain ⟨e256x4, e256y4⟩ := K4.ne 1 8 rfl rfl (by decide)
         obtain ⟨eex4, eey4⟩ := K4.ne 0 1 rfl rfl (by decide)
         refine hK.out _ _ ?_ (fun hh4 => ?_)
         · ((try dsimp only); go_keep)
         clear hK K hh3
         (try simp only [Act.put, sit, scz, scs])
         refine wpAnyH_ready (rs := [6]) (by kernel_rfl) (by simp) ?_
         refine AllReadyH.cons (o := ⟨some 102, _, _, _, _, _⟩) rfl (fun K hK => ?_) AllReadyH.nil
         go_simp
         have im6a := K4.ints.1.ci kz
         have im6b := K4.ints.2.2.2.2.1.ci kb
         (go_at_call 92; (with_reducible refine (rdivMod_at im6a im6b zz2 zb2).mono ?_); rw [HY.out, HYR.out]; rintro e wm3 ⟨E6, l6, k6, E7, l7, k7, rfl, d6, u6, v6, d7, u7, v7, g6⟩)
         (try go_wp2_with fail)
         have K6 := ((K4.call g6).add (CanAt.mk_ d6 u6 v6)).add (CanAt.mk_ d7 u7 v7)
         clear b24x4 b24y4 b25x4 b25y4 p0x4 p0y4 p1x4 p1y4 p5x4 p5y4 p6x4 p6y4 f24x4 f24y4 e240x4 e240y4 e241x4 e241y4 e245x4 e245y4 e246x4 e246y4 f25x4 f25y4 e250x4 e250y4 e251x4 e251y4 e255x4 e255y4 e256x4 e256y4 eex4 eey4
         obtain ⟨⟨b24x5, b24y5⟩, ⟨b25x5, b25y5⟩, ⟨p0x5, p0y5⟩, ⟨p1x5, p1y5⟩, _, _, _, ⟨p5x5, p5y5⟩, ⟨p6x5, p6y5⟩, _⟩ := K6.facts
         obtain ⟨f24x5, f24y5⟩ := K6.free (i := 0) rfl
         obtain ⟨e240x5, e240y5⟩ := K6.ne 0 2 rfl rfl (by decide)
         obtain ⟨e241x5, e241y5⟩ := K6.ne 0 3 rfl rfl (by decide)
         obtain ⟨e245x5, e245y5⟩ := K6.ne 0 7 rfl rfl (by decide)
         obtain ⟨e246x5, e246y5⟩ := K6.ne 0 8 rfl rfl (by decide)
         obtain ⟨f25x5, f25y5⟩ := K6.free (i := 1) rfl
         obtain ⟨e250x5, e250y5⟩ := K6.ne 1 2 rfl rfl (by decide)
         obtain ⟨e251x5, e251y5⟩ := K6.ne 1 3 rfl rfl (by decide)
         obtain ⟨e255x5, e255y5⟩ := K6.ne 1 7 rfl rfl (by decide)
         obtain ⟨e256x5, e256y5⟩ := K6.ne 1 8 rfl rfl (by decide)
         obtain ⟨eex5, eey5⟩ := K6.ne 0 1 rfl rfl (by decide)
         refine hK.out _ _ ?_ (fun hh5 => ?_)
         · ((try dsimp only); go_keep)
         clear hK K hh4
         (try simp only [Act.put, sit, scz, scs])
         refine wpAnyH_take (i := 7) (oi := ⟨some 95, _, _, _, _, _⟩) (v := ?_) rfl (by kernel_rfl) (by kernel_rfl) (by kernel_rfl) (fun _ _ _ h => h) (Or.inl ⟨by rfl, ?_⟩) ‹_› ?_
         rotate_left
         · (intro w' hSw; (try dsimp only at hSw); go_simp; (try with_reducible rfl))
         (try simp only [Act.put, sit, scz, scs])
         refine wpAnyH_take (i := 8) (oi := ⟨some 103, _, _, _, _, _⟩) (v := ?_) rfl (by kernel_rfl) (by kernel_rfl) (by kernel_rfl) (fun _ _ _ h => h) (Or.inl ⟨by rfl, ?_⟩) ‹_› ?_
         rotate_left
         · (intro w' hSw; (try dsimp only at hSw); go_simp; (try with_reducible rfl))
         (try simp only [Act.put, sit, scz, scs])
         refine wpAnyH_take (i := 9) (oi := ⟨some 104, _, _, _, _, _⟩) (v := ?_) rfl (by kernel_rfl) (by kernel_rfl) (by kernel_rfl) (fun _ _ _ h => h) (Or.inl ⟨by rfl, ?_⟩) ‹_› ?_
         rotate_left
         · (intro w' hSw; (try dsimp only at hSw); go_simp; (try with_reducible rfl))
         (try simp only [Act.put, sit, scz, scs])
         refine wpAnyH_take (i := 10) (oi := ⟨some 105, _, _, _, _, _⟩) (v := ?_) rfl (by kernel_rfl) (by kernel_rfl) (by kernel_rfl) (fun _ _ _ h => h) (Or.inl ⟨by rfl, ?_⟩) ‹_› ?_
         rotate_left
         · (intro w' hSw; (try dsimp only at hSw); go_simp; (try with_reducible rfl))
         (try simp only [Act.put, sit, scz, scs])
         refine wpAnyH_ready (rs := [13]) (by kernel_rfl) (by simp) ?_
         refine AllReadyH.cons (o := ⟨none, _, _, _, _, _⟩) rfl (fun K hK => ?_) AllReadyH.nil
         go_simp
         refine hK.out _ _ ?_ (fun hh6 => ?_)
         · ((try dsimp only); go_keep)
         clear hK K hh5
         (try simp only [Act.put, sit, scz, scs])
         refine wpAnyH_ready (rs := [14]) (by kernel_rfl) (by simp) ?_
         refine AllReadyH.cons (o := ⟨none, _, _, _, _, _⟩) rfl (fun K hK => ?_) AllReadyH.nil
         go_simp
         refine hK.out _ _ ?_ (fun hh7 => ?_)
         · ((try dsimp only); go_keep)
         clear hK K hh6
         (try simp only [Act.put, sit, scz, scs])
         refine wpAnyH_take (i := 15) (oi := ⟨some 26, _, _, _, _, _⟩) (v := ?_) rfl (by kernel_rfl) (by kernel_rfl) (by kernel_rfl) (fun _ _ _ h => h) (Or.inl ⟨by rfl, ?_⟩) ‹_› ?_
         rotate_left
         · (intro w' hSw; (try dsimp only at hSw); go_simp; (try with_reducible rfl))
         (try simp only [Act.put, sit, scz, scs])
         refine wpAnyH_done (by kernel_rfl) ?_ _
         go_wp2_with fail
         go_meet
         first | (have KF := ((K6.put 0 rfl (decide (y < 0)) E6 l6 k6).put 1 rfl (decide (yr < 0)) E7 l7 k7); (try simp only [List.set, World.size_alloc, World.size_setCell] at KF); have KG := KF.erase 1; simp only [List.eraseIdx] at KG; exact ⟨_, E6, l6, k6, rfl, KG.ints_ ⟨KG.ints.2.1, KG.ints.2.2.2.2.1, KG.ints.2.2.2.2.2.1, KG.ints.2.2.2.2.2.2.1, KG.ints.2.2.2.2.2.2.2.1, trivial⟩⟩) | (have KF := ((K6.put 0 rfl (decide (y < 0)) E6 l6 k6).put 1 rfl (decide (yr < 0)) E7 l7 k7); (try simp only [List.set, World.size_alloc, World.size_setCell] at KF); have KG := KF.erase 1; simp only [List.eraseIdx] at KG; exact ⟨_, E6, l6, k6, rfl, KG.ints_ ⟨KG.ints.2.1, KG.ints.2.2.2.2.1, KG.ints.2.2.2.2.2.1, KG.ints.2.2.2.2.2.2.1, KG.ints.2.2.2.2.2.2.2.1, trivial⟩⟩) | (trace_state; fail)
        refine AllReadyH.cons (o := ⟨some 24, _, _, _, _, _⟩) rfl (fun K hK => ?_) ?_
        ·
         go_simp
         have KA11 := K3.new 24 (Plains.two false none 0 0)
         (try simp only [World.size_alloc] at KA11)
         refine hK.out _ _ ?_ (fun hh1 => ?_)
         · ((try dsimp only); go_keep)
         clear hK K hh0
         (try simp only [Act.put, sit, scz, scs])
         refine wpAnyH_ready (rs := [3, 12]) (by kernel_rfl) (by simp) ?_
         refine AllReadyH.cons (o := ⟨some 99, _, _, _, _, _⟩) rfl (fun K hK => ?_) ?_
         ·
          go_simp
          have im3a := KA11.drew.ints.2.2.2.1.ci ka
          have im3b := KA11.drew.ints.1.ci kx
          (go_at_call 95; (with_reducible refine (rmul_at im3a im3b hna hnx).mono ?_); rw [HT.out]; rintro e wm1 ⟨E4, l4, k4, rfl, d4, u4, v4, g4⟩)
          have hnt : l4 ≤ 100000 := (by rw [← d4.len]; exact zt.len2)
          (try go_wp2_with fail)
          have K3 := (KA11.drew.call g4).add (CanAt.mk_ d4 u4 v4)
          clear p0 p1 p2 p3 p4 p5 p6 p7
          obtain ⟨⟨b24x2, b24y2⟩, ⟨p0x2, p0y2⟩, ⟨p1x2, p1y2⟩, _, _, _, ⟨p5x2, p5y2⟩, ⟨p6x2, p6y2⟩, _⟩ := K3.facts
          obtain ⟨f24x2, f24y2⟩ := K3.free (i := 0) rfl
          obtain ⟨e240x2, e240y2⟩ := K3.ne 0 1 rfl rfl (by decide)
          obtain ⟨e241x2, e241y2⟩ := K3.ne 0 2 rfl rfl (by decide)
          obtain ⟨e245x2, e245y2⟩ := K3.ne 0 6 rfl rfl (by decide)
          obtain ⟨e246x2, e246y2⟩ := K3.ne 0 7 rfl rfl (by decide)
          refine hK.out _ _ ?_ (fun hh2 => ?_)
          · ((try dsimp only); go_keep)
          clear hK K hh1
          (try simp only [Act.put, sit, scz, scs])
          refine wpAnyH_ready (rs := [4, 12]) (by kernel_rfl) (by simp) ?_
          refine AllReadyH.cons (o := ⟨some 100, _, _, _, _, _⟩) rfl (fun K hK => ?_) ?_
          ·
           go_simp
           have im4a := K3.ints.2.2.1.ci kg
           have im4b := K3.ints.1.ci kt
           (go_at_call 94; (with_reducible refine (rsub_at im4a im4b hng hnt).mono ?_); rw [HZ.out]; rintro e wm2 ⟨E5, l5, k5, rfl, d5, u5, v5, g5⟩)
           (try go_wp2_with fail)
           have K4 := (K3.call g5).add (CanAt.mk_ d5 u5 v5)
           clear b24x2 b24y2 p0x2 p0y2 p1x2 p1y2 p5x2 p5y2 p6x2 p6y2 f24x2 f24y2 e240x2 e240y2 e241x2 e241y2 e245x2 e245y2 e246x2 e246y2
           obtain ⟨⟨b24x3, b24y3⟩, ⟨p0x3, p0y3⟩, ⟨p1x3, p1y3⟩, _, _, _, ⟨p5x3, p5y3⟩, ⟨p6x3, p6y3⟩, _⟩ := K4.facts
           obtain ⟨f24x3, f24y3⟩ := K4.free (i := 0) rfl
           obtain ⟨e240x3, e240y3⟩ := K4.ne 0 1 rfl rfl (by decide)
           obtain ⟨e241x3, e241y3⟩ := K4.ne 0 2 rfl rfl (by decide)
           obtain ⟨e245x3, e245y3⟩ := K4.ne 0 6 rfl rfl (by decide)
           obtain ⟨e246x3, e246y3⟩ := K4.ne 0 7 rfl rfl (by decide)
           refine hK.out _ _ ?_ (fun hh3 => ?_)
           · ((try dsimp only); go_keep)
           clear hK K hh2
           (try simp only [Act.put, sit, scz, scs])
           refine wpAnyH_ready (rs := [6, 12]) (by kernel_rfl) (by simp) ?_
           refine AllReadyH.cons (o := ⟨some 102, _, _, _, _, _⟩) rfl (fun K hK => ?_) ?_
           ·
            go_simp
            have im6a := K4.ints.1.ci kz
            have im6b := K4.ints.2.2.2.2.1.ci kb
            (go_at_call 92; (with_reducible refine (rdivMod_at im6a im6b zz2 zb2).mono ?_); rw [HY.out, HYR.out]; rintro e wm3 ⟨E6, l6, k6, E7, l7, k7, rfl, d6, u6, v6, d7, u7, v7, g6⟩)
            (try go_wp2_with fail)
            have K6 := ((K4.call g6).add (CanAt.mk_ d6 u6 v6)).add (CanAt.mk_ d7 u7 v7)
            clear b24x3 b24y3 p0x3 p0y3 p1x3 p1y3 p5x3 p5y3 p6x3 p6y3 f24x3 f24y3 e240x3 e240y3 e241x3 e241y3 e245x3 e245y3 e246x3 e246y3
            obtain ⟨⟨b24x4, b24y4⟩, ⟨p0x4, p0y4⟩, ⟨p1x4, p1y4⟩, _, _, _, ⟨p5x4, p5y4⟩, ⟨p6x4, p6y4⟩, _⟩ := K6.facts
            obtain ⟨f24x4, f24y4⟩ := K6.free (i := 0) rfl
            obtain ⟨e240x4, e240y4⟩ := K6.ne 0 1 rfl rfl (by decide)
            obtain ⟨e241x4, e241y4⟩ := K6.ne 0 2 rfl rfl (by decide)
            obtain ⟨e245x4, e245y4⟩ := K6.ne 0 6 rfl rfl (by decide)
            obtain ⟨e246x4, e246y4⟩ := K6.ne 0 7 rfl rfl (by decide)
            refine hK.out _ _ ?_ (fun hh4 => ?_)
            · ((try dsimp only); go_keep)
            clear hK K hh3
            (try simp only [Act.put, sit, scz, scs])
            refine wpAnyH_take (i := 7) (oi := ⟨some 95, _, _, _, _, _⟩) (v := ?_) rfl (by kernel_rfl) (by kernel_rfl) (by kernel_rfl) (fun _ _ _ h => h) (Or.inl ⟨by rfl, ?_⟩) ‹_› ?_
            rotate_left
            · (intro w' hSw; (try dsimp only at hSw); go_simp; (try with_reducible rfl))
            (try simp only [Act.put, sit, scz, scs])
            refine wpAnyH_take (i := 8) (oi := ⟨some 103, _, _, _, _, _⟩) (v := ?_) rfl (by kernel_rfl) (by kernel_rfl) (by kernel_rfl) (fun _ _ _ h => h) (Or.inl ⟨by rfl, ?_⟩) ‹_› ?_
            rotate_left
            · (intro w' hSw; (try dsimp only at hSw); go_simp; (try with_reducible rfl))
            (try simp only [Act.put, sit, scz, scs])
            refine wpAnyH_take (i := 9) (oi := ⟨some 104, _, _, _, _, _⟩) (v := ?_) rfl (by kernel_rfl) (by kernel_rfl) (by kernel_rfl) (fun _ _ _ h => h) (Or.inl ⟨by rfl, ?_⟩) ‹_› ?_
            rotate_left
            · (intro w' hSw; (try dsimp only at hSw); go_simp; (try with_reducible rfl))
            (try simp only [Act.put, sit, scz, scs])
            refine wpAnyH_take (i := 10) (oi := ⟨some 105, _, _, _, _, _⟩) (v := ?_) rfl (by kernel_rfl) (by kernel_rfl) (by kernel_rfl) (fun _ _ _ h => h) (Or.inl ⟨by rfl, ?_⟩) ‹_› ?_
            rotate_left
            · (intro w' hSw; (try dsimp only at hSw); go_simp; (try with_reducible rfl))
            (try simp only [Act.put, sit, scz, scs])
            refine wpAnyH_ready (rs := [12]) (by kernel_rfl) (by simp) ?_
            refine AllReadyH.cons (o := ⟨some 25, _, _, _, _, _⟩) rfl (fun K hK => ?_) AllReadyH.nil
            go_simp
            have KA12 := K6.new 24 (Plains.two false none 0 0)
            (try simp only [World.size_alloc] at KA12)
            obtain ⟨⟨b25x5, b25y5⟩, ⟨b24x5, b24y5⟩, _⟩ := KA12.facts
            obtain ⟨f25x5, f25y5⟩ := KA12.free (i := 0) rfl
            obtain ⟨e250x5, e250y5⟩ := KA12.ne 0 2 rfl rfl (by decide)
            obtain ⟨e251x5, e251y5⟩ := KA12.ne 0 3 rfl rfl (by decide)
            obtain ⟨e255x5, e255y5⟩ := KA12.ne 0 7 rfl rfl (by decide)
            obtain ⟨e256x5, e256y5⟩ := KA12.ne 0 8 rfl rfl (by decide)
            obtain ⟨f24x5, f24y5⟩ := KA12.free (i := 1) rfl
            obtain ⟨eex5, eey5⟩ := KA12.ne 0 1 rfl rfl (by decide)
            refine hK.out _ _ ?_ (fun hh5 => ?_)
            · ((try dsimp only); go_keep)
            clear hK K hh4
            (try simp only [Act.put, sit, scz, scs])
            refine wpAnyH_ready (rs := [13]) (by kernel_rfl) (by simp) ?_
            refine AllReadyH.cons (o := ⟨none, _, _, _, _, _⟩) rfl (fun K hK => ?_) AllReadyH.nil
            go_simp
            refine hK.out _ _ ?_ (fun hh6 => ?_)
            · ((try dsimp only); go_keep)
            clear hK K hh5
            (try simp only [Act.put, sit, scz, scs])
            refine wpAnyH_ready (rs := [14]) (by kernel_rfl) (by simp) ?_
            refine AllReadyH.cons (o := ⟨none, _, _, _, _, _⟩) rfl (fun K hK => ?_) AllReadyH.nil
            go_simp
            refine hK.out _ _ ?_ (fun hh7 => ?_)
            · ((try dsimp only); go_keep)
            clear hK K hh6
            (try simp only [Act.put, sit, scz, scs])
            refine wpAnyH_take (i := 15) (oi := ⟨some 26, _, _, _, _, _⟩) (v := ?_) rfl (by kernel_rfl) (by kernel_rfl) (by kernel_rfl) (fun _ _ _ h => h) (Or.inl ⟨by rfl, ?_⟩) ‹_› ?_
            rotate_left
            · (intro w' hSw; (try dsimp only at hSw); go_simp; (try with_reducible rfl))
            (try simp only [Act.put, sit, scz, scs])
            refine wpAnyH_done (by kernel_rfl) ?_ _
            go_wp2_with fail
            go_meet
            first | (have KF := (((K6.new 24 (Plains.two false none 0 0)).put 1 rfl (decide (y < 0)) E6 l6 k6).put 0 rfl (decide (yr < 0)) E7 l7 k7); (try simp only [List.set, World.size_alloc, World.size_setCell] at KF); have KG := KF.erase 0; simp only [List.eraseIdx] at KG; exact ⟨_, E6, l6, k6, rfl, KG.ints_ ⟨KG.ints.2.1, KG.ints.2.2.2.2.1, KG.ints.2.2.2.2.2.1, KG.ints.2.2.2.2.2.2.1, KG.ints.2.2.2.2.2.2.2.1, trivial⟩⟩) | (trace_state; fail)
           refine AllReadyH.cons (o := ⟨some 25, _, _, _, _, _⟩) rfl (fun K hK => ?_) AllReadyH.nil
           go_simp
           have KA12 := K4.new 24 (Plains.two false none 0 0)
           (try simp only [World.size_alloc] at KA12)
           obtain ⟨⟨b25x4, b25y4⟩, ⟨b24x4, b24y4⟩, _⟩ := KA12.facts
           obtain ⟨f25x4, f25y4⟩ := KA12.free (i := 0) rfl
           obtain ⟨e250x4, e250y4⟩ := KA12.ne 0 2 rfl rfl (by decide)
           obtain ⟨e251x4, e251y4⟩ := KA12.ne 0 3 rfl rfl (by decide)
           obtain ⟨e255x4, e255y4⟩ := KA12.ne 0 7 rfl rfl (by decide)
           obtain ⟨e256x4, e256y4⟩ := KA12.ne 0 8 rfl rfl (by decide)
           obtain ⟨f24x4, f24y4⟩ := KA12.free (i := 1) rfl
           obtain ⟨eex4, eey4⟩ := KA12.ne 0 1 rfl rfl (by decide)
           refine hK.out _ _ ?_ (fun hh4 => ?_)
           · ((try dsimp only); go_keep)
           clear hK K hh3
           (try simp only [Act.put, sit, scz, scs])
           refine wpAnyH_ready (rs := [6]) (by kernel_rfl) (by simp) ?_
           refine AllReadyH.cons (o := ⟨some 102, _, _, _, _, _⟩) rfl (fun K hK => ?_) AllReadyH.nil
           go_simp
           have im6a := KA12.ints.1.ci kz
           have im6b := KA12.ints.2.2.2.2.1.ci kb
           (go_at_call 92; (with_reducible refine (rdivMod_at im6a im6b zz2 zb2).mono ?_); rw [HY.out, HYR.out]; rintro e wm3 ⟨E6, l6, k6, E7, l7, k7, rfl, d6, u6, v6, d7, u7, v7, g6⟩)
           (try go_wp2_with fail)
           have K6 := ((KA12.call g6).add (CanAt.mk_ d6 u6 v6)).add (CanAt.mk_ d7 u7 v7)
           clear b24x3 b24y3 p0x3 p0y3 p1x3 p1y3 p5x3 p5y3 p6x3 p6y3 f24x3 f24y3 e240x3 e240y3 e241x3 e241y3 e245x3 e245y3 e246x3 e246y3 b25x4 b25y4 b24x4 b24y4 f25x4 f25y4 e250x4 e250y4 e251x4 e251y4 e255x4 e255y4 e256x4 e256y4 f24x4 f24y4 eex4 eey4
           obtain ⟨⟨b25x5, b25y5⟩, ⟨b24x5, b24y5⟩, ⟨p0x5, p0y5⟩, ⟨p1x5, p1y5⟩, _, _, _, ⟨p5x5, p5y5⟩, ⟨p6x5, p6y5⟩, _⟩ := K6.facts
           obtain ⟨f25x5, f25y5⟩ := K6.free (i := 0) rfl
           obtain ⟨e250x5, e250y5⟩ := K6.ne 0 2 rfl rfl (by decide)
           obtain ⟨e251x5, e251y5⟩ := K6.ne 0 3 rfl rfl (by decide)
           obtain ⟨e255x5, e255y5⟩ := K6.ne 0 7 rfl rfl (by decide)
           obtain ⟨e256x5, e256y5⟩ := K6.ne 0 8 rfl rfl (by decide)
           obtain ⟨f24x5, f24y5⟩ := K6.free (i := 1) rfl
           obtain ⟨e240x5, e240y5⟩ := K6.ne 1 2 rfl rfl (by decide)
           obtain ⟨e241x5, e241y5⟩ := K6.ne 1 3 rfl rfl (by decide)
           obtain ⟨e245x5, e245y5⟩ := K6.ne 1 7 rfl rfl (by decide)
           obtain ⟨e246x5, e246y5⟩ := K6.ne 1 8 rfl rfl (by decide)
           obtain ⟨eex5, eey5⟩ := K6.ne 0 1 rfl rfl (by decide)
           refine hK.out _ _ ?_ (fun hh5 => ?_)
           · ((try dsimp only); go_keep)
           clear hK K hh4
           (try simp only [Act.put, sit, scz, scs])
           refine wpAnyH_take (i := 7) (oi := ⟨some 95, _, _, _, _, _⟩) (v := ?_) rfl (by kernel_rfl) (by kernel_rfl) (by kernel_rfl) (fun _ _ _ h => h) (Or.inl ⟨by rfl, ?_⟩) ‹_› ?_
           rotate_left
           · (intro w' hSw; (try dsimp only at hSw); go_simp; (try with_reducible rfl))
           (try simp only [Act.put, sit, scz, scs])
           refine wpAnyH_take (i := 8) (oi := ⟨some 103, _, _, _, _, _⟩) (v := ?_) rfl (by kernel_rfl) (by kernel_rfl) (by kernel_rfl) (fun _ _ _ h => h) (Or.inl ⟨by rfl, ?_⟩) ‹_› ?_
           rotate_left
           · (intro w' hSw; (try dsimp only at hSw); go_simp; (try with_reducible rfl))
           (try simp only [Act.put, sit, scz, scs])
           refine wpAnyH_take (i := 9) (oi := ⟨some 104, _, _, _, _, _⟩) (v := ?_) rfl (by kernel_rfl) (by kernel_rfl) (by kernel_rfl) (fun _ _ _ h => h) (Or.inl ⟨by rfl, ?_⟩) ‹_› ?_
           rotate_left
           · (intro w' hSw; (try dsimp only at hSw); go_simp; (try with_reducible rfl))
           (try simp only [Act.put, sit, scz, scs])
           refine wpAnyH_take (i := 10) (oi := ⟨some 105, _, _, _, _, _⟩) (v := ?_) rfl (by kernel_rfl) (by kernel_rfl) (by kernel_rfl) (fun _ _ _ h => h) (Or.inl ⟨by rfl, ?_⟩) ‹_› ?_
           rotate_left
           · (intro w' hSw; (try dsimp only at hSw); go_simp; (try with_reducible rfl))
           (try simp only [Act.put, sit, scz, scs])
           refine wpAnyH_ready (rs := [13]) (by kernel_rfl) (by simp) ?_
           refine AllReadyH.cons (o := ⟨none, _, _, _, _, _⟩) rfl (fun K hK => ?_) AllReadyH.nil
           go_simp
           refine hK.out _ _ ?_ (fun hh6 => ?_)
           · ((try dsimp only); go_keep)
           clear hK K hh5
           (try simp only [Act.put, sit, scz, scs])
           refine wpAnyH_ready (rs := [14]) (by kernel_rfl) (by simp) ?_
           refine AllReadyH.cons (o := ⟨none, _, _, _, _, _⟩) rfl (fun K hK => ?_) AllReadyH.nil
           go_simp
           refine hK.out _ _ ?_ (fun hh7 => ?_)
           · ((try dsimp only); go_keep)
           clear hK K hh6
           (try simp only [Act.put, sit, scz, scs])
           refine wpAnyH_take (i := 15) (oi := ⟨some 26, _, _, _, _, _⟩) (v := ?_) rfl (by kernel_rfl) (by kernel_rfl) (by kernel_rfl) (fun _ _ _ h => h) (Or.inl ⟨by rfl, ?_⟩) ‹_› ?_
           rotate_left
           · (intro w' hSw; (try dsimp only at hSw); go_simp; (try with_reducible rfl))
           (try simp only [Act.put, sit, scz, scs])
           refine wpAnyH_done (by kernel_rfl) ?_ _
           go_wp2_with fail
           go_meet
           first | (have KF := ((K6.put 1 rfl (decide (y < 0)) E6 l6 k6).put 0 rfl (decide (yr < 0)) E7 l7 k7); (try simp only [List.set, World.size_alloc, World.size_setCell] at KF); have KG := KF.erase 0; simp only [List.eraseIdx] at KG; exact ⟨_, E6, l6, k6, rfl, KG.ints_ ⟨KG.ints.2.1, KG.ints.2.2.2.2.1, KG.ints.2.2.2.2.2.1, KG.ints.2.2.2.2.2.2.1, KG.ints.2.2.2.2.2.2.2.1, trivial⟩⟩) | (have KF := ((K6.put 1 rfl (decide (y < 0)) E6 l6 k6).put 0 rfl (decide (yr < 0)) E7 l7 k7); (try simp only [List.set, World.size_alloc, World.size_setCell] at KF); have KG := KF.erase 0; simp only [List.eraseIdx] at KG; exact ⟨_, E6, l6, k6, rfl, KG.ints_ ⟨KG.ints.2.1, KG.ints.2.2.2.2.1, KG.ints.2.2.2.2.2.1, KG.ints.2.2.2.2.2.2.1, KG.ints.2.2.2.2.2.2.2.1, trivial⟩⟩) | (trace_state; fail)
          refine AllReadyH.cons (o := ⟨some 25, _, _, _, _, _⟩) rfl (fun K hK => ?_) AllReadyH.nil
          go_simp
          have KA12 := K3.new 24 (Plains.two false none 0 0)
          (try simp only [World.size_alloc] at KA12)
          obtain ⟨⟨b25x3, b25y3⟩, ⟨b24x3, b24y3⟩, _⟩ := KA12.facts
          obtain ⟨f25x3, f25y3⟩ := KA12.free (i := 0) rfl
          obtain ⟨e250x3, e250y3⟩ := KA12.ne 0 2 rfl rfl (by decide)
          obtain ⟨e251x3, e251y3⟩ := KA12.ne 0 3 rfl rfl (by decide)
          obtain ⟨e255x3, e255y3⟩ := KA12.ne 0 7 rfl rfl (by decide)
          obtain ⟨e256x3, e256y3⟩ := KA12.ne 0 8 rfl rfl (by decide)
          obtain ⟨f24x3, f24y3⟩ := KA12.free (i := 1) rfl
          obtain ⟨eex3, eey3⟩ := KA12.ne 0 1 rfl rfl (by decide)
          refine hK.out _ _ ?_ (fun hh3 => ?_)
          · ((try dsimp only); go_keep)
          clear hK K hh2
          (try simp only [Act.put, sit, scz, scs])
          refine wpAnyH_ready (rs := [4]) (by kernel_rfl) (by simp) ?_
          refine AllReadyH.cons (o := ⟨some 100, _, _, _, _, _⟩) rfl (fun K hK => ?_) AllReadyH.nil
          go_simp
          have im4a := KA12.ints.2.2.1.ci kg
          have im4b := KA12.ints.1.ci kt
          (go_at_call 94; (with_reducible refine (rsub_at im4a im4b hng hnt).mono ?_); rw [HZ.out]; rintro e wm2 ⟨E5, l5, k5, rfl, d5, u5, v5, g5⟩)
          (try go_wp2_with fail)
          have K4 := (KA12.call g5).add (CanAt.mk_ d5 u5 v5)
          clear b24x2 b24y2 p0x2 p0y2 p1x2 p1y2 p5x2 p5y2 p6x2 p6y2 f24x2 f24y2 e240x2 e240y2 e241x2 e241y2 e245x2 e245y2 e246x2 e246y2 b25x3 b25y3 b24x3 b24y3 f25x3 f25y3 e250x3 e250y3 e251x3 e251y3 e255x3 e255y3 e256x3 e256y3 f24x3 f24y3 eex3 eey3
          obtain ⟨⟨b25x4, b25y4⟩, ⟨b24x4, b24y4⟩, ⟨p0x4, p0y4⟩, ⟨p1x4, p1y4⟩, _, _, _, ⟨p5x4, p5y4⟩, ⟨p6x4, p6y4⟩, _⟩ := K4.facts
          obtain ⟨f25x4, f25y4⟩ := K4.free (i := 0) rfl
          obtain ⟨e250x4, e250y4⟩ := K4.ne 0 2 rfl rfl (by decide)
          obtain ⟨e251x4, e251y4⟩ := K4.ne 0 3 rfl rfl (by decide)
          obtain ⟨e255x4, e255y4⟩ := K4.ne 0 7 rfl rfl (by decide)
          obtain ⟨e256x4, e256y4⟩ := K4.ne 0 8 rfl rfl (by decide)
          obtain ⟨f24x4, f24y4⟩ := K4.free (i := 1) rfl
          obtain ⟨e240x4, e240y4⟩ := K4.ne 1 2 rfl rfl (by decide)
          obtain ⟨e241x4, e241y4⟩ := K4.ne 1 3 rfl rfl (by decide)
          obtain ⟨e245x4, e245y4⟩ := K4.ne 1 7 rfl rfl (by decide)
          obtain ⟨e246x4, e246y4⟩ := K4.ne 1 8 rfl rfl (by decide)
          obtain ⟨eex4, eey4⟩ := K4.ne 0 1 rfl rfl (by decide)
          refine hK.out _ _ ?_ (fun hh4 => ?_)
          · ((try dsimp only); go_keep)
          clear hK K hh3
          (try simp only [Act.put, sit, scz, scs])
          refine wpAnyH_ready (rs := [6]) (by kernel_rfl) (by simp) ?_
          refine AllReadyH.cons (o := ⟨some 102, _, _, _, _, _⟩) rfl (fun K hK => ?_) AllReadyH.nil
          go_simp
          have im6a := K4.ints.1.ci kz
          have im6b := K4.ints.2.2.2.2.1.ci kb
          (go_at_call 92; (with_reducible refine (rdivMod_at im6a im6b zz2 zb2).mono ?_); rw [HY.out, HYR.out]; rintro e wm3 ⟨E6, l6, k6, E7, l7, k7, rfl, d6, u6, v6, d7, u7, v7, g6⟩)
          (try go_wp2_with fail)
          have K6 := ((K4.call g6).add (CanAt.mk_ d6 u6 v6)).add (CanAt.mk_ d7 u7 v7)
          clear b25x4 b25y4 b24x4 b24y4 p0x4 p0y4 p1x4 p1y4 p5x4 p5y4 p6x4 p6y4 f25x4 f25y4 e250x4 e250y4 e251x4 e251y4 e255x4 e255y4 e256x4 e256y4 f24x4 f24y4 e240x4 e240y4 e241x4 e241y4 e245x4 e245y4 e246x4 e246y4 eex4 eey4
          obtain ⟨⟨b25x5, b25y5⟩, ⟨b24x5, b24y5⟩, ⟨p0x5, p0y5⟩, ⟨p1x5, p1y5⟩, _, _, _, ⟨p5x5, p5y5⟩, ⟨p6x5, p6y5⟩, _⟩ := K6.facts
          obtain ⟨f25x5, f25y5⟩ := K6.free (i := 0) rfl
          obtain ⟨e250x5, e250y5⟩ := K6.ne 0 2 rfl rfl (by decide)
          obtain ⟨e251x5, e251y5⟩ := K6.ne 0 3 rfl rfl (by decide)
          obtain ⟨e255x5, e255y5⟩ := K6.ne 0 7 rfl rfl (by decide)
          obtain ⟨e256x5, e256y5⟩ := K6.ne 0 8 rfl rfl (by decide)
          obtain ⟨f24x5, f24y5⟩ := K6.free (i := 1) rfl
          obtain ⟨e240x5, e240y5⟩ := K6.ne 1 2 rfl rfl (by decide)
          obtain ⟨e241x5, e241y5⟩ := K6.ne 1 3 rfl rfl (by decide)
          obtain ⟨e245x5, e245y5⟩ := K6.ne 1 7 rfl rfl (by decide)
          obtain ⟨e246x5, e246y5⟩ := K6.ne 1 8 rfl rfl (by decide)
          obtain ⟨eex5, eey5⟩ := K6.ne 0 1 rfl rfl (by decide)
          refine hK.out _ _ ?_ (fun hh5 => ?_)
          · ((try dsimp only); go_keep)
          clear hK K hh4
          (try simp only [Act.put, sit, scz, scs])
          refine wpAnyH_take (i := 7) (oi := ⟨some 95, _, _, _, _, _⟩) (v := ?_) rfl (by kernel_rfl) (by kernel_rfl) (by kernel_rfl) (fun _ _ _ h => h) (Or.inl ⟨by rfl, ?_⟩) ‹_› ?_
          rotate_left
          · (intro w' hSw; (try dsimp only at hSw); go_simp; (try with_reducible rfl))
          (try simp only [Act.put, sit, scz, scs])
          refine wpAnyH_take (i := 8) (oi := ⟨some 103, _, _, _, _, _⟩) (v := ?_) rfl (by kernel_rfl) (by kernel_rfl) (by kernel_rfl) (fun _ _ _ h => h) (Or.inl ⟨by rfl, ?_⟩) ‹_› ?_
          rotate_left
          · (intro w' hSw; (try dsimp only at hSw); go_simp; (try with_reducible rfl))
          (try simp only [Act.put, sit, scz, scs])
          refine wpAnyH_take (i := 9) (oi := ⟨some 104, _, _, _, _, _⟩) (v := ?_) rfl (by kernel_rfl) (by kernel_rfl) (by kernel_rfl) (fun _ _ _ h => h) (Or.inl ⟨by rfl, ?_⟩) ‹_› ?_
          rotate_left
          · (intro w' hSw; (try dsimp only at hSw); go_simp; (try with_reducible rfl))
          (try simp only [Act.put, sit, scz, scs])
          refine wpAnyH_take (i := 10) (oi := ⟨some 105, _, _, _, _, _⟩) (v := ?_) rfl (by kernel_rfl) (by kernel_rfl) (by kernel_rfl) (fun _ _ _ h => h) (Or.inl ⟨by rfl, ?_⟩) ‹_› ?_
          rotate_left
          · (intro w' hSw; (try dsimp only at hSw); go_simp; (try with_reducible rfl))
          (try simp only [Act.put, sit, scz, scs])
          refine wpAnyH_ready (rs := [13]) (by kernel_rfl) (by simp) ?_
          refine AllReadyH.cons (o := ⟨none, _, _, _, _, _⟩) rfl (fun K hK => ?_) AllReadyH.nil
          go_simp
          refine hK.out _ _ ?_ (fun hh6 => ?_)
          · ((try dsimp only); go_keep)
          clear hK K hh5
          (try simp only [Act.put, sit, scz, scs])
          refine wpAnyH_ready (rs := [14]) (by kernel_rfl) (by simp) ?_
          refine AllReadyH.cons (o := ⟨none, _, _, _, _, _⟩) rfl (fun K hK => ?_) AllReadyH.nil
          go_simp
          refine hK.out _ _ ?_ (fun hh7 => ?_)
          · ((try dsimp only); go_keep)
          clear hK K hh6
          (try simp only [Act.put, sit, scz, scs])
          refine wpAnyH_take (i := 15) (oi := ⟨some 26, _, _, _, _, _⟩) (v := ?_) rfl (by kernel_rfl) (by kernel_rfl) (by kernel_rfl) (fun _ _ _ h => h) (Or.inl ⟨by rfl, ?_⟩) ‹_› ?_
          rotate_left
          · (intro w' hSw; (try dsimp only at hSw); go_simp; (try with_reducible rfl))
          (try simp only [Act.put, sit, scz, scs])
          refine wpAnyH_done (by kernel_rfl) ?_ _
          go_wp2_with fail
          go_meet
          first | (have KF := ((K6.put 1 rfl (decide (y < 0)) E6 l6 k6).put 0 rfl (decide (yr < 0)) E7 l7 k7); (try simp only [List.set, World.size_alloc, World.size_setCell] at KF); have KG := KF.erase 0; simp only [List.eraseIdx] at KG; exact ⟨_, E6, l6, k6, rfl, KG.ints_ ⟨KG.ints.2.1, KG.ints.2.2.2.2.1, KG.ints.2.2.2.2.2.1, KG.ints.2.2.2.2.2.2.1, KG.ints.2.2.2.2.2.2.2.1, trivial⟩⟩) | (have KF := ((K6.put 1 rfl (decide (y < 0)) E6 l6 k6).put 0 rfl (decide (yr < 0)) E7 l7 k7); (try simp only [List.set, World.size_alloc, World.size_setCell] at KF); have KG := KF.erase 0; simp only [List.eraseIdx] at KG; exact ⟨_, E6, l6, k6, rfl, KG.ints_ ⟨KG.ints.2.1, KG.ints.2.2.2.2.1, KG.ints.2.2.2.2.2.1, KG.ints.2.2.2.2.2.2.1, KG.ints.2.2.2.2.2.2.2.1, trivial⟩⟩) | (trace_state; fail)
         refine AllReadyH.cons (o := ⟨some 25, _, _, _, _, _⟩) rfl (fun K hK => ?_) AllReadyH.nil
         go_simp
         have KA12 := KA11.new 24 (Plains.two false none 0 0)
         (try simp only [World.size_alloc] at KA12)
         refine hK.out _ _ ?_ (fun hh2 => ?_)
         · ((try dsimp only); go_keep)
         clear hK K hh1
         (try simp only [Act.put, sit, scz, scs])
         refine wpAnyH_ready (rs := [3]) (by kernel_rfl) (by simp) ?_
         refine AllReadyH.cons (o := ⟨some 99, _, _, _, _, _⟩) rfl (fun K hK => ?_) AllReadyH.nil
         go_simp
         have im3a := KA12.drew.ints.2.2.2.1.ci ka
         have im3b := KA12.drew.ints.1.ci kx
         (go_at_call 95; (with_reducible refine (rmul_at im3a im3b hna hnx).mono ?_); rw [HT.out]; rintro e wm1 ⟨E4, l4, k4, rfl, d4, u4, v4, g4⟩)
         have hnt : l4 ≤ 100000 := (by rw [← d4.len]; exact zt.len2)
         (try go_wp2_with fail)
         have K3 := (KA12.drew.call g4).add (CanAt.mk_ d4 u4 v4)
         clear p0 p1 p2 p3 p4 p5 p6 p7
         obtain ⟨⟨b25x3, b25y3⟩, ⟨b24x3, b24y3⟩, ⟨p0x3, p0y3⟩, ⟨p1x3, p1y3⟩, _, _, _, ⟨p5x3, p5y3⟩, ⟨p6x3, p6y3⟩, _⟩ := K3.facts
         obtain ⟨f25x3, f25y3⟩ := K3.free (i := 0) rfl
         obtain ⟨e250x3, e250y3⟩ := K3.ne 0 2 rfl rfl (by decide)
         obtain ⟨e251x3, e251y3⟩ := K3.ne 0 3 rfl rfl (by decide)
         obtain ⟨e255x3, e255y3⟩ := K3.ne 0 7 rfl rfl (by decide)
         obtain ⟨e256x3, e256y3⟩ := K3.ne 0 8 rfl rfl (by decide)
         obtain ⟨f24x3, f24y3⟩ := K3.free (i := 1) rfl
         obtain ⟨e240x3, e240y3⟩ := K3.ne 1 2 rfl rfl (by decide)
         obtain ⟨e241x3, e241y3⟩ := K3.ne 1 3 rfl rfl (by decide)
         obtain ⟨e245x3, e245y3⟩ := K3.ne 1 7 rfl rfl (by decide)
         obtain ⟨e246x3, e246y3⟩ := K3.ne 1 8 rfl rfl (by decide)
         obtain ⟨eex3, eey3⟩ := K3.ne 0 1 rfl rfl (by decide)
         refine hK.out _ _ ?_ (fun hh3 => ?_)
         · ((try dsimp only); go_keep)
         clear hK K hh2
         (try simp only [Act.put, sit, scz, scs])
         refine wpAnyH_ready (rs := [4]) (by kernel_rfl) (by simp) ?_
         refine AllReadyH.cons (o := ⟨some 100, _, _, _, _, _⟩) rfl (fun K hK => ?_) AllReadyH.nil
         go_simp
         have im4a := K3.ints.2.2.1.ci kg
         have im4b := K3.ints.1.ci kt
         (go_at_call 94; (with_reducible refine (rsub_at im4a im4b hng hnt).mono ?_); rw [HZ.out]; rintro e wm2 ⟨E5, l5, k5, rfl, d5, u5, v5, g5⟩)
         (try go_wp2_with fail)
         have K4 := (K3.call g5).add (CanAt.mk_ d5 u5 v5)
         clear b25x3 b25y3 b24x3 b24y3 p0x3 p0y3 p1x3 p1y3 p5x3 p5y3 p6x3 p6y3 f25x3 f25y3 e250x3 e250y3 e251x3 e251y3 e255x3 e255y3 e256x3 e256y3 f24x3 f24y3 e240x3 e240y3 e241x3 e241y3 e245x3 e245y3 e246x3 e246y3 eex3 eey3
         obtain ⟨⟨b25x4, b25y4⟩, ⟨b24x4, b24y4⟩, ⟨p0x4, p0y4⟩, ⟨p1x4, p1y4⟩, _, _, _, ⟨p5x4, p5y4⟩, ⟨p6x4, p6y4⟩, _⟩ := K4.facts
         obtain ⟨f25x4, f25y4⟩ := K4.free (i := 0) rfl
         obtain ⟨e250x4, e250y4⟩ := K4.ne 0 2 rfl rfl (by decide)
         obtain ⟨e251x4, e251y4⟩ := K4.ne 0 3 rfl rfl (by decide)
         obtain ⟨e255x4, e255y4⟩ := K4.ne 0 7 rfl rfl (by decide)
         obtain ⟨e256x4, e256y4⟩ := K4.ne 0 8 rfl rfl (by decide)
         obtain ⟨f24x4, f24y4⟩ := K4.free (i := 1) rfl
         obtain ⟨e240x4, e240y4⟩ := K4.ne 1 2 rfl rfl (by decide)
         obtain ⟨e241x4, e241y4⟩ := K4.ne 1 3 rfl rfl (by decide)
         obtain ⟨e245x4, e245y4⟩ := K4.ne 1 7 rfl rfl (by decide)
         obtain ⟨e246x4, e246y4⟩ := K4.ne 1 8 rfl rfl (by decide)
         obtain ⟨eex4, eey4⟩ := K4.ne 0 1 rfl rfl (by decide)
         refine hK.out _ _ ?_ (fun hh4 => ?_)
         · ((try dsimp only); go_keep)
         clear hK K hh3
         (try simp only [Act.put, sit, scz, scs])
         refine wpAnyH_ready (rs := [6]) (by kernel_rfl) (by simp) ?_
         refine AllReadyH.cons (o := ⟨some 102, _, _, _, _, _⟩) rfl (fun K hK => ?_) AllReadyH.nil
         go_simp
         have im6a := K4.ints.1.ci kz
         have im6b := K4.ints.2.2.2.2.1.ci kb
         (go_at_call 92; (with_reducible refine (rdivMod_at im6a im6b zz2 zb2).mono ?_); rw [HY.out, HYR.out]; rintro e wm3 ⟨E6, l6, k6, E7, l7, k7, rfl, d6, u6, v6, d7, u7, v7, g6⟩)
         (try go_wp2_with fail)
         have K6 := ((K4.call g6).add (CanAt.mk_ d6 u6 v6)).add (CanAt.mk_ d7 u7 v7)
         clear b25x4 b25y4 b24x4 b24y4 p0x4 p0y4 p1x4 p1y4 p5x4 p5y4 p6x4 p6y4 f25x4 f25y4 e250x4 e250y4 e251x4 e251y4 e255x4 e255y4 e256x4 e256y4 f24x4 f24y4 e240x4 e240y4 e241x4 e241y4 e245x4 e245y4 e246x4 e246y4 eex4 eey4
         obtain ⟨⟨b25x5, b25y5⟩, ⟨b24x5, b24y5⟩, ⟨p0x5, p0y5⟩, ⟨p1x5, p1y5⟩, _, _, _, ⟨p5x5, p5y5⟩, ⟨p6x5, p6y5⟩, _⟩ := K6.facts
         obtain ⟨f25x5, f25y5⟩ := K6.free (i := 0) rfl
         obtain ⟨e250x5, e250y5⟩ := K6.ne 0 2 rfl rfl (by decide)
         obtain ⟨e251x5, e251y5⟩ := K6.ne 0 3 rfl rfl (by decide)
         obtain ⟨e255x5, e255y5⟩ := K6.ne 0 7 rfl rfl (by decide)
         obtain ⟨e256x5, e256y5⟩ := K6.ne 0 8 rfl rfl (by decide)
         obtain ⟨f24x5, f24y5⟩ := K6.free (i := 1) rfl
         obtain ⟨e240x5, e240y5⟩ := K6.ne 1 2 rfl rfl (by decide)
         obtain ⟨e241x5, e241y5⟩ := K6.ne 1 3 rfl rfl (by decide)
         obtain ⟨e245x5, e245y5⟩ := K6.ne 1 7 rfl rfl (by decide)
         obtain ⟨e246x5, e246y5⟩ := K6.ne 1 8 rfl rfl (by decide)
         obtain ⟨eex5, eey5⟩ := K6.ne 0 1 rfl rfl (by decide)
         refine hK.out _ _ ?_ (fun hh5 => ?_)
         · ((try dsimp only); go_keep)
         clear hK K hh4
         (try simp only [Act.put, sit, scz, scs])
         refine wpAnyH_take (i := 7) (oi := ⟨some 95, _, _, _, _, _⟩) (v := ?_) rfl (by kernel_rfl) (by kernel_rfl) (by kernel_rfl) (fun _ _ _ h => h) (Or.inl ⟨by rfl, ?_⟩) ‹_› ?_
         rotate_left
         · (intro w' hSw; (try dsimp only at hSw); go_simp; (try with_reducible rfl))
         (try simp only [Act.put, sit, scz, scs])
         refine wpAnyH_take (i := 8) (oi := ⟨some 103, _, _, _, _, _⟩) (v := ?_) rfl (by kernel_rfl) (by kernel_rfl) (by kernel_rfl) (fun _ _ _ h => h) (Or.inl ⟨by rfl, ?_⟩) ‹_› ?_
         rotate_left
         · (intro w' hSw; (try dsimp only at hSw); go_simp; (try with_reducible rfl))
         (try simp only [Act.put, sit, scz, scs])
         refine wpAnyH_take (i := 9) (oi := ⟨some 104, _, _, _, _, _⟩) (v := ?_) rfl (by kernel_rfl) (by kernel_rfl) (by kernel_rfl) (fun _ _ _ h => h) (Or.inl ⟨by rfl, ?_⟩) ‹_› ?_
         rotate_left
         · (intro w' hSw; (try dsimp only at hSw); go_simp; (try with_reducible rfl))
         (try simp only [Act.put, sit, scz, scs])
         refine wpAnyH_take (i := 10) (oi := ⟨some 105, _, _, _, _, _⟩) (v := ?_) rfl (by kernel_rfl) (by kernel_rfl) (by kernel_rfl) (fun _ _ _ h => h) (Or.inl ⟨by rfl, ?_⟩) ‹_› ?_
         rotate_left
         · (intro w' hSw; (try dsimp only at hSw); go_simp; (try with_reducible rfl))
         (try simp only [Act.put, sit, scz, scs])
         refine wpAnyH_ready (rs := [13]) (by kernel_rfl) (by simp) ?_
         refine AllReadyH.cons (o := ⟨none, _, _, _, _, _⟩) rfl (fun K hK => ?_) AllReadyH.nil
         go_simp
         refine hK.out _ _ ?_ (fun hh6 => ?_)
         · ((try dsimp only); go_keep)
         clear hK K hh5
         (try simp only [Act.put, sit, scz, scs])
         refine wpAnyH_ready (rs := [14]) (by kernel_rfl) (by simp) ?_
         refine AllReadyH.cons (o := ⟨none, _, _, _, _, _⟩) rfl (fun K hK => ?_) AllReadyH.nil
         go_simp
         refine hK.out _ _ ?_ (fun hh7 => ?_)
         · ((try dsimp only); go_keep)
         clear hK K hh6
         (try simp only [Act.put, sit, scz, scs])
         refine wpAnyH_take (i := 15) (oi := ⟨some 26, _, _, _, _, _⟩) (v := ?_) rfl (by kernel_rfl) (by kernel_rfl) (by kernel_rfl) (fun _ _ _ h => h) (Or.inl ⟨by rfl, ?_⟩) ‹_› ?_
         rotate_left
         · (intro w' hSw; (try dsimp only at hSw); go_simp; (try with_reducible rfl))
         (try simp only [Act.put, sit, scz, scs])
         refine wpAnyH_done (by kernel_rfl) ?_ _
         go_wp2_with fail
         go_meet
         first | (have KF := ((K6.put 1 rfl (decide (y < 0)) E6 l6 k6).put 0 rfl (decide (yr < 0)) E7 l7 k7); (try simp only [List.set, World.size_alloc, World.size_setCell] at KF); have KG := KF.erase 0; simp only [List.eraseIdx] at KG; exact ⟨_, E6, l6, k6, rfl, KG.ints_ ⟨KG.ints.2.1, KG.ints.2.2.2.2.1, KG.ints.2.2.2.2.2.1, KG.ints.2.2.2.2.2.2.1, KG.ints.2.2.2.2.2.2.2.1, trivial⟩⟩) | (have KF := ((K6.put 1 rfl (decide (y < 0)) E6 l6 k6).put 0 rfl (decide (yr < 0)) E7 l7 k7); (try simp only [List.set, World.size_alloc, World.size_setCell] at KF); have KG := KF.erase 0; simp only [List.eraseIdx] at KG; exact ⟨_, E6, l6, k6, rfl, KG.ints_ ⟨KG.ints.2.1, KG.ints.2.2.2.2.1, KG.ints.2.2.2.2.2.1, KG.ints.2.2.2.2.2.2.1, KG.ints.2.2.2.2.2.2.2.1, trivial⟩⟩) | (trace_state; fail)
        refine AllReadyH.cons (o := ⟨some 25, _, _, _, _, _⟩) rfl (fun K hK => ?_) AllReadyH.nil
        go_simp
        have KA12 := K3.new 24 (Plains.two false none 0 0)
        (try simp only [World.size_alloc] at KA12)
        refine hK.out _ _ ?_ (fun hh1 => ?_)
        · ((try dsimp only); go_keep)
        clear hK K hh0
        (try simp only [Act.put, sit, scz, scs])
        refine wpAnyH_ready (rs := [3, 11]) (by kernel_rfl) (by simp) ?_
        refine AllReadyH.cons (o := ⟨some 99, _, _, _, _, _⟩) rfl (fun K hK => ?_) ?_
        ·
         go_simp
         have im3a := KA12.drew.ints.2.2.2.1.ci ka
         have im3b := KA12.drew.ints.1.ci kx
         (go_at_call 95; (with_reducible refine (rmul_at im3a im3b hna hnx).mono ?_); rw [HT.out]; rintro e wm1 ⟨E4, l4, k4, rfl, d4, u4, v4, g4⟩)
         have hnt : l4 ≤ 100000 := (by rw [← d4.len]; exact zt.len2)
         (try go_wp2_with fail)
         have K3 := (KA12.drew.call g4).add (CanAt.mk_ d4 u4 v4)
         clear p0 p1 p2 p3 p4 p5 p6 p7
         obtain ⟨⟨b25x2, b25y2⟩, ⟨p0x2, p0y2⟩, ⟨p1x2, p1y2⟩, _, _, _, ⟨p5x2, p5y2⟩, ⟨p6x2, p6y2⟩, _⟩ := K3.facts
         obtain ⟨f25x2, f25y2⟩ := K3.free (i := 0) rfl
         obtain ⟨e250x2, e250y2⟩ := K3.ne 0 1 rfl rfl (by decide)
         obtain ⟨e251x2, e251y2⟩ := K3.ne 0 2 rfl rfl (by decide)
         obtain ⟨e255x2, e255y2⟩ := K3.ne 0 6 rfl rfl (by decide)
         obtain ⟨e256x2, e256y2⟩ := K3.ne 0 7 rfl rfl (by decide)
         refine hK.out _ _ ?_ (fun hh2 => ?_)
         · ((try dsimp only); go_keep)
         clear hK K hh1
         (try simp only [Act.put, sit, scz, scs])
         refine wpAnyH_ready (rs := [4, 11]) (by kernel_rfl) (by simp) ?_
         refine AllReadyH.cons (o := ⟨some 100, _, _, _, _, _⟩) rfl (fun K hK => ?_) ?_
         ·
          go_simp
          have im4a := K3.ints.2.2.1.ci kg
          have im4b := K3.ints.1.ci kt
          (go_at_call 94; (with_reducible refine (rsub_at im4a im4b hng hnt).mono ?_); rw [HZ.out]; rintro e wm2 ⟨E5, l5, k5, rfl, d5, u5, v5, g5⟩)
          (try go_wp2_with fail)
          have K4 := (K3.call g5).add (CanAt.mk_ d5 u5 v5)
          clear b25x2 b25y2 p0x2 p0y2 p1x2 p1y2 p5x2 p5y2 p6x2 p6y2 f25x2 f25y2 e250x2 e250y2 e251x2 e251y2 e255x2 e255y2 e256x2 e256y2
          obtain ⟨⟨b25x3, b25y3⟩, ⟨p0x3, p0y3⟩, ⟨p1x3, p1y3⟩, _, _, _, ⟨p5x3, p5y3⟩, ⟨p6x3, p6y3⟩, _⟩ := K4.facts
          obtain ⟨f25x3, f25y3⟩ := K4.free (i := 0) rfl
          obtain ⟨e250x3, e250y3⟩ := K4.ne 0 1 rfl rfl (by decide)
          obtain ⟨e251x3, e251y3⟩ := K4.ne 0 2 rfl rfl (by decide)
          obtain ⟨e255x3, e255y3⟩ := K4.ne 0 6 rfl rfl (by decide)
          obtain ⟨e256x3, e256y3⟩ := K4.ne 0 7 rfl rfl (by decide)
          refine hK.out _ _ ?_ (fun hh3 => ?_)
          · ((try dsimp only); go_keep)
          clear hK K hh2
          (try simp only [Act.put, sit, scz, scs])
          refine wpAnyH_ready (rs := [6, 11]) (by kernel_rfl) (by simp) ?_
          refine AllReadyH.cons (o := ⟨some 102, _, _, _, _, _⟩) rfl (fun K hK => ?_) ?_
          ·
           go_simp
           have im6a := K4.ints.1.ci kz
           have im6b := K4.ints.2.2.2.2.1.ci kb
           (go_at_call 92; (with_reducible refine (rdivMod_at im6a im6b zz2 zb2).mono ?_); rw [HY.out, HYR.out]; rintro e wm3 ⟨E6, l6, k6, E7, l7, k7, rfl, d6, u6, v6, d7, u7, v7, g6⟩)
           (try go_wp2_with fail)
           have K6 := ((K4.call g6).add (CanAt.mk_ d6 u6 v6)).add (CanAt.mk_ d7 u7 v7)
           clear b25x3 b25y3 p0x3 p0y3 p1x3 p1y3 p5x3 p5y3 p6x3 p6y3 f25x3 f25y3 e250x3 e250y3 e251x3 e251y3 e255x3 e255y3 e256x3 e256y3
           obtain ⟨⟨b25x4, b25y4⟩, ⟨p0x4, p0y4⟩, ⟨p1x4, p1y4⟩, _, _, _, ⟨p5x4, p5y4⟩, ⟨p6x4, p6y4⟩, _⟩ := K6.facts
           obtain ⟨f25x4, f25y4⟩ := K6.free (i := 0) rfl
           obtain ⟨e250x4, e250y4⟩ := K6.ne 0 1 rfl rfl (by decide)
           obtain ⟨e251x4, e251y4⟩ := K6.ne 0 2 rfl rfl (by decide)
           obtain ⟨e255x4, e255y4⟩ := K6.ne 0 6 rfl rfl (by decide)
           obtain ⟨e256x4, e256y4⟩ := K6.ne 0 7 rfl rfl (by decide)
           refine hK.out _ _ ?_ (fun hh4 => ?_)
           · ((try dsimp only); go_keep)
           clear hK K hh3
           (try simp only [Act.put, sit, scz, scs])
           refine wpAnyH_take (i := 7) (oi := ⟨some 95, _, _, _, _, _⟩) (v := ?_) rfl (by kernel_rfl) (by kernel_rfl) (by kernel_rfl) (fun _ _ _ h => h) (Or.inl ⟨by rfl, ?_⟩) ‹_› ?_
           rotate_left
           · (intro w' hSw; (try dsimp only at hSw); go_simp; (try with_reducible rfl))
           (try simp only [Act.put, sit, scz, scs])
           refine wpAnyH_take (i := 8) (oi := ⟨some 103, _, _, _, _, _⟩) (v := ?_) rfl (by kernel_rfl) (by kernel_rfl) (by kernel_rfl) (fun _ _ _ h => h) (Or.inl ⟨by rfl, ?_⟩) ‹_› ?_
           rotate_left
           · (intro w' hSw; (try dsimp only at hSw); go_simp; (try with_reducible rfl))
           (try simp only [Act.put, sit, scz, scs])
           refine wpAnyH_take (i := 9) (oi := ⟨some 104, _, _, _, _, _⟩) (v := ?_) rfl (by kernel_rfl) (by kernel_rfl) (by kernel_rfl) (fun _ _ _ h => h) (Or.inl ⟨by rfl, ?_⟩) ‹_› ?_
           rotate_left
           · (intro w' hSw; (try dsimp only at hSw); go_simp; (try with_reducible rfl))
           (try simp only [Act.put, sit, scz, scs])
           refine wpAnyH_take (i := 10) (oi := ⟨some 105, _, _, _, _, _⟩) (v := ?_) rfl (by kernel_rfl) (by kernel_rfl) (by kernel_rfl) (fun _ _ _ h => h) (Or.inl ⟨by rfl, ?_⟩) ‹_› ?_
           rotate_left
           · (intro w' hSw; (try dsimp only at hSw); go_simp; (try with_reducible rfl))
           (try simp only [Act.put, sit, scz, scs])
           refine wpAnyH_ready (rs := [11]) (by kernel_rfl) (by simp) ?_
           refine AllReadyH.cons (o := ⟨some 24, _, _, _, _, _⟩) rfl (fun K hK => ?_) AllReadyH.nil
           go_simp
           have KA11 := K6.new 24 (Plains.two false none 0 0)
           (try simp only [World.size_alloc] at KA11)
           obtain ⟨⟨b24x5, b24y5⟩, ⟨b25x5, b25y5⟩, _⟩ := KA11.facts
           obtain ⟨f24x5, f24y5⟩ := KA11.free (i := 0) rfl
           obtain ⟨e240x5, e240y5⟩ := KA11.ne 0 2 rfl rfl (by decide)
           obtain ⟨e241x5, e241y5⟩ := KA11.ne 0 3 rfl rfl (by decide)
           obtain ⟨e245x5, e245y5⟩ := KA11.ne 0 7 rfl rfl (by decide)
           obtain ⟨e246x5, e246y5⟩ := KA11.ne 0 8 rfl rfl (by decide)
           obtain ⟨f25x5, f25y5⟩ := KA11.free (i := 1) rfl
           obtain ⟨eex5, eey5⟩ := KA11.ne 0 1 rfl rfl (by decide)
           refine hK.out _ _ ?_ (fun hh5 => ?_)
           · ((try dsimp only); go_keep)
           clear hK K hh4
           (try simp only [Act.put, sit, scz, scs])
           refine wpAnyH_ready (rs := [13]) (by kernel_rfl) (by simp) ?_
           refine AllReadyH.cons (o := ⟨none, _, _, _, _, _⟩) rfl (fun K hK => ?_) AllReadyH.nil
           go_simp
           have KS := K6.new 24 (Plains.two (decide (y < 0)) E6 l6 k6)
           (try simp only [World.size_alloc] at KS)
           obtain ⟨⟨b24x6, b24y6⟩, ⟨b25x6, b25y6⟩, _⟩ := KS.facts
           obtain ⟨f24x6, f24y6⟩ := KS.free (i := 0) rfl
           obtain ⟨e240x6, e240y6⟩ := KS.ne 0 2 rfl rfl (by decide)
           obtain ⟨e241x6, e241y6⟩ := KS.ne 0 3 rfl rfl (by decide)
           obtain ⟨e245x6, e245y6⟩ := KS.ne 0 7 rfl rfl (by decide)
           obtain ⟨e246x6, e246y6⟩ := KS.ne 0 8 rfl rfl (by decide)
           obtain ⟨f25x6, f25y6⟩ := KS.free (i := 1) rfl
           obtain ⟨eex6, eey6⟩ := KS.ne 0 1 rfl rfl (by decide)
           refine hK.out _ _ ?_ (fun hh6 => ?_)
           · ((try dsimp only); go_keep)
           clear hK K hh5
           (try simp only [Act.put, sit, scz, scs])
           refine wpAnyH_ready (rs := [14]) (by kernel_rfl) (by simp) ?_
           refine AllReadyH.cons (o := ⟨none, _, _, _, _, _⟩) rfl (fun K hK => ?_) AllReadyH.nil
           go_simp
           refine hK.out _ _ ?_ (fun hh7 => ?_)
           · ((try dsimp only); go_keep)
           clear hK K hh6
           (try simp only [Act.put, sit, scz, scs])
           refine wpAnyH_take (i := 15) (oi := ⟨some 26, _, _, _, _, _⟩) (v := ?_) rfl (by kernel_rfl) (by kernel_rfl) (by kernel_rfl) (fun _ _ _ h => h) (Or.inl ⟨by rfl, ?_⟩) ‹_› ?_
           rotate_left
           · (intro w' hSw; (try dsimp only at hSw); go_simp; (try with_reducible rfl))
           (try simp only [Act.put, sit, scz, scs])
           refine wpAnyH_done (by kernel_rfl) ?_ _
           go_wp2_with fail
           go_meet
           first | (have KF := ((K6.new 24 (Plains.two (decide (y < 0)) E6 l6 k6)).put 1 rfl (decide (yr < 0)) E7 l7 k7); (try simp only [List.set, World.size_alloc, World.size_setCell] at KF); have KG := KF.erase 1; simp only [List.eraseIdx] at KG; exact ⟨_, E6, l6, k6, rfl, KG.ints_ ⟨KG.ints.2.1, KG.ints.2.2.2.2.1, KG.ints.2.2.2.2.2.1, KG.ints.2.2.2.2.2.2.1, KG.ints.2.2.2.2.2.2.2.1, trivial⟩⟩) | (have KF := ((K6.put 0 rfl (decide (yr < 0)) E7 l7 k7).new 24 (Plains.two (decide (y < 0)) E6 l6 k6)); (try simp only [List.set, World.size_alloc, World.size_setCell] at KF); have KG := KF.erase 1; simp only [List.eraseIdx] at KG; exact ⟨_, E6, l6, k6, rfl, KG.ints_ ⟨KG.ints.2.1, KG.ints.2.2.2.2.1, KG.ints.2.2.2.2.2.1, KG.ints.2.2.2.2.2.2.1, KG.ints.2.2.2.2.2.2.2.1, trivial⟩⟩) | (trace_state; fail)
          refine AllReadyH.cons (o := ⟨some 24, _, _, _, _, _⟩) rfl (fun K hK => ?_) AllReadyH.nil
          go_simp
          have KA11 := K4.new 24 (Plains.two false none 0 0)
          (try simp only [World.size_alloc] at KA11)
          obtain ⟨⟨b24x4, b24y4⟩, ⟨b25x4, b25y4⟩, _⟩ := KA11.facts
          obtain ⟨f24x4, f24y4⟩ := KA11.free (i := 0) rfl
          obtain ⟨e240x4, e240y4⟩ := KA11.ne 0 2 rfl rfl (by decide)
          obtain ⟨e241x4, e241y4⟩ := KA11.ne 0 3 rfl rfl (by decide)
          obtain ⟨e245x4, e245y4⟩ := KA11.ne 0 7 rfl rfl (by decide)
          obtain ⟨e246x4, e246y4⟩ := KA11.ne 0 8 rfl rfl (by decide)
          obtain ⟨f25x4, f25y4⟩ := KA11.free (i := 1) rfl
          obtain ⟨eex4, eey4⟩ := KA11.ne 0 1 rfl rfl (by decide)
          refine hK.out _ _ ?_ (fun hh4 => ?_)
          · ((try dsimp only); go_keep)
          clear hK K hh3
          (try simp only [Act.put, sit, scz, scs])
          refine wpAnyH_ready (rs := [6]) (by kernel_rfl) (by simp) ?_
          refine AllReadyH.cons (o := ⟨some 102, _, _, _, _, _⟩) rfl (fun K hK => ?_) AllReadyH.nil
          go_simp
          have im6a := KA11.ints.1.ci kz
          have im6b := KA11.ints.2.2.2.2.1.ci kb
          (go_at_call 92; (with_reducible refine (rdivMod_at im6a im6b zz2 zb2).mono ?_); rw [HY.out, HYR.out]; rintro e wm3 ⟨E6, l6, k6, E7, l7, k7, rfl, d6, u6, v6, d7, u7, v7, g6⟩)
          (try go_wp2_with fail)
          have K6 := ((KA11.call g6).add (CanAt.mk_ d6 u6 v6)).add (CanAt.mk_ d7 u7 v7)
          clear b25x3 b25y3 p0x3 p0y3 p1x3 p1y3 p5x3 p5y3 p6x3 p6y3 f25x3 f25y3 e250x3 e250y3 e251x3 e251y3 e255x3 e255y3 e256x3 e256y3 b24x4 b24y4 b25x4 b25y4 f24x4 f24y4 e240x4 e240y4 e241x4 e241y4 e245x4 e245y4 e246x4 e246y4 f25x4 f25y4 eex4 eey4
          obtain ⟨⟨b24x5, b24y5⟩, ⟨b25x5, b25y5⟩, ⟨p0x5, p0y5⟩, ⟨p1x5, p1y5⟩, _, _, _, ⟨p5x5, p5y5⟩, ⟨p6x5, p6y5⟩, _⟩ := K6.facts
          obtain ⟨f24x5, f24y5⟩ := K6.free (i := 0) rfl
          obtain ⟨e240x5, e240y5⟩ := K6.ne 0 2 rfl rfl (by decide)
          obtain ⟨e241x5, e241y5⟩ := K6.ne 0 3 rfl rfl (by decide)
          obtain ⟨e245x5, e245y5⟩ := K6.ne 0 7 rfl rfl (by decide)
          obtain ⟨e246x5, e246y5⟩ := K6.ne 0 8 rfl rfl (by decide)
          obtain ⟨f25x5, f25y5⟩ := K6.free (i := 1) rfl
          obtain ⟨e250x5, e250y5⟩ := K6.ne 1 2 rfl rfl (by decide)
          obtain ⟨e251x5, e251y5⟩ := K6.ne 1 3 rfl rfl (by decide)
          obtain ⟨e255x5, e255y5⟩ := K6.ne 1 7 rfl rfl (by decide)
          obtain ⟨e256x5, e256y5⟩ := K6.ne 1 8 rfl rfl (by decide)
          obtain ⟨eex5, eey5⟩ := K6.ne 0 1 rfl rfl (by decide)
          refine hK.out _ _ ?_ (fun hh5 => ?_)
          · ((try dsimp only); go_keep)
          clear hK K hh4
          (try simp only [Act.put, sit, scz, scs])
          refine wpAnyH_take (i := 7) (oi := ⟨some 95, _, _, _, _, _⟩) (v := ?_) rfl (by kernel_rfl) (by kernel_rfl) (by kernel_rfl) (fun _ _ _ h => h) (Or.inl ⟨by rfl, ?_⟩) ‹_› ?_
          rotate_left
          · (intro w' hSw; (try dsimp only at hSw); go_simp; (try with_reducible rfl))
          (try simp only [Act.put, sit, scz, scs])
          refine wpAnyH_take (i := 8) (oi := ⟨some 103, _, _, _, _, _⟩) (v := ?_) rfl (by kernel_rfl) (by kernel_rfl) (by kernel_rfl) (fun _ _ _ h => h) (Or.inl ⟨by rfl, ?_⟩) ‹_› ?_
          rotate_left
          · (intro w' hSw; (try dsimp only at hSw); go_simp; (try with_reducible rfl))
          (try simp only [Act.put, sit, scz, scs])
          refine wpAnyH_take (i := 9) (oi := ⟨some 104, _, _, _, _, _⟩) (v := ?_) rfl (by kernel_rfl) (by kernel_rfl) (by kernel_rfl) (fun _ _ _ h => h) (Or.inl ⟨by rfl, ?_⟩) ‹_› ?_
          rotate_left
          · (intro w' hSw; (try dsimp only at hSw); go_simp; (try with_reducible rfl))
          (try simp only [Act.put, sit, scz, scs])
          refine wpAnyH_take (i := 10) (oi := ⟨some 105, _, _, _, _, _⟩) (v := ?_) rfl (by kernel_rfl) (by kernel_rfl) (by kernel_rfl) (fun _ _ _ h => h) (Or.inl ⟨by rfl, ?_⟩) ‹_› ?_
          rotate_left
          · (intro w' hSw; (try dsimp only at hSw); go_simp; (try with_reducible rfl))
          (try simp only [Act.put, sit, scz, scs])
          refine wpAnyH_ready (rs := [13]) (by kernel_rfl) (by simp) ?_
          refine AllReadyH.cons (o := ⟨none, _, _, _, _, _⟩) rfl (fun K hK => ?_) AllReadyH.nil
          go_simp
          refine hK.out _ _ ?_ (fun hh6 => ?_)
          · ((try dsimp only); go_keep)
          clear hK K hh5
          (try simp only [Act.put, sit, scz, scs])
          refine wpAnyH_ready (rs := [14]) (by kernel_rfl) (by simp) ?_
          refine AllReadyH.cons (o := ⟨none, _, _, _, _, _⟩) rfl (fun K hK => ?_) AllReadyH.nil
          go_simp
          refine hK.out _ _ ?_ (fun hh7 => ?_)
          · ((try dsimp only); go_keep)
          clear hK K hh6
          (try simp only [Act.put, sit, scz, scs])
          refine wpAnyH_take (i := 15) (oi := ⟨some 26, _, _, _, _, _⟩) (v := ?_) rfl (by kernel_rfl) (by kernel_rfl) (by kernel_rfl) (fun _ _ _ h => h) (Or.inl ⟨by rfl, ?_⟩) ‹_› ?_
          rotate_left
          · (intro w' hSw; (try dsimp only at hSw); go_simp; (try with_reducible rfl))
          (try simp only [Act.put, sit, scz, scs])
          refine wpAnyH_done (by kernel_rfl) ?_ _
          go_wp2_with fail
          go_meet
          first | (have KF := ((K6.put 0 rfl (decide (y < 0)) E6 l6 k6).put 1 rfl (decide (yr < 0)) E7 l7 k7); (try simp only [List.set, World.size_alloc, World.size_setCell] at KF); have KG := KF.erase 1; simp only [List.eraseIdx] at KG; exact ⟨_, E6, l6, k6, rfl, KG.ints_ ⟨KG.ints.2.1, KG.ints.2.2.2.2.1, KG.ints.2.2.2.2.2.1, KG.ints.2.2.2.2.2.2.1, KG.ints.2.2.2.2.2.2.2.1, trivial⟩⟩) | (have KF := ((K6.put 0 rfl (decide (y < 0)) E6 l6 k6).put 1 rfl (decide (yr < 0)) E7 l7 k7); (try simp only [List.set, World.size_alloc, World.size_setCell] at KF); have KG := KF.erase 1; simp only [List.eraseIdx] at KG; exact ⟨_, E6, l6, k6, rfl, KG.ints_ ⟨KG.ints.2.1, KG.ints.2.2.2.2.1, KG.ints.2.2.2.2.2.1, KG.ints.2.2.2.2.2.2.1, KG.ints.2.2.2.2.2.2.2.1, trivial⟩⟩) | (trace_state; fail)
         refine AllReadyH.cons (o := ⟨some 24, _, _, _, _, _⟩) rfl (fun K hK => ?_) AllReadyH.nil
         go_simp
         have KA11 := K3.new 24 (Plains.two false none 0 0)
         (try simp only [World.size_alloc] at KA11)
         obtain ⟨⟨b24x3, b24y3⟩, ⟨b25x3, b25y3⟩, _⟩ := KA11.facts
         obtain ⟨f24x3, f24y3⟩ := KA11.free (i := 0) rfl
         obtain ⟨e240x3, e240y3⟩ := KA11.ne 0 2 rfl rfl (by decide)
         obtain ⟨e241x3, e241y3⟩ := KA11.ne 0 3 rfl rfl (by decide)
         obtain ⟨e245x3, e245y3⟩ := KA11.ne 0 7 rfl rfl (by decide)
         obtain ⟨e246x3, e246y3⟩ := KA11.ne 0 8 rfl rfl (by decide)
         obtain ⟨f25x3, f25y3⟩ := KA11.free (i := 1) rfl
         obtain ⟨eex3, eey3⟩ := KA11.ne 0 1 rfl rfl (by decide)
         refine hK.out _ _ ?_ (fun hh3 => ?_)
         · ((try dsimp only); go_keep)
         clear hK K hh2
         (try simp only [Act.put, sit, scz, scs])
         refine wpAnyH_ready (rs := [4]) (by kernel_rfl) (by simp) ?_
         refine AllReadyH.cons (o := ⟨some 100, _, _, _, _, _⟩) rfl (fun K hK => ?_) AllReadyH.nil
         go_simp
         have im4a := KA11.ints.2.2.1.ci kg
         have im4b := KA11.ints.1.ci kt
         (go_at_call 94; (with_reducible refine (rsub_at im4a im4b hng hnt).mono ?_); rw [HZ.out]; rintro e wm2 ⟨E5, l5, k5, rfl, d5, u5, v5, g5⟩)
         (try go_wp2_with fail)
         have K4 := (KA11.call g5).add (CanAt.mk_ d5 u5 v5)
         clear b25x2 b25y2 p0x2 p0y2 p1x2 p1y2 p5x2 p5y2 p6x2 p6y2 f25x2 f25y2 e250x2 e250y2 e251x2 e251y2 e255x2 e255y2 e256x2 e256y2 b24x3 b24y3 b25x3 b25y3 f24x3 f24y3 e240x3 e240y3 e241x3 e241y3 e245x3 e245y3 e246x3 e246y3 f25x3 f25y3 eex3 eey3
         obtain ⟨⟨b24x4, b24y4⟩, ⟨b25x4, b25y4⟩, ⟨p0x4, p0y4⟩, ⟨p1x4, p1y4⟩, _, _, _, ⟨p5x4, p5y4⟩, ⟨p6x4, p6y4⟩, _⟩ := K4.facts
         obtain ⟨f24x4, f24y4⟩ := K4.free (i := 0) rfl
         obtain ⟨e240x4, e240y4⟩ := K4.ne 0 2 rfl rfl (by decide)
         obtain ⟨e241x4, e241y4⟩ := K4.ne 0 3 rfl rfl (by decide)
         obtain ⟨e245x4, e245y4⟩ := K4.ne 0 7 rfl rfl (by decide)
         obtain ⟨e246x4, e246y4⟩ := K4.ne 0 8 rfl rfl (by decide)
         obtain ⟨f25x4, f25y4⟩ := K4.free (i := 1) rfl
         obtain ⟨e250x4, e250y4⟩ := K4.ne 1 2 rfl rfl (by decide)
         obtain ⟨e251x4, e251y4⟩ := K4.ne 1 3 rfl rfl (by decide)
         obtain ⟨e255x4, e255y4⟩ := K4.ne 1 7 rfl rfl (by decide)
         obtain ⟨e256x4, e256y4⟩ := K4.ne 1 8 rfl rfl (by decide)
         obtain ⟨eex4, eey4⟩ := K4.ne 0 1 rfl rfl (by decide)
         refine hK.out _ _ ?_ (fun hh4 => ?_)
         · ((try dsimp only); go_keep)
         clear hK K hh3
         (try simp only [Act.put, sit, scz, scs])
         refine wpAnyH_ready (rs := [6]) (by kernel_rfl) (by simp) ?_
         refine AllReadyH.cons (o := ⟨some 102, _, _, _, _, _⟩) rfl (fun K hK => ?_) AllReadyH.nil
         go_simp
         have im6a := K4.ints.1.ci kz
         have im6b := K4.ints.2.2.2.2.1.ci kb
         (go_at_call 92; (with_reducible refine (rdivMod_at im6a im6b zz2 zb2).mono ?_); rw [HY.out, HYR.out]; rintro e wm3 ⟨E6, l6, k6, E7, l7, k7, rfl, d6, u6, v6, d7, u7, v7, g6⟩)
         (try go_wp2_with fail)
         have K6 := ((K4.call g6).add (CanAt.mk_ d6 u6 v6)).add (CanAt.mk_ d7 u7 v7)
         clear b24x4 b24y4 b25x4 b25y4 p0x4 p0y4 p1x4 p1y4 p5x4 p5y4 p6x4 p6y4 f24x4 f24y4 e240x4 e240y4 e241x4 e241y4 e245x4 e245y4 e246x4 e246y4 f25x4 f25y4 e250x4 e250y4 e251x4 e251y4 e255x4 e255y4 e256x4 e256y4 eex4 eey4
         obtain ⟨⟨b24x5, b24y5⟩, ⟨b25x5, b25y5⟩, ⟨p0x5, p0y5⟩, ⟨p1x5, p1y5⟩, _, _, _, ⟨p5x5, p5y5⟩, ⟨p6x5, p6y5⟩, _⟩ := K6.facts
         obtain ⟨f24x5, f24y5⟩ := K6.free (i := 0) rfl
         obtain ⟨e240x5, e240y5⟩ := K6.ne 0 2 rfl rfl (by decide)
         obtain ⟨e241x5, e241y5⟩ := K6.ne 0 3 rfl rfl (by decide)
         obtain ⟨e245x5, e245y5⟩ := K6.ne 0 7 rfl rfl (by decide)
         obtain ⟨e246x5, e246y5⟩ := K6.ne 0 8 rfl rfl (by decide)
         obtain ⟨f25x5, f25y5⟩ := K6.free (i := 1) rfl
         obtain ⟨e250x5, e250y5⟩ := K6.ne 1 2 rfl rfl (by decide)
         obtain ⟨e251x5, e251y5⟩ := K6.ne 1 3 rfl rfl (by decide)
         obtain ⟨e255x5, e255y5⟩ := K6.ne 1 7 rfl rfl (by decide)
         obtain ⟨e256x5, e256y5⟩ := K6.ne 1 8 rfl rfl (by decide)
         obtain ⟨eex5, eey5⟩ := K6.ne 0 1 rfl rfl (by decide)
         refine hK.out _ _ ?_ (fun hh5 => ?_)
         · ((try dsimp only); go_keep)
         clear hK K hh4
         (try simp only [Act.put, sit, scz, scs])
         refine wpAnyH_take (i := 7) (oi := ⟨some 95, _, _, _, _, _⟩) (v := ?_) rfl (by kernel_rfl) (by kernel_rfl) (by kernel_rfl) (fun _ _ _ h => h) (Or.inl ⟨by rfl, ?_⟩) ‹_› ?_
         rotate_left
         · (intro w' hSw; (try dsimp only at hSw); go_simp; (try with_reducible rfl))
         (try simp only [Act.put, sit, scz, scs])
         refine wpAnyH_take (i := 8) (oi := ⟨some 103, _, _, _, _, _⟩) (v := ?_) rfl (by kernel_rfl) (by kernel_rfl) (by kernel_rfl) (fun _ _ _ h => h) (Or.inl ⟨by rfl, ?_⟩) ‹_› ?_
         rotate_left
         · (intro w' hSw; (try dsimp only at hSw); go_simp; (try with_reducible rfl))
         (try simp only [Act.put, sit, scz, scs])
         refine wpAnyH_take (i := 9) (oi := ⟨some 104, _, _, _, _, _⟩) (v := ?_) rfl (by kernel_rfl) (by kernel_rfl) (by kernel_rfl) (fun _ _ _ h => h) (Or.inl ⟨by rfl, ?_⟩) ‹_› ?_
         rotate_left
         · (intro w' hSw; (try dsimp only at hSw); go_simp; (try with_reducible rfl))
         (try simp only [Act.put, sit, scz, scs])
         refine wpAnyH_take (i := 10) (oi := ⟨some 105, _, _, _, _, _⟩) (v := ?_) rfl (by kernel_rfl) (by kernel_rfl) (by kernel_rfl) (fun _ _ _ h => h) (Or.inl ⟨by rfl, ?_⟩) ‹_› ?_
         rotate_left
         · (intro w' hSw; (try dsimp only at hSw); go_simp; (try with_reducible rfl))
         (try simp only [Act.put, sit, scz, scs])
         refine wpAnyH_ready (rs := [13]) (by kernel_rfl) (by simp) ?_
         refine AllReadyH.cons (o := ⟨none, _, _, _, _, _⟩) rfl (fun K hK => ?_) AllReadyH.nil
         go_simp
         refine hK.out _ _ ?_ (fun hh6 => ?_)
         · ((try dsimp only); go_keep)
         clear hK K hh5
         (try simp only [Act.put, sit, scz, scs])
         refine wpAnyH_ready (rs := [14]) (by kernel_rfl) (by simp) ?_
         refine AllReadyH.cons (o := ⟨none, _, _, _, _, _⟩) rfl (fun K hK => ?_) AllReadyH.nil
         go_simp
         refine hK.out _ _ ?_ (fun hh7 => ?_)
         · ((try dsimp only); go_keep)
         clear hK K hh6
         (try simp only [Act.put, sit, scz, scs])
         refine wpAnyH_take (i := 15) (oi := ⟨some 26, _, _, _, _, _⟩) (v := ?_) rfl (by kernel_rfl) (by kernel_rfl) (by kernel_rfl) (fun _ _ _ h => h) (Or.inl ⟨by rfl, ?_⟩) ‹_› ?_
         rotate_left
         · (intro w' hSw; (try dsimp only at hSw); go_simp; (try with_reducible rfl))
         (try simp only [Act.put, sit, scz, scs])
         refine wpAnyH_done (by kernel_rfl) ?_ _
         go_wp2_with fail
         go_meet
         first | (have KF := ((K6.put 0 rfl (decide (y < 0)) E6 l6 k6).put 1 rfl (decide (yr < 0)) E7 l7 k7); (try simp only [List.set, World.size_alloc, World.size_setCell] at KF); have KG := KF.erase 1; simp only [List.eraseIdx] at KG; exact ⟨_, E6, l6, k6, rfl, KG.ints_ ⟨KG.ints.2.1, KG.ints.2.2.2.2.1, KG.ints.2.2.2.2.2.1, KG.ints.2.2.2.2.2.2.1, KG.ints.2.2.2.2.2.2.2.1, trivial⟩⟩) | (have KF := ((K6.put 0 rfl (decide (y < 0)) E6 l6 k6).put 1 rfl (decide (yr < 0)) E7 l7 k7); (try simp only [List.set, World.size_alloc, World.size_setCell] at KF); have KG := KF.erase 1; simp only [List.eraseIdx] at KG; exact ⟨_, E6, l6, k6, rfl, KG.ints_ ⟨KG.ints.2.1, KG.ints.2.2.2.2.1, KG.ints.2.2.2.2.2.1, KG.ints.2.2.2.2.2.2.1, KG.ints.2.2.2.2.2.2.2.1, trivial⟩⟩) | (trace_state; fail)
        refine AllReadyH.cons (o := ⟨some 24, _, _, _, _, _⟩) rfl (fun K hK => ?_) AllReadyH.nil
        go_simp
        have KA11 := KA12.new 24 (Plains.two false none 0 0)
        (try simp only [World.size_alloc] at KA11)
        refine hK.out _ _ ?_ (fun hh2 => ?_)
        · ((try dsimp only); go_keep)
        clear hK K hh1
        (try simp only [Act.put, sit, scz, scs])
        refine wpAnyH_ready (rs := [3]) (by kernel_rfl) (by simp) ?_
        refine AllReadyH.cons (o := ⟨some 99, _, _, _, _, _⟩) rfl (fun K hK => ?_) AllReadyH.nil
        go_simp
        have im3a := KA11.drew.ints.2.2.2.1.ci ka
        have im3b := KA11.drew.ints.1.ci kx
        (go_at_call 95; (with_reducible refine (rmul_at im3a im3b hna hnx).mono ?_); rw [HT.out]; rintro e wm1 ⟨E4, l4, k4, rfl, d4, u4, v4, g4⟩)
        have hnt : l4 ≤ 100000 := (by rw [← d4.len]; exact zt.len2)
        (try go_wp2_with fail)
        have K3 := (KA11.drew.call g4).add (CanAt.mk_ d4 u4 v4)
        clear p0 p1 p2 p3 p4 p5 p6 p7
        obtain ⟨⟨b24x3, b24y3⟩, ⟨b25x3, b25y3⟩, ⟨p0x3, p0y3⟩, ⟨p1x3, p1y3⟩, _, _, _, ⟨p5x3, p5y3⟩, ⟨p6x3, p6y3⟩, _⟩ := K3.facts
        obtain ⟨f24x3, f24y3⟩ := K3.free (i := 0) rfl
        obtain ⟨e240x3, e240y3⟩ := K3.ne 0 2 rfl rfl (by decide)
        obtain ⟨e241x3, e241y3⟩ := K3.ne 0 3 rfl rfl (by decide)
        obtain ⟨e245x3, e245y3⟩ := K3.ne 0 7 rfl rfl (by decide)
        obtain ⟨e246x3, e246y3⟩ := K3.ne 0 8 rfl rfl (by decide)
        obtain ⟨f25x3, f25y3⟩ := K3.free (i := 1) rfl
        obtain ⟨e250x3, e250y3⟩ := K3.ne 1 2 rfl rfl (by decide)
        obtain ⟨e251x3, e251y3⟩ := K3.ne 1 3 rfl rfl (by decide)
        obtain ⟨e255x3, e255y3⟩ := K3.ne 1 7 rfl rfl (by decide)
        obtain ⟨e256x3, e256y3⟩ := K3.ne 1 8 rfl rfl (by decide)
        obtain ⟨eex3, eey3⟩ := K3.ne 0 1 rfl rfl (by decide)
        refine hK.out _ _ ?_ (fun hh3 => ?_)
        · ((try dsimp only); go_keep)
        clear hK K hh2
        (try simp only [Act.put, sit, scz, scs])
        refine wpAnyH_ready (rs := [4]) (by kernel_rfl) (by simp) ?_
        refine AllReadyH.cons (o := ⟨some 100, _, _, _, _, _⟩) rfl (fun K hK => ?_) AllReadyH.nil
        go_simp
        have im4a := K3.ints.2.2.1.ci kg
        have im4b := K3.ints.1.ci kt
        (go_at_call 94; (with_reducible refine (rsub_at im4a im4b hng hnt).mono ?_); rw [HZ.out]; rintro e wm2 ⟨E5, l5, k5, rfl, d5, u5, v5, g5⟩)
        (try go_wp2_with fail)
        have K4 := (K3.call g5).add (CanAt.mk_ d5 u5 v5)
        clear b24x3 b24y3 b25x3 b25y3 p0x3 p0y3 p1x3 p1y3 p5x3 p5y3 p6x3 p6y3 f24x3 f24y3 e240x3 e240y3 e241x3 e241y3 e245x3 e245y3 e246x3 e246y3 f25x3 f25y3 e250x3 e250y3 e251x3 e251y3 e255x3 e255y3 e256x3 e256y3 eex3 eey3
        obtain ⟨⟨b24x4, b24y4⟩, ⟨b25x4, b25y4⟩, ⟨p0x4, p0y4⟩, ⟨p1x4, p1y4⟩, _, _, _, ⟨p5x4, p5y4⟩, ⟨p6x4, p6y4⟩, _⟩ := K4.facts
        obtain ⟨f24x4, f24y4⟩ := K4.free (i := 0) rfl
        obtain ⟨e240x4, e240y4⟩ := K4.ne 0 2 rfl rfl (by decide)
        obtain ⟨e241x4, e241y4⟩ := K4.ne 0 3 rfl rfl (by decide)
        obtain ⟨e245x4, e245y4⟩ := K4.ne 0 7 rfl rfl (by decide)
        obtain ⟨e246x4, e246y4⟩ := K4.ne 0 8 rfl rfl (by decide)
        obtain ⟨f25x4, f25y4⟩ := K4.free (i := 1) rfl
        obtain ⟨e250x4, e250y4⟩ := K4.ne 1 2 rfl rfl (by decide)
        obtain ⟨e251x4, e251y4⟩ := K4.ne 1 3 rfl rfl (by decide)
        obtain ⟨e255x4, e255y4⟩ := K4.ne 1 7 rfl rfl (by decide)
        obtain ⟨e256x4, e256y4⟩ := K4.ne 1 8 rfl rfl (by decide)
        obtain ⟨eex4, eey4⟩ := K4.ne 0 1 rfl rfl (by decide)
        refine hK.out _ _ ?_ (fun hh4 => ?_)
        · ((try dsimp only); go_keep)
        clear hK K hh3
        (try simp only [Act.put, sit, scz, scs])
        refine wpAnyH_ready (rs := [6]) (by kernel_rfl) (by simp) ?_
        refine AllReadyH.cons (o := ⟨some 102, _, _, _, _, _⟩) rfl (fun K hK => ?_) AllReadyH.nil
        go_simp
        have im6a := K4.ints.1.ci kz
        have im6b := K4.ints.2.2.2.2.1.ci kb
        (go_at_call 92; (with_reducible refine (rdivMod_at im6a im6b zz2 zb2).mono ?_); rw [HY.out, HYR.out]; rintro e wm3 ⟨E6, l6, k6, E7, l7, k7, rfl, d6, u6, v6, d7, u7, v7, g6⟩)
        (try go_wp2_with fail)
        have K6 := ((K4.call g6).add (CanAt.mk_ d6 u6 v6)).add (CanAt.mk_ d7 u7 v7)
        clear b24x4 b24y4 b25x4 b25y4 p0x4 p0y4 p1x4 p1y4 p5x4 p5y4 p6x4 p6y4 f24x4 f24y4 e240x4 e240y4 e241x4 e241y4 e245x4 e245y4 e246x4 e246y4 f25x4 f25y4 e250x4 e250y4 e251x4 e251y4 e255x4 e255y4 e256x4 e256y4 eex4 eey4
        obtain ⟨⟨b24x5, b24y5⟩, ⟨b25x5, b25y5⟩, ⟨p0x5, p0y5⟩, ⟨p1x5, p1y5⟩, _, _, _, ⟨p5x5, p5y5⟩, ⟨p6x5, p6y5⟩, _⟩ := K6.facts
        obtain ⟨f24x5, f24y5⟩ := K6.free (i := 0) rfl
        obtain ⟨e240x5, e240y5⟩ := K6.ne 0 2 rfl rfl (by decide)
        obtain ⟨e241x5, e241y5⟩ := K6.ne 0 3 rfl rfl (by decide)
        obtain ⟨e245x5, e245y5⟩ := K6.ne 0 7 rfl rfl (by decide)
        obtain ⟨e246x5, e246y5⟩ := K6.ne 0 8 rfl rfl (by decide)
        obtain ⟨f25x5, f25y5⟩ := K6.free (i := 1) rfl
        obtain ⟨e250x5, e250y5⟩ := K6.ne 1 2 rfl rfl (by decide)
        obtain ⟨e251x5, e251y5⟩ := K6.ne 1 3 rfl rfl (by decide)
        obtain ⟨e255x5, e255y5⟩ := K6.ne 1 7 rfl rfl (by decide)
        obtain ⟨e256x5, e256y5⟩ := K6.ne 1 8 rfl rfl (by decide)
        obtain ⟨eex5, eey5⟩ := K6.ne 0 1 rfl rfl (by decide)
        refine hK.out _ _ ?_ (fun hh5 => ?_)
        · ((try dsimp only); go_keep)
        clear hK K hh4
        (try simp only [Act.put, sit, scz, scs])
        refine wpAnyH_take (i := 7) (oi := ⟨some 95, _, _, _, _, _⟩) (v := ?_) rfl (by kernel_rfl) (by kernel_rfl) (by kernel_rfl) (fun _ _ _ h => h) (Or.inl ⟨by rfl, ?_⟩) ‹_› ?_
        rotate_left
        · (intro w' hSw; (try dsimp only at hSw); go_simp; (try with_reducible rfl))
        (try simp only [Act.put, sit, scz, scs])
        refine wpAnyH_take (i := 8) (oi := ⟨some 103, _, _, _, _, _⟩) (v := ?_) rfl (by kernel_rfl) (by kernel_rfl) (by kernel_rfl) (fun _ _ _ h => h) (Or.inl ⟨by rfl, ?_⟩) ‹_› ?_
        rotate_left
        · (intro w' hSw; (try dsimp only at hSw); go_simp; (try with_reducible rfl))
        (try simp only [Act.put, sit, scz, scs])
        refine wpAnyH_take (i := 9) (oi := ⟨some 104, _, _, _, _, _⟩) (v := ?_) rfl (by kernel_rfl) (by kernel_rfl) (by kernel_rfl) (fun _ _ _ h => h) (Or.inl ⟨by rfl, ?_⟩) ‹_› ?_
        rotate_left
        · (intro w' hSw; (try dsimp only at hSw); go_simp; (try with_reducible rfl))
        (try simp only [Act.put, sit, scz, scs])
        refine wpAnyH_take (i := 10) (oi := ⟨some 105, _, _, _, _, _⟩) (v := ?_) rfl (by kernel_rfl) (by kernel_rfl) (by kernel_rfl) (fun _ _ _ h => h) (Or.inl ⟨by rfl, ?_⟩) ‹_› ?_
        rotate_left
        · (intro w' hSw; (try dsimp only at hSw); go_simp; (try with_reducible rfl))
        (try simp only [Act.put, sit, scz, scs])
        refine wpAnyH_ready (rs := [13]) (by kernel_rfl) (by simp) ?_
        refine AllReadyH.cons (o := ⟨none, _, _, _, _, _⟩) rfl (fun K hK => ?_) AllReadyH.nil
        go_simp
        refine hK.out _ _ ?_ (fun hh6 => ?_)
        · ((try dsimp only); go_keep)
        clear hK K hh5
        (try simp only [Act.put, sit, scz, scs])
        refine wpAnyH_ready (rs := [14]) (by kernel_rfl) (by simp) ?_
        refine AllReadyH.cons (o := ⟨none, _, _, _, _, _⟩) rfl (fun K hK => ?_) AllReadyH.nil
        go_simp
        refine hK.out _ _ ?_ (fun hh7 => ?_)
        · ((try dsimp only); go_keep)
        clear hK K hh6
        (try simp only [Act.put, sit, scz, scs])
        refine wpAnyH_take (i := 15) (oi := ⟨some 26, _, _, _, _, _⟩) (v := ?_) rfl (by kernel_rfl) (by kernel_rfl) (by kernel_rfl) (fun _ _ _ h => h) (Or.inl ⟨by rfl, ?_⟩) ‹_› ?_
        rotate_left
        · (intro w' hSw; (try dsimp only at hSw); go_simp; (try with_reducible rfl))
        (try simp only [Act.put, sit, scz, scs])
        refine wpAnyH_done (by kernel_rfl) ?_ _
        go_wp2_with fail
        go_meet
        first | (have KF := ((K6.put 0 rfl (decide (y < 0)) E6 l6 k6).put 1 rfl (decide (yr < 0)) E7 l7 k7); (try simp only [List.set, World.size_alloc, World.size_setCell] at KF); have KG := KF.erase 1; simp only [List.eraseIdx] at KG; exact ⟨_, E6, l6, k6, rfl, KG.ints_ ⟨KG.ints.2.1, KG.ints.2.2.2.2.1, KG.ints.2.2.2.2.2.1, KG.ints.2.2.2.2.2.2.1, KG.ints.2.2.2.2.2.2.2.1, trivial⟩⟩) | (have KF := ((K6.put 0 rfl (decide (y < 0)) E6 l6 k6).put 1 rfl (decide (yr < 0)) E7 l7 k7); (try simp only [List.set, World.size_alloc, World.size_setCell] at KF); have KG := KF.erase 1; simp only [List.eraseIdx] at KG; exact ⟨_, E6, l6, k6, rfl, KG.ints_ ⟨KG.ints.2.1, KG.ints.2.2.2.2.1, KG.ints.2.2.2.2.2.1, KG.ints.2.2.2.2.2.2.1, KG.ints.2.2.2.2.2.2.2.1, trivial⟩⟩) | (trace_state; fail)
       case rest =>
        clear K3
        obtain ⟨h24, E6, l6, k6, rfl, KE⟩ := hcut
        obtain ⟨y1, y2⟩ := KE.ne 0 3 rfl rfl (by decide)
        obtain ⟨y3, y4⟩ := KE.ne 0 4 rfl rfl (by decide)
        obtain ⟨y5, y6⟩ := KE.ne 0 5 rfl rfl (by decide)
        obtain ⟨y7, y8⟩ := KE.ne 1 3 rfl rfl (by decide)
        obtain ⟨y9, ya⟩ := KE.ne 1 4 rfl rfl (by decide)
        obtain ⟨yb, yc⟩ := KE.ne 1 5 rfl rfl (by decide)
        obtain ⟨yd, ye⟩ := KE.ne 2 3 rfl rfl (by decide)
        obtain ⟨yf, yg⟩ := KE.ne 2 4 rfl rfl (by decide)
        obtain ⟨yh, yi⟩ := KE.ne 2 5 rfl rfl (by decide)
        obtain ⟨⟨p0, p1⟩, ⟨p2, p3⟩, ⟨p4, p5⟩, ⟨p6, p7⟩, ⟨p8, p9⟩, ⟨pa, pb⟩, _⟩ := KE.facts
        obtain ⟨f0, f1⟩ := KE.free (i := 3) rfl
        obtain ⟨f2, f3⟩ := KE.free (i := 4) rfl
        obtain ⟨f4, f5⟩ := KE.free (i := 5) rfl
        have KF := (((KE.put 5 rfl (decide (g < 0)) A3 n3 c3).put 4 rfl (decide (x < 0)) Bx mx ex).put 3 rfl (decide (y < 0)) E6 l6 k6).drew
        simp only [List.set] at KF
        go_upto_region 16 with fail
        go_region_held3 (fun w' => w'.cell? ⟨h24, 0, none⟩ = some (.bool (decide (y < 0))) ∧ w'.cell? ⟨h24, 1, none⟩ = some (.slice E6 l6 k6) ∧ w'.cell? ⟨h22, 0, none⟩ = some (.bool (decide (x < 0))) ∧ w'.cell? ⟨h22, 1, none⟩ = some (.slice Bx mx ex) ∧ w'.cell? ⟨h7, 0, none⟩ = some (.bool (decide (g < 0))) ∧ w'.cell? ⟨h7, 1, none⟩ = some (.slice A3 n3 c3))
         (go_keep)
         (fail)
        go_wp2_with fail
        generalize (((((((wc.setCell ⟨w.heap.size + 1 + 1, 0, none⟩ (.bool (decide (g < 0)))).setCell ⟨w.heap.size + 1 + 1, 1, none⟩ (.slice A3 n3 c3)).setCell ⟨w.heap.size + 1 + 1 + 1, 0, none⟩ (.bool (decide (x < 0)))).setCell ⟨w.heap.size + 1 + 1 + 1, 1, none⟩ (.slice Bx mx ex)).setCell ⟨w.heap.size + 1 + 1 + 1 + 1, 0, none⟩ (.bool (decide (y < 0)))).setCell ⟨w.heap.size + 1 + 1 + 1 + 1, 1, none⟩ (.slice E6 l6 k6))).drew = WF at KF ⊢
        obtain ⟨_, _, _, ⟨r4, r5⟩, ⟨r2, r3⟩, ⟨r0', r1⟩, _⟩ := KF.facts
        obtain ⟨iy, ix, ig, _⟩ := KF.ints
        refine bodyPost_ret (v := .tuple #[.agg #[.bool (decide (g < 0)), .slice A3 n3 c3], .agg #[.bool (decide (x < 0)), .slice Bx mx ex], .agg #[.bool (decide (y < 0)), .slice E6 l6 k6]]) (by simp [results, Try.results17, go_sem, r0', r1, r2, r3, r4, r5]) rfl ?_
        exact ⟨g, x, y, A3, n3, c3, Bx, mx, ex, E6, l6, k6, HE.out.1, zg0.mono (by decide), zx1.mono (by decide), zy.mono (by decide), rfl, ig.c, ix.c, iy.c, KF.below⟩
      ·
       obtain ⟨q, HQ⟩ : ∃ v, Hid (dmQ r0 r = v) := ⟨_, rfl⟩
       obtain ⟨p, HP⟩ : ∃ v, Hid (dmR r0 r = v) := ⟨_, rfl⟩
       obtain ⟨t, HT⟩ : ∃ v, Hid (q * y0 = v) := ⟨_, rfl⟩
       obtain ⟨z, HZ⟩ : ∃ v, Hid (x0 - t = v) := ⟨_, rfl⟩
       have hr0 : 0 < r := by obtain ⟨X, N, s, -, -, -, -, -, -, -, -, h, -⟩ := hS; omega
       have hqe : dmQ r0 r = r0 / r := by unfold dmQ; rw [if_neg (by omega), if_pos hr0]
       have hpe : dmR r0 r = r0 % r := by unfold dmR; rw [if_neg (by omega), if_pos hr0]
       have HS2 : Hid (Sol p0' m r p y0 z) := by
        have := hS.step hr0
        rw [← hqe, ← hpe, HQ.out, HP.out, HT.out, HZ.out] at this
        exact this
       have hgm : r0.natAbs ≤ m.natAbs ∧ r.natAbs ≤ m.natAbs := by obtain ⟨X, N, s, -, -, -, -, -, -, -, h1, h2, h3, h4, -⟩ := hS; omega
       have zr0 := zm0.le hgm.1
       have zr := zm0.le hgm.2
       have zy := zm0.le hS.next_le.1
       have zx := zm0.le hS.next_le.2
       have zq : Sz q 101 := by rw [← HQ.out]; exact dmQ_sz zr0
       have zr02 : Sz r0 2000 := zr0.mono (by decide)
       have zr2 : Sz r 2000 := zr.mono (by decide)
       have kr0 := zr0.ok
       have kr := zr.ok
       have ky := zy.ok
       have kx := zx.ok
       have kq := zq.ok
       have zt : Sz t 201 := by rw [← HT.out]; exact zq.mul zy
       have kt := zt.ok
       have HPR : Hid (p.natAbs < r.natAbs) := by rw [← HP.out]; exact (euclid_rest r0 hr).2
       obtain ⟨iy, ix, ir, ir0, _⟩ := K.ints
       have hn1 : 0 < nr := digs_lenp ir.c hr
       have hny : ny ≤ 100000 := by rw [← iy.c.2.1.len]; exact zy.len2
       have hnx : nx ≤ 100000 := by rw [← ix.c.2.1.len]; exact zx.len2
       have HK := Lib.hid hk
       clear hS hk hr hr0 hqe hpe hgm
       obtain ⟨⟨a0, a1⟩, ⟨p0, p1⟩, ⟨p2, p3⟩, ⟨p4, p5⟩, _⟩ := K.facts
       go_upto_region 12 with (first
        | (go_at_call 92; (with_reducible refine (rdivMod_at (ir0.ci kr0) (ir.ci kr) zr02 zr2).mono ?_); rw [HQ.out, HP.out]; rintro e w5 ⟨Aq, nq, cq, Ap, np, cp, rfl, d5, u5, v5, d6, u6, v6, g5⟩; have K5 := (((((K.call g5).add (CanAt.mk_ d6 u6 v6)).add (CanAt.mk_ d5 u5 v5)).new 24 (Plains.two (decide (q < 0)) Aq nq cq)).new 24 (Plains.two (decide (p < 0)) Ap np cp)))
        | fail)
       simp only [World.size_alloc] at K5
       have hnq : nq ≤ 100000 := by rw [← d5.len]; exact zq.len2
       clear iy ix ir ir0 a0 a1 p0 p1 p2 p3 p4 p5 d5 d6 g5 K
       generalize (w5.alloc (.cells #[.bool (decide (q < 0)), .slice Aq nq cq] 24)).alloc (.cells #[.bool (decide (p < 0)), .slice Ap np cp] 24) = W5 at K5 ⊢
       obtain ⟨h18, H18⟩ : ∃ v, v = w5.heap.size := ⟨_, rfl⟩
       rw [← H18] at K5 ⊢
       obtain ⟨h19, H19⟩ : ∃ v, v = h18 + 1 := ⟨_, rfl⟩
       rw [← H19] at K5 ⊢
       clear H18 H19
       go_cut [] (fun wx => St w wx [vi h19 (decide (p < 0)) Ap np cp, vi h18 (decide (q < 0)) Aq nq cq, vi h17 (decide (y0 < 0)) Ay ny cy, vi h16 (decide (x0 < 0)) Ax nx cx, vi h15 (decide (p < 0)) Ap np cp, vi h14 (decide (r < 0)) Ar nr cr, vi h8 (decide (m < 0)) A5 n5 c5, vi h7 (decide (g < 0)) A3 n3 c3, vi (w.heap.size + 1 + 1 + 1 + 1) false none 0 0, vi (w.heap.size + 1 + 1 + 1) false none 0 0, vi (w.heap.size + 1 + 1) false none 0 0, vi (w.heap.size + 1) (decide (b < 0)) A2 n2 c2, vi w.heap.size (decide (a < 0)) A1 n1 c1]
        [((decide (q < 0)), Aq, nq, cq, q, true), ((decide (p < 0)), Ap, np, cp, p, true), ((decide (y0 < 0)), Ay, ny, cy, y0, true), ((decide (x0 < 0)), Ax, nx, cx, x0, true), ((decide (r < 0)), Ar, nr, cr, r, true), ((decide (r0 < 0)), A0, n0, c0, r0, true), ((decide (m < 0)), A5, n5, c5, m, true), ((decide (g < 0)), A3, n3, c3, g, true), ((decide (b < 0)), A2, n2, c2, b, true), ((decide (a < 0)), A1, n1, c1, a, true)])
       case first =>
        obtain ⟨z1, z2⟩ := K5.ne 0 4 rfl rfl (by decide)
        obtain ⟨z3, z4⟩ := K5.ne 0 5 rfl rfl (by decide)
        obtain ⟨z5, z6⟩ := K5.ne 4 5 rfl rfl (by decide)
        obtain ⟨⟨p0, p1⟩, _, _, _, ⟨p2, p3⟩, ⟨p4, p5⟩, _⟩ := K5.facts
        obtain ⟨f0, f1⟩ := K5.free (i := 4) rfl
        obtain ⟨f2, f3⟩ := K5.free (i := 5) rfl
        skip
        go_region
        all_goals (go_wp2_with fail; go_meet; exact ((K5.put 5 rfl (decide (r < 0)) Ar nr cr).put 4 rfl (decide (p < 0)) Ap np cp).drew)
       case rest =>
        clear K5
        have K6 := hcut.erase 0
        simp only [List.eraseIdx] at K6
        clear hcut
        obtain ⟨z1, z2⟩ := K6.ne 0 1 rfl rfl (by decide)
        obtain ⟨z3, z4⟩ := K6.ne 0 2 rfl rfl (by decide)
        obtain ⟨z5, z6⟩ := K6.ne 1 2 rfl rfl (by decide)
        obtain ⟨⟨p0, p1⟩, ⟨p2, p3⟩, ⟨p4, p5⟩, _⟩ := K6.facts
        have K7 := K6.drew
        clear K6
        go_wp2_with fail
        obtain ⟨iq, _, iy, ix, _⟩ := K7.ints
        skip
        refine wp_region_held_drew (S := fun w' => w'.cell? ⟨h18, 0, none⟩ = some (.bool (decide (q < 0))) ∧ w'.cell? ⟨h18, 1, none⟩ = some (.slice Aq nq cq)) (by kernel_rfl) ?_ (fun hh0 => ?_)
        · ((try dsimp only); go_keep)
        refine wpAnyH_take (i := 2) (oi := ⟨some 84, _, _, _, _, _⟩) (v := ?_) rfl (by kernel_rfl) (by kernel_rfl) (by kernel_rfl) (fun _ _ _ h => h) (Or.inl ⟨by rfl, ?_⟩) ‹_› ?_
        rotate_left
        · (intro w' hSw; (try dsimp only at hSw); go_simp; (try with_reducible rfl))
        (try simp only [Act.put, sit, scz, scs])
        refine wpAnyH_ready (rs := [0, 1, 3]) (by kernel_rfl) (by simp) ?_
        refine AllReadyH.cons (o := ⟨some 82, _, _, _, _, _⟩) rfl (fun K hK => ?_) ?_
        ·
         go_simp
         refine hK.out _ _ ?_ (fun hh1 => ?_)
         · ((try dsimp only); go_keep)
         clear hK K hh0
         (try simp only [Act.put, sit, scz, scs])
         refine wpAnyH_ready (rs := [1, 3]) (by kernel_rfl) (by simp) ?_
         refine AllReadyH.cons (o := ⟨some 83, _, _, _, _, _⟩) rfl (fun K hK => ?_) ?_
         ·
          go_simp
          refine hK.out _ _ ?_ (fun hh2 => ?_)
          · ((try dsimp only); go_keep)
          clear hK K hh1
          (try simp only [Act.put, sit, scz, scs])
          refine wpAnyH_ready (rs := [3]) (by kernel_rfl) (by simp) ?_
          refine AllReadyH.cons (o := ⟨some 85, _, _, _, _, _⟩) rfl (fun K hK => ?_) AllReadyH.nil
          go_simp
          refine hK.out _ _ ?_ (fun hh3 => ?_)
          · ((try dsimp only); go_keep)
          clear hK K hh2
          (try simp only [Act.put, sit, scz, scs])
          refine wpAnyH_ready (rs := [4]) (by kernel_rfl) (by simp) ?_
          refine AllReadyH.cons (o := ⟨some 86, _, _, _, _, _⟩) rfl (fun K hK => ?_) AllReadyH.nil
          go_simp
          (first | (go_at_call 95; (with_reducible refine (rmul_at (iq.ci kq) (iy.ci ky) hnq hny).mono ?_); rw [HT.out]; rintro e w7 ⟨E7, l7, k7, rfl, d7, u7, v7, g7⟩; have K8 := (K7.call g7).add (CanAt.mk_ d7 u7 v7); have hnt : l7 ≤ 100000 := (by rw [← d7.len]; exact zt.len2); clear p0 p1 p2 p3 p4 p5; obtain ⟨⟨p0, p1⟩, ⟨p2, p3⟩, ⟨p4, p5⟩, _⟩ := K8.facts; obtain ⟨i7, _, _, _, jx, _⟩ := K8.ints) | (go_at_call 94; (with_reducible refine (rsub_at (jx.ci kx) (i7.ci kt) hnx hnt).mono ?_); rw [HZ.out]; rintro e w8 ⟨E8, l8, k8, rfl, d8, u8, v8, g8⟩; have K9 := (K8.call g8).add (CanAt.mk_ d8 u8 v8); clear p0 p1 p2 p3 p4 p5; obtain ⟨⟨p0, p1⟩, ⟨p2, p3⟩, ⟨p4, p5⟩, _⟩ := K9.facts; obtain ⟨f0, f1⟩ := K9.free (i := 2) rfl; obtain ⟨f2, f3⟩ := K9.free (i := 1) rfl) | fail)
          (try go_wp2_with fail)
          refine hK.out _ _ ?_ (fun hh4 => ?_)
          · ((try dsimp only); go_keep)
          clear hK K hh3
          (try simp only [Act.put, sit, scz, scs])
          refine wpAnyH_ready (rs := [5]) (by kernel_rfl) (by simp) ?_
          refine AllReadyH.cons (o := ⟨some 87, _, _, _, _, _⟩) rfl (fun K hK => ?_) AllReadyH.nil
          go_simp
          (first | (go_at_call 95; (with_reducible refine (rmul_at (iq.ci kq) (iy.ci ky) hnq hny).mono ?_); rw [HT.out]; rintro e w7 ⟨E7, l7, k7, rfl, d7, u7, v7, g7⟩; have K8 := (K7.call g7).add (CanAt.mk_ d7 u7 v7); have hnt : l7 ≤ 100000 := (by rw [← d7.len]; exact zt.len2); clear p0 p1 p2 p3 p4 p5; obtain ⟨⟨p0, p1⟩, ⟨p2, p3⟩, ⟨p4, p5⟩, _⟩ := K8.facts; obtain ⟨i7, _, _, _, jx, _⟩ := K8.ints) | (go_at_call 94; (with_reducible refine (rsub_at (jx.ci kx) (i7.ci kt) hnx hnt).mono ?_); rw [HZ.out]; rintro e w8 ⟨E8, l8, k8, rfl, d8, u8, v8, g8⟩; have K9 := (K8.call g8).add (CanAt.mk_ d8 u8 v8); clear p0 p1 p2 p3 p4 p5; obtain ⟨⟨p0, p1⟩, ⟨p2, p3⟩, ⟨p4, p5⟩, _⟩ := K9.facts; obtain ⟨f0, f1⟩ := K9.free (i := 2) rfl; obtain ⟨f2, f3⟩ := K9.free (i := 1) rfl) | fail)
          (try go_wp2_with fail)
          refine hK.out _ _ ?_ (fun hh5 => ?_)
          · ((try dsimp only); go_keep)
          clear hK K hh4
          (try simp only [Act.put, sit, scz, scs])
          refine wpAnyH_ready (rs := [6]) (by kernel_rfl) (by simp) ?_
          refine AllReadyH.cons (o := ⟨none, _, _, _, _, _⟩) rfl (fun K hK => ?_) AllReadyH.nil
          go_simp
          refine hK.out _ _ ?_ (fun hh6 => ?_)
          · ((try dsimp only); go_keep)
          clear hK K hh5
          (try simp only [Act.put, sit, scz, scs])
          refine wpAnyH_ready (rs := [7]) (by kernel_rfl) (by simp) ?_
          refine AllReadyH.cons (o := ⟨none, _, _, _, _, _⟩) rfl (fun K hK => ?_) AllReadyH.nil
          go_simp
          refine hK.out _ _ ?_ (fun hh7 => ?_)
          · ((try dsimp only); go_keep)
          clear hK K hh6
          (try simp only [Act.put, sit, scz, scs])
          refine wpAnyH_done (by kernel_rfl) ?_ _
          have KA := (K9.put 2 rfl (decide (y0 < 0)) Ay ny cy).put 1 rfl (decide (z < 0)) E8 l8 k8
          simp only [List.set] at KA
          go_wp2_with fail
          go_roundg p.natAbs
          case rel =>
           have KB := KA.erase 0
           simp only [List.eraseIdx] at KB
           obtain ⟨iz, _, _, ip, iy, _, ir, _, im, ig, ib, ia, _⟩ := KB.ints
           exact ⟨r, p, y0, z, Ar, Ap, Ay, E8, nr, cr, np, cp, ny, cy, l8, k8, rfl, HS2.out, KB.ints_ ⟨iz, iy, ip, ir, im, ig, ib, ia, trivial⟩⟩
          case measure => (have := HPR.out; have := HK.out; omega)
         refine AllReadyH.cons (o := ⟨some 85, _, _, _, _, _⟩) rfl (fun K hK => ?_) AllReadyH.nil
         go_simp
         refine hK.out _ _ ?_ (fun hh2 => ?_)
         · ((try dsimp only); go_keep)
         clear hK K hh1
         (try simp only [Act.put, sit, scz, scs])
         refine wpAnyH_ready (rs := [1, 4]) (by kernel_rfl) (by simp) ?_
         refine AllReadyH.cons (o := ⟨some 83, _, _, _, _, _⟩) rfl (fun K hK => ?_) ?_
         ·
          go_simp
          refine hK.out _ _ ?_ (fun hh3 => ?_)
          · ((try dsimp only); go_keep)
          clear hK K hh2
          (try simp only [Act.put, sit, scz, scs])
          refine wpAnyH_ready (rs := [4]) (by kernel_rfl) (by simp) ?_
          refine AllReadyH.cons (o := ⟨some 86, _, _, _, _, _⟩) rfl (fun K hK => ?_) AllReadyH.nil
          go_simp
          (first | (go_at_call 95; (with_reducible refine (rmul_at (iq.ci kq) (iy.ci ky) hnq hny).mono ?_); rw [HT.out]; rintro e w7 ⟨E7, l7, k7, rfl, d7, u7, v7, g7⟩; have K8 := (K7.call g7).add (CanAt.mk_ d7 u7 v7); have hnt : l7 ≤ 100000 := (by rw [← d7.len]; exact zt.len2); clear p0 p1 p2 p3 p4 p5; obtain ⟨⟨p0, p1⟩, ⟨p2, p3⟩, ⟨p4, p5⟩, _⟩ := K8.facts; obtain ⟨i7, _, _, _, jx, _⟩ := K8.ints) | (go_at_call 94; (with_reducible refine (rsub_at (jx.ci kx) (i7.ci kt) hnx hnt).mono ?_); rw [HZ.out]; rintro e w8 ⟨E8, l8, k8, rfl, d8, u8, v8, g8⟩; have K9 := (K8.call g8).add (CanAt.mk_ d8 u8 v8); clear p0 p1 p2 p3 p4 p5; obtain ⟨⟨p0, p1⟩, ⟨p2, p3⟩, ⟨p4, p5⟩, _⟩ := K9.facts; obtain ⟨f0, f1⟩ := K9.free (i := 2) rfl; obtain ⟨f2, f3⟩ := K9.free (i := 1) rfl) | fail)
          (try go_wp2_with fail)
          refine hK.out _ _ ?_ (fun hh4 => ?_)
          · ((try dsimp only); go_keep)
          clear hK K hh3
          (try simp only [Act.put, sit, scz, scs])
          refine wpAnyH_ready (rs := [5]) (by kernel_rfl) (by simp) ?_
          refine AllReadyH.cons (o := ⟨some 87, _, _, _, _, _⟩) rfl (fun K hK => ?_) AllReadyH.nil
          go_simp
          (first | (go_at_call 95; (with_reducible refine (rmul_at (iq.ci kq) (iy.ci ky) hnq hny).mono ?_); rw [HT.out]; rintro e w7 ⟨E7, l7, k7, rfl, d7, u7, v7, g7⟩; have K8 := (K7.call g7).add (CanAt.mk_ d7 u7 v7); have hnt : l7 ≤ 100000 := (by rw [← d7.len]; exact zt.len2); clear p0 p1 p2 p3 p4 p5; obtain ⟨⟨p0, p1⟩, ⟨p2, p3⟩, ⟨p4, p5⟩, _⟩ := K8.facts; obtain ⟨i7, _, _, _, jx, _⟩ := K8.ints) | (go_at_call 94; (with_reducible refine (rsub_at (jx.ci kx) (i7.ci kt) hnx hnt).mono ?_); rw [HZ.out]; rintro e w8 ⟨E8, l8, k8, rfl, d8, u8, v8, g8⟩; have K9 := (K8.call g8).add (CanAt.mk_ d8 u8 v8); clear p0 p1 p2 p3 p4 p5; obtain ⟨⟨p0, p1⟩, ⟨p2, p3⟩, ⟨p4, p5⟩, _⟩ := K9.facts; obtain ⟨f0, f1⟩ := K9.free (i := 2) rfl; obtain ⟨f2, f3⟩ := K9.free (i := 1) rfl) | fail)
          (try go_wp2_with fail)
          refine hK.out _ _ ?_ (fun hh5 => ?_)
          · ((try dsimp only); go_keep)
          clear hK K hh4
          (try simp only [Act.put, sit, scz, scs])
          refine wpAnyH_ready (rs := [6]) (by kernel_rfl) (by simp) ?_
          refine AllReadyH.cons (o := ⟨none, _, _, _, _, _⟩) rfl (fun K hK => ?_) AllReadyH.nil
          go_simp
          refine hK.out _ _ ?_ (fun hh6 => ?_)
          · ((try dsimp only); go_keep)
          clear hK K hh5
          (try simp only [Act.put, sit, scz, scs])
          refine wpAnyH_ready (rs := [7]) (by kernel_rfl) (by simp) ?_
          refine AllReadyH.cons (o := ⟨none, _, _, _, _, _⟩) rfl (fun K hK => ?_) AllReadyH.nil
          go_simp
          refine hK.out _ _ ?_ (fun hh7 => ?_)
          · ((try dsimp only); go_keep)
          clear hK K hh6
          (try simp only [Act.put, sit, scz, scs])
          refine wpAnyH_done (by kernel_rfl) ?_ _
          have KA := (K9.put 2 rfl (decide (y0 < 0)) Ay ny cy).put 1 rfl (decide (z < 0)) E8 l8 k8
          simp only [List.set] at KA
          go_wp2_with fail
          go_roundg p.natAbs
          case rel =>
           have KB := KA.erase 0
           simp only [List.eraseIdx] at KB
           obtain ⟨iz, _, _, ip, iy, _, ir, _, im, ig, ib, ia, _⟩ := KB.ints
           exact ⟨r, p, y0, z, Ar, Ap, Ay, E8, nr, cr, np, cp, ny, cy, l8, k8, rfl, HS2.out, KB.ints_ ⟨iz, iy, ip, ir, im, ig, ib, ia, trivial⟩⟩
          case measure => (have := HPR.out; have := HK.out; omega)
         refine AllReadyH.cons (o := ⟨some 86, _, _, _, _, _⟩) rfl (fun K hK => ?_) AllReadyH.nil
         go_simp
         (first | (go_at_call 95; (with_reducible refine (rmul_at (iq.ci kq) (iy.ci ky) hnq hny).mono ?_); rw [HT.out]; rintro e w7 ⟨E7, l7, k7, rfl, d7, u7, v7, g7⟩; have K8 := (K7.call g7).add (CanAt.mk_ d7 u7 v7); have hnt : l7 ≤ 100000 := (by rw [← d7.len]; exact zt.len2); clear p0 p1 p2 p3 p4 p5; obtain ⟨⟨p0, p1⟩, ⟨p2, p3⟩, ⟨p4, p5⟩, _⟩ := K8.facts; obtain ⟨i7, _, _, _, jx, _⟩ := K8.ints) | (go_at_call 94; (with_reducible refine (rsub_at (jx.ci kx) (i7.ci kt) hnx hnt).mono ?_); rw [HZ.out]; rintro e w8 ⟨E8, l8, k8, rfl, d8, u8, v8, g8⟩; have K9 := (K8.call g8).add (CanAt.mk_ d8 u8 v8); clear p0 p1 p2 p3 p4 p5; obtain ⟨⟨p0, p1⟩, ⟨p2, p3⟩, ⟨p4, p5⟩, _⟩ := K9.facts; obtain ⟨f0, f1⟩ := K9.free (i := 2) rfl; obtain ⟨f2, f3⟩ := K9.free (i := 1) rfl) | fail)
         (try go_wp2_with fail)
         refine hK.out _ _ ?_ (fun hh3 => ?_)
         · ((try dsimp only); go_keep)
         clear hK K hh2
         (try simp only [Act.put, sit, scz, scs])
         refine wpAnyH_ready (rs := [1]) (by kernel_rfl) (by simp) ?_
         refine AllReadyH.cons (o := ⟨some 83, _, _, _, _, _⟩) rfl (fun K hK => ?_) AllReadyH.nil
         go_simp
         refine hK.out _ _ ?_ (fun hh4 => ?_)
         · ((try dsimp only); go_keep)
         clear hK K hh3
         (try simp only [Act.put, sit, scz, scs])
         refine wpAnyH_ready (rs := [5]) (by kernel_rfl) (by simp) ?_
         refine AllReadyH.cons (o := ⟨some 87, _, _, _, _, _⟩) rfl (fun K hK => ?_) AllReadyH.nil
         go_simp
         (first | (go_at_call 95; (with_reducible refine (rmul_at (iq.ci kq) (iy.ci ky) hnq hny).mono ?_); rw [HT.out]; rintro e w7 ⟨E7, l7, k7, rfl, d7, u7, v7, g7⟩; have K8 := (K7.call g7).add (CanAt.mk_ d7 u7 v7); have hnt : l7 ≤ 100000 := (by rw [← d7.len]; exact zt.len2); clear p0 p1 p2 p3 p4 p5; obtain ⟨⟨p0, p1⟩, ⟨p2, p3⟩, ⟨p4, p5⟩, _⟩ := K8.facts; obtain ⟨i7, _, _, _, jx, _⟩ := K8.ints) | (go_at_call 94; (with_reducible refine (rsub_at (jx.ci kx) (i7.ci kt) hnx hnt).mono ?_); rw [HZ.out]; rintro e w8 ⟨E8, l8, k8, rfl, d8, u8, v8, g8⟩; have K9 := (K8.call g8).add (CanAt.mk_ d8 u8 v8); clear p0 p1 p2 p3 p4 p5; obtain ⟨⟨p0, p1⟩, ⟨p2, p3⟩, ⟨p4, p5⟩, _⟩ := K9.facts; obtain ⟨f0, f1⟩ := K9.free (i := 2) rfl; obtain ⟨f2, f3⟩ := K9.free (i := 1) rfl) | fail)
         (try go_wp2_with fail)
         refine hK.out _ _ ?_ (fun hh5 => ?_)
         · ((try dsimp only); go_keep)
         clear hK K hh4
         (try simp only [Act.put, sit, scz, scs])
         refine wpAnyH_ready (rs := [6]) (by kernel_rfl) (by simp) ?_
         refine AllReadyH.cons (o := ⟨none, _, _, _, _, _⟩) rfl (fun K hK => ?_) AllReadyH.nil
         go_simp
         refine hK.out _ _ ?_ (fun hh6 => ?_)
         · ((try dsimp only); go_keep)
         clear hK K hh5
         (try simp only [Act.put, sit, scz, scs])
         refine wpAnyH_ready (rs := [7]) (by kernel_rfl) (by simp) ?_
         refine AllReadyH.cons (o := ⟨none, _, _, _, _, _⟩) rfl (fun K hK => ?_) AllReadyH.nil
         go_simp
         refine hK.out _ _ ?_ (fun hh7 => ?_)
         · ((try dsimp only); go_keep)
         clear hK K hh6
         (try simp only [Act.put, sit, scz, scs])
         refine wpAnyH_done (by kernel_rfl) ?_ _
         have KA := (K9.put 2 rfl (decide (y0 < 0)) Ay ny cy).put 1 rfl (decide (z < 0)) E8 l8 k8
         simp only [List.set] at KA
         go_wp2_with fail
         go_roundg p.natAbs
         case rel =>
          have KB := KA.erase 0
          simp only [List.eraseIdx] at KB
          obtain ⟨iz, _, _, ip, iy, _, ir, _, im, ig, ib, ia, _⟩ := KB.ints
          exact ⟨r, p, y0, z, Ar, Ap, Ay, E8, nr, cr, np, cp, ny, cy, l8, k8, rfl, HS2.out, KB.ints_ ⟨iz, iy, ip, ir, im, ig, ib, ia, trivial⟩⟩
         case measure => (have := HPR.out; have := HK.out; omega)
        refine AllReadyH.cons (o := ⟨some 83, _, _, _, _, _⟩) rfl (fun K hK => ?_) ?_
        ·
         go_simp
         refine hK.out _ _ ?_ (fun hh1 => ?_)
         · ((try dsimp only); go_keep)
         clear hK K hh0
         (try simp only [Act.put, sit, scz, scs])
         refine wpAnyH_ready (rs := [0, 3]) (by kernel_rfl) (by simp) ?_
         refine AllReadyH.cons (o := ⟨some 82, _, _, _, _, _⟩) rfl (fun K hK => ?_) ?_
         ·
          go_simp
          refine hK.out _ _ ?_ (fun hh2 => ?_)
          · ((try dsimp only); go_keep)
          clear hK K hh1
          (try simp only [Act.put, sit, scz, scs])
          refine wpAnyH_ready (rs := [3]) (by kernel_rfl) (by simp) ?_
          refine AllReadyH.cons (o := ⟨some 85, _, _, _, _, _⟩) rfl (fun K hK => ?_) AllReadyH.nil
          go_simp
          refine hK.out _ _ ?_ (fun hh3 => ?_)
          · ((try dsimp only); go_keep)
          clear hK K hh2
          (try simp only [Act.put, sit, scz, scs])
          refine wpAnyH_ready (rs := [4]) (by kernel_rfl) (by simp) ?_
          refine AllReadyH.cons (o := ⟨some 86, _, _, _, _, _⟩) rfl (fun K hK => ?_) AllReadyH.nil
          go_simp
          (first | (go_at_call 95; (with_reducible refine (rmul_at (iq.ci kq) (iy.ci ky) hnq hny).mono ?_); rw [HT.out]; rintro e w7 ⟨E7, l7, k7, rfl, d7, u7, v7, g7⟩; have K8 := (K7.call g7).add (CanAt.mk_ d7 u7 v7); have hnt : l7 ≤ 100000 := (by rw [← d7.len]; exact zt.len2); clear p0 p1 p2 p3 p4 p5; obtain ⟨⟨p0, p1⟩, ⟨p2, p3⟩, ⟨p4, p5⟩, _⟩ := K8.facts; obtain ⟨i7, _, _, _, jx, _⟩ := K8.ints) | (go_at_call 94; (with_reducible refine (rsub_at (jx.ci kx) (i7.ci kt) hnx hnt).mono ?_); rw [HZ.out]; rintro e w8 ⟨E8, l8, k8, rfl, d8, u8, v8, g8⟩; have K9 := (K8.call g8).add (CanAt.mk_ d8 u8 v8); clear p0 p1 p2 p3 p4 p5; obtain ⟨⟨p0, p1⟩, ⟨p2, p3⟩, ⟨p4, p5⟩, _⟩ := K9.facts; obtain ⟨f0, f1⟩ := K9.free (i := 2) rfl; obtain ⟨f2, f3⟩ := K9.free (i := 1) rfl) | fail)
          (try go_wp2_with fail)
          refine hK.out _ _ ?_ (fun hh4 => ?_)
          · ((try dsimp only); go_keep)
          clear hK K hh3
          (try simp only [Act.put, sit, scz, scs])
          refine wpAnyH_ready (rs := [5]) (by kernel_rfl) (by simp) ?_
          refine AllReadyH.cons (o := ⟨some 87, _, _, _, _, _⟩) rfl (fun K hK => ?_) AllReadyH.nil
          go_simp
          (first | (go_at_call 95; (with_reducible refine (rmul_at (iq.ci kq) (iy.ci ky) hnq hny).mono ?_); rw [HT.out]; rintro e w7 ⟨E7, l7, k7, rfl, d7, u7, v7, g7⟩; have K8 := (K7.call g7).add (CanAt.mk_ d7 u7 v7); have hnt : l7 ≤ 100000 := (by rw [← d7.len]; exact zt.len2); clear p0 p1 p2 p3 p4 p5; obtain ⟨⟨p0, p1⟩, ⟨p2, p3⟩, ⟨p4, p5⟩, _⟩ := K8.facts; obtain ⟨i7, _, _, _, jx, _⟩ := K8.ints) | (go_at_call 94; (with_reducible refine (rsub_at (jx.ci kx) (i7.ci kt) hnx hnt).mono ?_); rw [HZ.out]; rintro e w8 ⟨E8, l8, k8, rfl, d8, u8, v8, g8⟩; have K9 := (K8.call g8).add (CanAt.mk_ d8 u8 v8); clear p0 p1 p2 p3 p4 p5; obtain ⟨⟨p0, p1⟩, ⟨p2, p3⟩, ⟨p4, p5⟩, _⟩ := K9.facts; obtain ⟨f0, f1⟩ := K9.free (i := 2) rfl; obtain ⟨f2, f3⟩ := K9.free (i := 1) rfl) | fail)
          (try go_wp2_with fail)
          refine hK.out _ _ ?_ (fun hh5 => ?_)
          · ((try dsimp only); go_keep)
          clear hK K hh4
          (try simp only [Act.put, sit, scz, scs])
          refine wpAnyH_ready (rs := [6]) (by kernel_rfl) (by simp) ?_
          refine AllReadyH.cons (o := ⟨none, _, _, _, _, _⟩) rfl (fun K hK => ?_) AllReadyH.nil
          go_simp
          refine hK.out _ _ ?_ (fun hh6 => ?_)
          · ((try dsimp only); go_keep)
          clear hK K hh5
          (try simp only [Act.put, sit, scz, scs])
          refine wpAnyH_ready (rs := [7]) (by kernel_rfl) (by simp) ?_
          refine AllReadyH.cons (o := ⟨none, _, _, _, _, _⟩) rfl (fun K hK => ?_) AllReadyH.nil
          go_simp
          refine hK.out _ _ ?_ (fun hh7 => ?_)
          · ((try dsimp only); go_keep)
          clear hK K hh6
          (try simp only [Act.put, sit, scz, scs])
          refine wpAnyH_done (by kernel_rfl) ?_ _
          have KA := (K9.put 2 rfl (decide (y0 < 0)) Ay ny cy).put 1 rfl (decide (z < 0)) E8 l8 k8
          simp only [List.set] at KA
          go_wp2_with fail
          go_roundg p.natAbs
          case rel =>
           have KB := KA.erase 0
           simp only [List.eraseIdx] at KB
           obtain ⟨iz, _, _, ip, iy, _, ir, _, im, ig, ib, ia, _⟩ := KB.ints
           exact ⟨r, p, y0, z, Ar, Ap, Ay, E8, nr, cr, np, cp, ny, cy, l8, k8, rfl, HS2.out, KB.ints_ ⟨iz, iy, ip, ir, im, ig, ib, ia, trivial⟩⟩
          case measure => (have := HPR.out; have := HK.out; omega)
         refine AllReadyH.cons (o := ⟨some 85, _, _, _, _, _⟩) rfl (fun K hK => ?_) AllReadyH.nil
         go_simp
         refine hK.out _ _ ?_ (fun hh2 => ?_)
         · ((try dsimp only); go_keep)
         clear hK K hh1
         (try simp only [Act.put, sit, scz, scs])
         refine wpAnyH_ready (rs := [0, 4]) (by kernel_rfl) (by simp) ?_
         refine AllReadyH.cons (o := ⟨some 82, _, _, _, _, _⟩) rfl (fun K hK => ?_) ?_
         ·
          go_simp
          refine hK.out _ _ ?_ (fun hh3 => ?_)
          · ((try dsimp only); go_keep)
          clear hK K hh2
          (try simp only [Act.put, sit, scz, scs])
          refine wpAnyH_ready (rs := [4]) (by kernel_rfl) (by simp) ?_
          refine AllReadyH.cons (o := ⟨some 86, _, _, _, _, _⟩) rfl (fun K hK => ?_) AllReadyH.nil
          go_simp
          (first | (go_at_call 95; (with_reducible refine (rmul_at (iq.ci kq) (iy.ci ky) hnq hny).mono ?_); rw [HT.out]; rintro e w7 ⟨E7, l7, k7, rfl, d7, u7, v7, g7⟩; have K8 := (K7.call g7).add (CanAt.mk_ d7 u7 v7); have hnt : l7 ≤ 100000 := (by rw [← d7.len]; exact zt.len2); clear p0 p1 p2 p3 p4 p5; obtain ⟨⟨p0, p1⟩, ⟨p2, p3⟩, ⟨p4, p5⟩, _⟩ := K8.facts; obtain ⟨i7, _, _, _, jx, _⟩ := K8.ints) | (go_at_call 94; (with_reducible refine (rsub_at (jx.ci kx) (i7.ci kt) hnx hnt).mono ?_); rw [HZ.out]; rintro e w8 ⟨E8, l8, k8, rfl, d8, u8, v8, g8⟩; have K9 := (K8.call g8).add (CanAt.mk_ d8 u8 v8); clear p0 p1 p2 p3 p4 p5; obtain ⟨⟨p0, p1⟩, ⟨p2, p3⟩, ⟨p4, p5⟩, _⟩ := K9.facts; obtain ⟨f0, f1⟩ := K9.free (i := 2) rfl; obtain ⟨f2, f3⟩ := K9.free (i := 1) rfl) | fail)
          (try go_wp2_with fail)
          refine hK.out _ _ ?_ (fun hh4 => ?_)
          · ((try dsimp only); go_keep)
          clear hK K hh3
          (try simp only [Act.put, sit, scz, scs])
          refine wpAnyH_ready (rs := [5]) (by kernel_rfl) (by simp) ?_
          refine AllReadyH.cons (o := ⟨some 87, _, _, _, _, _⟩) rfl (fun K hK => ?_) AllReadyH.nil
          go_simp
          (first | (go_at_call 95; (with_reducible refine (rmul_at (iq.ci kq) (iy.ci ky) hnq hny).mono ?_); rw [HT.out]; rintro e w7 ⟨E7, l7, k7, rfl, d7, u7, v7, g7⟩; have K8 := (K7.call g7).add (CanAt.mk_ d7 u7 v7); have hnt : l7 ≤ 100000 := (by rw [← d7.len]; exact zt.len2); clear p0 p1 p2 p3 p4 p5; obtain ⟨⟨p0, p1⟩, ⟨p2, p3⟩, ⟨p4, p5⟩, _⟩ := K8.facts; obtain ⟨i7, _, _, _, jx, _⟩ := K8.ints) | (go_at_call 94; (with_reducible refine (rsub_at (jx.ci kx) (i7.ci kt) hnx hnt).mono ?_); rw [HZ.out]; rintro e w8 ⟨E8, l8, k8, rfl, d8, u8, v8, g8⟩; have K9 := (K8.call g8).add (CanAt.mk_ d8 u8 v8); clear p0 p1 p2 p3 p4 p5; obtain ⟨⟨p0, p1⟩, ⟨p2, p3⟩, ⟨p4, p5⟩, _⟩ := K9.facts; obtain ⟨f0, f1⟩ := K9.free (i := 2) rfl; obtain ⟨f2, f3⟩ := K9.free (i := 1) rfl) | fail)
          (try go_wp2_with fail)
          refine hK.out _ _ ?_ (fun hh5 => ?_)
          · ((try dsimp only); go_keep)
          clear hK K hh4
          (try simp only [Act.put, sit, scz, scs])
          refine wpAnyH_ready (rs := [6]) (by kernel_rfl) (by simp) ?_
          refine AllReadyH.cons (o := ⟨none, _, _, _, _, _⟩) rfl (fun K hK => ?_) AllReadyH.nil
          go_simp
          refine hK.out _ _ ?_ (fun hh6 => ?_)
          · ((try dsimp only); go_keep)
          clear hK K hh5
          (try simp only [Act.put, sit, scz, scs])
          refine wpAnyH_ready (rs := [7]) (by kernel_rfl) (by simp) ?_
          refine AllReadyH.cons (o := ⟨none, _, _, _, _, _⟩) rfl (fun K hK => ?_) AllReadyH.nil
          go_simp
          refine hK.out _ _ ?_ (fun hh7 => ?_)
          · ((try dsimp only); go_keep)
          clear hK K hh6
          (try simp only [Act.put, sit, scz, scs])
          refine wpAnyH_done (by kernel_rfl) ?_ _
          have KA := (K9.put 2 rfl (decide (y0 < 0)) Ay ny cy).put 1 rfl (decide (z < 0)) E8 l8 k8
          simp only [List.set] at KA
          go_wp2_with fail
          go_roundg p.natAbs
          case rel =>
           have KB := KA.erase 0
           simp only [List.eraseIdx] at KB
           obtain ⟨iz, _, _, ip, iy, _, ir, _, im, ig, ib, ia, _⟩ := KB.ints
           exact ⟨r, p, y0, z, Ar, Ap, Ay, E8, nr, cr, np, cp, ny, cy, l8, k8, rfl, HS2.out, KB.ints_ ⟨iz, iy, ip, ir, im, ig, ib, ia, trivial⟩⟩
          case measure => (have := HPR.out; have := HK.out; omega)
         refine AllReadyH.cons (o := ⟨some 86, _, _, _, _, _⟩) rfl (fun K hK => ?_) AllReadyH.nil
         go_simp
         (first | (go_at_call 95; (with_reducible refine (rmul_at (iq.ci kq) (iy.ci ky) hnq hny).mono ?_); rw [HT.out]; rintro e w7 ⟨E7, l7, k7, rfl, d7, u7, v7, g7⟩; have K8 := (K7.call g7).add (CanAt.mk_ d7 u7 v7); have hnt : l7 ≤ 100000 := (by rw [← d7.len]; exact zt.len2); clear p0 p1 p2 p3 p4 p5; obtain ⟨⟨p0, p1⟩, ⟨p2, p3⟩, ⟨p4, p5⟩, _⟩ := K8.facts; obtain ⟨i7, _, _, _, jx, _⟩ := K8.ints) | (go_at_call 94; (with_reducible refine (rsub_at (jx.ci kx) (i7.ci kt) hnx hnt).mono ?_); rw [HZ.out]; rintro e w8 ⟨E8, l8, k8, rfl, d8, u8, v8, g8⟩; have K9 := (K8.call g8).add (CanAt.mk_ d8 u8 v8); clear p0 p1 p2 p3 p4 p5; obtain ⟨⟨p0, p1⟩, ⟨p2, p3⟩, ⟨p4, p5⟩, _⟩ := K9.facts; obtain ⟨f0, f1⟩ := K9.free (i := 2) rfl; obtain ⟨f2, f3⟩ := K9.free (i := 1) rfl) | fail)
         (try go_wp2_with fail)
         refine hK.out _ _ ?_ (fun hh3 => ?_)
         · ((try dsimp only); go_keep)
         clear hK K hh2
         (try simp only [Act.put, sit, scz, scs])
         refine wpAnyH_ready (rs := [0, 5]) (by kernel_rfl) (by simp) ?_
         refine AllReadyH.cons (o := ⟨some 82, _, _, _, _, _⟩) rfl (fun K hK => ?_) ?_
         ·
          go_simp
          refine hK.out _ _ ?_ (fun hh4 => ?_)
          · ((try dsimp only); go_keep)
          clear hK K hh3
          (try simp only [Act.put, sit, scz, scs])
          refine wpAnyH_ready (rs := [5]) (by kernel_rfl) (by simp) ?_
          refine AllReadyH.cons (o := ⟨some 87, _, _, _, _, _⟩) rfl (fun K hK => ?_) AllReadyH.nil
          go_simp
          (first | (go_at_call 95; (with_reducible refine (rmul_at (iq.ci kq) (iy.ci ky) hnq hny).mono ?_); rw [HT.out]; rintro e w7 ⟨E7, l7, k7, rfl, d7, u7, v7, g7⟩; have K8 := (K7.call g7).add (CanAt.mk_ d7 u7 v7); have hnt : l7 ≤ 100000 := (by rw [← d7.len]; exact zt.len2); clear p0 p1 p2 p3 p4 p5; obtain ⟨⟨p0, p1⟩, ⟨p2, p3⟩, ⟨p4, p5⟩, _⟩ := K8.facts; obtain ⟨i7, _, _, _, jx, _⟩ := K8.ints) | (go_at_call 94; (with_reducible refine (rsub_at (jx.ci kx) (i7.ci kt) hnx hnt).mono ?_); rw [HZ.out]; rintro e w8 ⟨E8, l8, k8, rfl, d8, u8, v8, g8⟩; have K9 := (K8.call g8).add (CanAt.mk_ d8 u8 v8); clear p0 p1 p2 p3 p4 p5; obtain ⟨⟨p0, p1⟩, ⟨p2, p3⟩, ⟨p4, p5⟩, _⟩ := K9.facts; obtain ⟨f0, f1⟩ := K9.free (i := 2) rfl; obtain ⟨f2, f3⟩ := K9.free (i := 1) rfl) | fail)
          (try go_wp2_with fail)
          refine hK.out _ _ ?_ (fun hh5 => ?_)
          · ((try dsimp only); go_keep)
          clear hK K hh4
          (try simp only [Act.put, sit, scz, scs])
          refine wpAnyH_ready (rs := [6]) (by kernel_rfl) (by simp) ?_
          refine AllReadyH.cons (o := ⟨none, _, _, _, _, _⟩) rfl (fun K hK => ?_) AllReadyH.nil
          go_simp
          refine hK.out _ _ ?_ (fun hh6 => ?_)
          · ((try dsimp only); go_keep)
          clear hK K hh5
          (try simp only [Act.put, sit, scz, scs])
          refine wpAnyH_ready (rs := [7]) (by kernel_rfl) (by simp) ?_
          refine AllReadyH.cons (o := ⟨none, _, _, _, _, _⟩) rfl (fun K hK => ?_) AllReadyH.nil
          go_simp
          refine hK.out _ _ ?_ (fun hh7 => ?_)
          · ((try dsimp only); go_keep)
          clear hK K hh6
          (try simp only [Act.put, sit, scz, scs])
          refine wpAnyH_done (by kernel_rfl) ?_ _
          have KA := (K9.put 2 rfl (decide (y0 < 0)) Ay ny cy).put 1 rfl (decide (z < 0)) E8 l8 k8
          simp only [List.set] at KA
          go_wp2_with fail
          go_roundg p.natAbs
          case rel =>
           have KB := KA.erase 0
           simp only [List.eraseIdx] at KB
           obtain ⟨iz, _, _, ip, iy, _, ir, _, im, ig, ib, ia, _⟩ := KB.ints
           exact ⟨r, p, y0, z, Ar, Ap, Ay, E8, nr, cr, np, cp, ny, cy, l8, k8, rfl, HS2.out, KB.ints_ ⟨iz, iy, ip, ir, im, ig, ib, ia, trivial⟩⟩
          case measure => (have := HPR.out; have := HK.out; omega)
         refine AllReadyH.cons (o := ⟨some 87, _, _, _, _, _⟩) rfl (fun K hK => ?_) AllReadyH.nil
         go_simp
         (first | (go_at_call 95; (with_reducible refine (rmul_at (iq.ci kq) (iy.ci ky) hnq hny).mono ?_); rw [HT.out]; rintro e w7 ⟨E7, l7, k7, rfl, d7, u7, v7, g7⟩; have K8 := (K7.call g7).add (CanAt.mk_ d7 u7 v7); have hnt : l7 ≤ 100000 := (by rw [← d7.len]; exact zt.len2); clear p0 p1 p2 p3 p4 p5; obtain ⟨⟨p0, p1⟩, ⟨p2, p3⟩, ⟨p4, p5⟩, _⟩ := K8.facts; obtain ⟨i7, _, _, _, jx, _⟩ := K8.ints) | (go_at_call 94; (with_reducible refine (rsub_at (jx.ci kx) (i7.ci kt) hnx hnt).mono ?_); rw [HZ.out]; rintro e w8 ⟨E8, l8, k8, rfl, d8, u8, v8, g8⟩; have K9 := (K8.call g8).add (CanAt.mk_ d8 u8 v8); clear p0 p1 p2 p3 p4 p5; obtain ⟨⟨p0, p1⟩, ⟨p2, p3⟩, ⟨p4, p5⟩, _⟩ := K9.facts; obtain ⟨f0, f1⟩ := K9.free (i := 2) rfl; obtain ⟨f2, f3⟩ := K9.free (i := 1) rfl) | fail)
         (try go_wp2_with fail)
         refine hK.out _ _ ?_ (fun hh4 => ?_)
         · ((try dsimp only); go_keep)
         clear hK K hh3
         (try simp only [Act.put, sit, scz, scs])
         refine wpAnyH_ready (rs := [0]) (by kernel_rfl) (by simp) ?_
         refine AllReadyH.cons (o := ⟨some 82, _, _, _, _, _⟩) rfl (fun K hK => ?_) AllReadyH.nil
         go_simp
         refine hK.out _ _ ?_ (fun hh5 => ?_)
         · ((try dsimp only); go_keep)
         clear hK K hh4
         (try simp only [Act.put, sit, scz, scs])
         refine wpAnyH_ready (rs := [6]) (by kernel_rfl) (by simp) ?_
         refine AllReadyH.cons (o := ⟨none, _, _, _, _, _⟩) rfl (fun K hK => ?_) AllReadyH.nil
         go_simp
         refine hK.out _ _ ?_ (fun hh6 => ?_)
         · ((try dsimp only); go_keep)
         clear hK K hh5
         (try simp only [Act.put, sit, scz, scs])
         refine wpAnyH_ready (rs := [7]) (by kernel_rfl) (by simp) ?_
         refine AllReadyH.cons (o := ⟨none, _, _, _, _, _⟩) rfl (fun K hK => ?_) AllReadyH.nil
         go_simp
         refine hK.out _ _ ?_ (fun hh7 => ?_)
         · ((try dsimp only); go_keep)
         clear hK K hh6
         (try simp only [Act.put, sit, scz, scs])
         refine wpAnyH_done (by kernel_rfl) ?_ _
         have KA := (K9.put 2 rfl (decide (y0 < 0)) Ay ny cy).put 1 rfl (decide (z < 0)) E8 l8 k8
         simp only [List.set] at KA
         go_wp2_with fail
         go_roundg p.natAbs
         case rel =>
          have KB := KA.erase 0
          simp only [List.eraseIdx] at KB
          obtain ⟨iz, _, _, ip, iy, _, ir, _, im, ig, ib, ia, _⟩ := KB.ints
          exact ⟨r, p, y0, z, Ar, Ap, Ay, E8, nr, cr, np, cp, ny, cy, l8, k8, rfl, HS2.out, KB.ints_ ⟨iz, iy, ip, ir, im, ig, ib, ia, trivial⟩⟩
         case measure => (have := HPR.out; have := HK.out; omega)
        refine AllReadyH.cons (o := ⟨some 85, _, _, _, _, _⟩) rfl (fun K hK => ?_) AllReadyH.nil
        go_simp
        refine hK.out _ _ ?_ (fun hh1 => ?_)
        · ((try dsimp only); go_keep)
        clear hK K hh0
        (try simp only [Act.put, sit, scz, scs])
        refine wpAnyH_ready (rs := [0, 1, 4]) (by kernel_rfl) (by simp) ?_
        refine AllReadyH.cons (o := ⟨some 82, _, _, _, _, _⟩) rfl (fun K hK => ?_) ?_
        ·
         go_simp
         refine hK.out _ _ ?_ (fun hh2 => ?_)
         · ((try dsimp only); go_keep)
         clear hK K hh1
         (try simp only [Act.put, sit, scz, scs])
         refine wpAnyH_ready (rs := [1, 4]) (by kernel_rfl) (by simp) ?_
         refine AllReadyH.cons (o := ⟨some 83, _, _, _, _, _⟩) rfl (fun K hK => ?_) ?_
         ·
          go_simp
          refine hK.out _ _ ?_ (fun hh3 => ?_)
          · ((try dsimp only); go_keep)
          clear hK K hh2
          (try simp only [Act.put, sit, scz, scs])
          refine wpAnyH_ready (rs := [4]) (by kernel_rfl) (by simp) ?_
          refine AllReadyH.cons (o := ⟨some 86, _, _, _, _, _⟩) rfl (fun K hK => ?_) AllReadyH.nil
          go_simp
          (first | (go_at_call 95; (with_reducible refine (rmul_at (iq.ci kq) (iy.ci ky) hnq hny).mono ?_); rw [HT.out]; rintro e w7 ⟨E7, l7, k7, rfl, d7, u7, v7, g7⟩; have K8 := (K7.call g7).add (CanAt.mk_ d7 u7 v7); have hnt : l7 ≤ 100000 := (by rw [← d7.len]; exact zt.len2); clear p0 p1 p2 p3 p4 p5; obtain ⟨⟨p0, p1⟩, ⟨p2, p3⟩, ⟨p4, p5⟩, _⟩ := K8.facts; obtain ⟨i7, _, _, _, jx, _⟩ := K8.ints) | (go_at_call 94; (with_reducible refine (rsub_at (jx.ci kx) (i7.ci kt) hnx hnt).mono ?_); rw [HZ.out]; rintro e w8 ⟨E8, l8, k8, rfl, d8, u8, v8, g8⟩; have K9 := (K8.call g8).add (CanAt.mk_ d8 u8 v8); clear p0 p1 p2 p3 p4 p5; obtain ⟨⟨p0, p1⟩, ⟨p2, p3⟩, ⟨p4, p5⟩, _⟩ := K9.facts; obtain ⟨f0, f1⟩ := K9.free (i := 2) rfl; obtain ⟨f2, f3⟩ := K9.free (i := 1) rfl) | fail)
          (try go_wp2_with fail)
          refine hK.out _ _ ?_ (fun hh4 => ?_)
          · ((try dsimp only); go_keep)
          clear hK K hh3
          (try simp only [Act.put, sit, scz, scs])
          refine wpAnyH_ready (rs := [5]) (by kernel_rfl) (by simp) ?_
          refine AllReadyH.cons (o := ⟨some 87, _, _, _, _, _⟩) rfl (fun K hK => ?_) AllReadyH.nil
          go_simp
          (first | (go_at_call 95; (with_reducible refine (rmul_at (iq.ci kq) (iy.ci ky) hnq hny).mono ?_); rw [HT.out]; rintro e w7 ⟨E7, l7, k7, rfl, d7, u7, v7, g7⟩; have K8 := (K7.call g7).add (CanAt.mk_ d7 u7 v7); have hnt : l7 ≤ 100000 := (by rw [← d7.len]; exact zt.len2); clear p0 p1 p2 p3 p4 p5; obtain ⟨⟨p0, p1⟩, ⟨p2, p3⟩, ⟨p4, p5⟩, _⟩ := K8.facts; obtain ⟨i7, _, _, _, jx, _⟩ := K8.ints) | (go_at_call 94; (with_reducible refine (rsub_at (jx.ci kx) (i7.ci kt) hnx hnt).mono ?_); rw [HZ.out]; rintro e w8 ⟨E8, l8, k8, rfl, d8, u8, v8, g8⟩; have K9 := (K8.call g8).add (CanAt.mk_ d8 u8 v8); clear p0 p1 p2 p3 p4 p5; obtain ⟨⟨p0, p1⟩, ⟨p2, p3⟩, ⟨p4, p5⟩, _⟩ := K9.facts; obtain ⟨f0, f1⟩ := K9.free (i := 2) rfl; obtain ⟨f2, f3⟩ := K9.free (i := 1) rfl) | fail)
          (try go_wp2_with fail)
          refine hK.out _ _ ?_ (fun hh5 => ?_)
          · ((try dsimp only); go_keep)
          clear hK K hh4
          (try simp only [Act.put, sit, scz, scs])
          refine wpAnyH_ready (rs := [6]) (by kernel_rfl) (by simp) ?_
          refine AllReadyH.cons (o := ⟨none, _, _, _, _, _⟩) rfl (fun K hK => ?_) AllReadyH.nil
          go_simp
          refine hK.out _ _ ?_ (fun hh6 => ?_)
          · ((try dsimp only); go_keep)
          clear hK K hh5
          (try simp only [Act.put, sit, scz, scs])
          refine wpAnyH_ready (rs := [7]) (by kernel_rfl) (by simp) ?_
          refine AllReadyH.cons (o := ⟨none, _, _, _, _, _⟩) rfl (fun K hK => ?_) AllReadyH.nil
          go_simp
          refine hK.out _ _ ?_ (fun hh7 => ?_)
          · ((try dsimp only); go_keep)
          clear hK K hh6
          (try simp only [Act.put, sit, scz, scs])
          refine wpAnyH_done (by kernel_rfl) ?_ _
          have KA := (K9.put 2 rfl (decide (y0 < 0)) Ay ny cy).put 1 rfl (decide (z < 0)) E8 l8 k8
          simp only [List.set] at KA
          go_wp2_with fail
          go_roundg p.natAbs
          case rel =>
           have KB := KA.erase 0
           simp only [List.eraseIdx] at KB
           obtain ⟨iz, _, _, ip, iy, _, ir, _, im, ig, ib, ia, _⟩ := KB.ints
           exact ⟨r, p, y0, z, Ar, Ap, Ay, E8, nr, cr, np, cp, ny, cy, l8, k8, rfl, HS2.out, KB.ints_ ⟨iz, iy, ip, ir, im, ig, ib, ia, trivial⟩⟩
          case measure => (have := HPR.out; have := HK.out; omega)
         refine AllReadyH.cons (o := ⟨some 86, _, _, _, _, _⟩) rfl (fun K hK => ?_) AllReadyH.nil
         go_simp
         (first | (go_at_call 95; (with_reducible refine (rmul_at (iq.ci kq) (iy.ci ky) hnq hny).mono ?_); rw [HT.out]; rintro e w7 ⟨E7, l7, k7, rfl, d7, u7, v7, g7⟩; have K8 := (K7.call g7).add (CanAt.mk_ d7 u7 v7); have hnt : l7 ≤ 100000 := (by rw [← d7.len]; exact zt.len2); clear p0 p1 p2 p3 p4 p5; obtain ⟨⟨p0, p1⟩, ⟨p2, p3⟩, ⟨p4, p5⟩, _⟩ := K8.facts; obtain ⟨i7, _, _, _, jx, _⟩ := K8.ints) | (go_at_call 94; (with_reducible refine (rsub_at (jx.ci kx) (i7.ci kt) hnx hnt).mono ?_); rw [HZ.out]; rintro e w8 ⟨E8, l8, k8, rfl, d8, u8, v8, g8⟩; have K9 := (K8.call g8).add (CanAt.mk_ d8 u8 v8); clear p0 p1 p2 p3 p4 p5; obtain ⟨⟨p0, p1⟩, ⟨p2, p3⟩, ⟨p4, p5⟩, _⟩ := K9.facts; obtain ⟨f0, f1⟩ := K9.free (i := 2) rfl; obtain ⟨f2, f3⟩ := K9.free (i := 1) rfl) | fail)
         (try go_wp2_with fail)
         refine hK.out _ _ ?_ (fun hh3 => ?_)
         · ((try dsimp only); go_keep)
         clear hK K hh2
         (try simp only [Act.put, sit, scz, scs])
         refine wpAnyH_ready (rs := [1]) (by kernel_rfl) (by simp) ?_
         refine AllReadyH.cons (o := ⟨some 83, _, _, _, _, _⟩) rfl (fun K hK => ?_) AllReadyH.nil
         go_simp
         refine hK.out _ _ ?_ (fun hh4 => ?_)
         · ((try dsimp only); go_keep)
         clear hK K hh3
         (try simp only [Act.put, sit, scz, scs])
         refine wpAnyH_ready (rs := [5]) (by kernel_rfl) (by simp) ?_
         refine AllReadyH.cons (o := ⟨some 87, _, _, _, _, _⟩) rfl (fun K hK => ?_) AllReadyH.nil
         go_simp
         (first | (go_at_call 95; (with_reducible refine (rmul_at (iq.ci kq) (iy.ci ky) hnq hny).mono ?_); rw [HT.out]; rintro e w7 ⟨E7, l7, k7, rfl, d7, u7, v7, g7⟩; have K8 := (K7.call g7).add (CanAt.mk_ d7 u7 v7); have hnt : l7 ≤ 100000 := (by rw [← d7.len]; exact zt.len2); clear p0 p1 p2 p3 p4 p5; obtain ⟨⟨p0, p1⟩, ⟨p2, p3⟩, ⟨p4, p5⟩, _⟩ := K8.facts; obtain ⟨i7, _, _, _, jx, _⟩ := K8.ints) | (go_at_call 94; (with_reducible refine (rsub_at (jx.ci kx) (i7.ci kt) hnx hnt).mono ?_); rw [HZ.out]; rintro e w8 ⟨E8, l8, k8, rfl, d8, u8, v8, g8⟩; have K9 := (K8.call g8).add (CanAt.mk_ d8 u8 v8); clear p0 p1 p2 p3 p4 p5; obtain ⟨⟨p0, p1⟩, ⟨p2, p3⟩, ⟨p4, p5⟩, _⟩ := K9.facts; obtain ⟨f0, f1⟩ := K9.free (i := 2) rfl; obtain ⟨f2, f3⟩ := K9.free (i := 1) rfl) | fail)
         (try go_wp2_with fail)
         refine hK.out _ _ ?_ (fun hh5 => ?_)
         · ((try dsimp only); go_keep)
         clear hK K hh4
         (try simp only [Act.put, sit, scz, scs])
         refine wpAnyH_ready (rs := [6]) (by kernel_rfl) (by simp) ?_
         refine AllReadyH.cons (o := ⟨none, _, _, _, _, _⟩) rfl (fun K hK => ?_) AllReadyH.nil
         go_simp
         refine hK.out _ _ ?_ (fun hh6 => ?_)
         · ((try dsimp only); go_keep)
         clear hK K hh5
         (try simp only [Act.put, sit, scz, scs])
         refine wpAnyH_ready (rs := [7]) (by kernel_rfl) (by simp) ?_
         refine AllReadyH.cons (o := ⟨none, _, _, _, _, _⟩) rfl (fun K hK => ?_) AllReadyH.nil
         go_simp
         refine hK.out _ _ ?_ (fun hh7 => ?_)
         · ((try dsimp only); go_keep)
         clear hK K hh6
         (try simp only [Act.put, sit, scz, scs])
         refine wpAnyH_done (by kernel_rfl) ?_ _
         have KA := (K9.put 2 rfl (decide (y0 < 0)) Ay ny cy).put 1 rfl (decide (z < 0)) E8 l8 k8
         simp only [List.set] at KA
         go_wp2_with fail
         go_roundg p.natAbs
         case rel =>
          have KB := KA.erase 0
          simp only [List.eraseIdx] at KB
          obtain ⟨iz, _, _, ip, iy, _, ir, _, im, ig, ib, ia, _⟩ := KB.ints
          exact ⟨r, p, y0, z, Ar, Ap, Ay, E8, nr, cr, np, cp, ny, cy, l8, k8, rfl, HS2.out, KB.ints_ ⟨iz, iy, ip, ir, im, ig, ib, ia, trivial⟩⟩
         case measure => (have := HPR.out; have := HK.out; omega)
        refine AllReadyH.cons (o := ⟨some 83, _, _, _, _, _⟩) rfl (fun K hK => ?_) ?_
        ·
         go_simp
         refine hK.out _ _ ?_ (fun hh2 => ?_)
         · ((try dsimp only); go_keep)
         clear hK K hh1
         (try simp only [Act.put, sit, scz, scs])
         refine wpAnyH_ready (rs := [0, 4]) (by kernel_rfl) (by simp) ?_
         refine AllReadyH.cons (o := ⟨some 82, _, _, _, _, _⟩) rfl (fun K hK => ?_) ?_
         ·
          go_simp
          refine hK.out _ _ ?_ (fun hh3 => ?_)
          · ((try dsimp only); go_keep)
          clear hK K hh2
          (try simp only [Act.put, sit, scz, scs])
          refine wpAnyH_ready (rs := [4]) (by kernel_rfl) (by simp) ?_
          refine AllReadyH.cons (o := ⟨some 86, _, _, _, _, _⟩) rfl (fun K hK => ?_) AllReadyH.nil
          go_simp
          (first | (go_at_call 95; (with_reducible refine (rmul_at (iq.ci kq) (iy.ci ky) hnq hny).mono ?_); rw [HT.out]; rintro e w7 ⟨E7, l7, k7, rfl, d7, u7, v7, g7⟩; have K8 := (K7.call g7).add (CanAt.mk_ d7 u7 v7); have hnt : l7 ≤ 100000 := (by rw [← d7.len]; exact zt.len2); clear p0 p1 p2 p3 p4 p5; obtain ⟨⟨p0, p1⟩, ⟨p2, p3⟩, ⟨p4, p5⟩, _⟩ := K8.facts; obtain ⟨i7, _, _, _, jx, _⟩ := K8.ints) | (go_at_call 94; (with_reducible refine (rsub_at (jx.ci kx) (i7.ci kt) hnx hnt).mono ?_); rw [HZ.out]; rintro e w8 ⟨E8, l8, k8, rfl, d8, u8, v8, g8⟩; have K9 := (K8.call g8).add (CanAt.mk_ d8 u8 v8); clear p0 p1 p2 p3 p4 p5; obtain ⟨⟨p0, p1⟩, ⟨p2, p3⟩, ⟨p4, p5⟩, _⟩ := K9.facts; obtain ⟨f0, f1⟩ := K9.free (i := 2) rfl; obtain ⟨f2, f3⟩ := K9.free (i := 1) rfl) | fail)
          (try go_wp2_with fail)
          refine hK.out _ _ ?_ (fun hh4 => ?_)
          · ((try dsimp only); go_keep)
          clear hK K hh3
          (try simp only [Act.put, sit, scz, scs])
          refine wpAnyH_ready (rs := [5]) (by kernel_rfl) (by simp) ?_
          refine AllReadyH.cons (o := ⟨some 87, _, _, _, _, _⟩) rfl (fun K hK => ?_) AllReadyH.nil
          go_simp
          (first | (go_at_call 95; (with_reducible refine (rmul_at (iq.ci kq) (iy.ci ky) hnq hny).mono ?_); rw [HT.out]; rintro e w7 ⟨E7, l7, k7, rfl, d7, u7, v7, g7⟩; have K8 := (K7.call g7).add (CanAt.mk_ d7 u7 v7); have hnt : l7 ≤ 100000 := (by rw [← d7.len]; exact zt.len2); clear p0 p1 p2 p3 p4 p5; obtain ⟨⟨p0, p1⟩, ⟨p2, p3⟩, ⟨p4, p5⟩, _⟩ := K8.facts; obtain ⟨i7, _, _, _, jx, _⟩ := K8.ints) | (go_at_call 94; (with_reducible refine (rsub_at (jx.ci kx) (i7.ci kt) hnx hnt).mono ?_); rw [HZ.out]; rintro e w8 ⟨E8, l8, k8, rfl, d8, u8, v8, g8⟩; have K9 := (K8.call g8).add (CanAt.mk_ d8 u8 v8); clear p0 p1 p2 p3 p4 p5; obtain ⟨⟨p0, p1⟩, ⟨p2, p3⟩, ⟨p4, p5⟩, _⟩ := K9.facts; obtain ⟨f0, f1⟩ := K9.free (i := 2) rfl; obtain ⟨f2, f3⟩ := K9.free (i := 1) rfl) | fail)
          (try go_wp2_with fail)
          refine hK.out _ _ ?_ (fun hh5 => ?_)
          · ((try dsimp only); go_keep)
          clear hK K hh4
          (try simp only [Act.put, sit, scz, scs])
          refine wpAnyH_ready (rs := [6]) (by kernel_rfl) (by simp) ?_
          refine AllReadyH.cons (o := ⟨none, _, _, _, _, _⟩) rfl (fun K hK => ?_) AllReadyH.nil
          go_simp
          refine hK.out _ _ ?_ (fun hh6 => ?_)
          · ((try dsimp only); go_keep)
          clear hK K hh5
          (try simp only [Act.put, sit, scz, scs])
          refine wpAnyH_ready (rs := [7]) (by kernel_rfl) (by simp) ?_
          refine AllReadyH.cons (o := ⟨none, _, _, _, _, _⟩) rfl (fun K hK => ?_) AllReadyH.nil
          go_simp
          refine hK.out _ _ ?_ (fun hh7 => ?_)
          · ((try dsimp only); go_keep)
          clear hK K hh6
          (try simp only [Act.put, sit, scz, scs])
          refine wpAnyH_done (by kernel_rfl) ?_ _
          have KA := (K9.put 2 rfl (decide (y0 < 0)) Ay ny cy).put 1 rfl (decide (z < 0)) E8 l8 k8
          simp only [List.set] at KA
          go_wp2_with fail
          go_roundg p.natAbs
          case rel =>
           have KB := KA.erase 0
           simp only [List.eraseIdx] at KB
           obtain ⟨iz, _, _, ip, iy, _, ir, _, im, ig, ib, ia, _⟩ := KB.ints
           exact ⟨r, p, y0, z, Ar, Ap, Ay, E8, nr, cr, np, cp, ny, cy, l8, k8, rfl, HS2.out, KB.ints_ ⟨iz, iy, ip, ir, im, ig, ib, ia, trivial⟩⟩
          case measure => (have := HPR.out; have := HK.out; omega)
         refine AllReadyH.cons (o := ⟨some 86, _, _, _, _, _⟩) rfl (fun K hK => ?_) AllReadyH.nil
         go_simp
         (first | (go_at_call 95; (with_reducible refine (rmul_at (iq.ci kq) (iy.ci ky) hnq hny).mono ?_); rw [HT.out]; rintro e w7 ⟨E7, l7, k7, rfl, d7, u7, v7, g7⟩; have K8 := (K7.call g7).add (CanAt.mk_ d7 u7 v7); have hnt : l7 ≤ 100000 := (by rw [← d7.len]; exact zt.len2); clear p0 p1 p2 p3 p4 p5; obtain ⟨⟨p0, p1⟩, ⟨p2, p3⟩, ⟨p4, p5⟩, _⟩ := K8.facts; obtain ⟨i7, _, _, _, jx, _⟩ := K8.ints) | (go_at_call 94; (with_reducible refine (rsub_at (jx.ci kx) (i7.ci kt) hnx hnt).mono ?_); rw [HZ.out]; rintro e w8 ⟨E8, l8, k8, rfl, d8, u8, v8, g8⟩; have K9 := (K8.call g8).add (CanAt.mk_ d8 u8 v8); clear p0 p1 p2 p3 p4 p5; obtain ⟨⟨p0, p1⟩, ⟨p2, p3⟩, ⟨p4, p5⟩, _⟩ := K9.facts; obtain ⟨f0, f1⟩ := K9.free (i := 2) rfl; obtain ⟨f2, f3⟩ := K9.free (i := 1) rfl) | fail)
         (try go_wp2_with fail)
         refine hK.out _ _ ?_ (fun hh3 => ?_)
         · ((try dsimp only); go_keep)
         clear hK K hh2
         (try simp only [Act.put, sit, scz, scs])
         refine wpAnyH_ready (rs := [0, 5]) (by kernel_rfl) (by simp) ?_
         refine AllReadyH.cons (o := ⟨some 82, _, _, _, _, _⟩) rfl (fun K hK => ?_) ?_
         ·
          go_simp
          refine hK.out _ _ ?_ (fun hh4 => ?_)
          · ((try dsimp only); go_keep)
          clear hK K hh3
          (try simp only [Act.put, sit, scz, scs])
          refine wpAnyH_ready (rs := [5]) (by kernel_rfl) (by simp) ?_
          refine AllReadyH.cons (o := ⟨some 87, _, _, _, _, _⟩) rfl (fun K hK => ?_) AllReadyH.nil
          go_simp
          (first | (go_at_call 95; (with_reducible refine (rmul_at (iq.ci kq) (iy.ci ky) hnq hny).mono ?_); rw [HT.out]; rintro e w7 ⟨E7, l7, k7, rfl, d7, u7, v7, g7⟩; have K8 := (K7.call g7).add (CanAt.mk_ d7 u7 v7); have hnt : l7 ≤ 100000 := (by rw [← d7.len]; exact zt.len2); clear p0 p1 p2 p3 p4 p5; obtain ⟨⟨p0, p1⟩, ⟨p2, p3⟩, ⟨p4, p5⟩, _⟩ := K8.facts; obtain ⟨i7, _, _, _, jx, _⟩ := K8.ints) | (go_at_call 94; (with_reducible refine (rsub_at (jx.ci kx) (i7.ci kt) hnx hnt).mono ?_); rw [HZ.out]; rintro e w8 ⟨E8, l8, k8, rfl, d8, u8, v8, g8⟩; have K9 := (K8.call g8).add (CanAt.mk_ d8 u8 v8); clear p0 p1 p2 p3 p4 p5; obtain ⟨⟨p0, p1⟩, ⟨p2, p3⟩, ⟨p4, p5⟩, _⟩ := K9.facts; obtain ⟨f0, f1⟩ := K9.free (i := 2) rfl; obtain ⟨f2, f3⟩ := K9.free (i := 1) rfl) | fail)
          (try go_wp2_with fail)
          refine hK.out _ _ ?_ (fun hh5 => ?_)
          · ((try dsimp only); go_keep)
          clear hK K hh4
          (try simp only [Act.put, sit, scz, scs])
          refine wpAnyH_ready (rs := [6]) (by kernel_rfl) (by simp) ?_
          refine AllReadyH.cons (o := ⟨none, _, _, _, _, _⟩) rfl (fun K hK => ?_) AllReadyH.nil
          go_simp
          refine hK.out _ _ ?_ (fun hh6 => ?_)
          · ((try dsimp only); go_keep)
          clear hK K hh5
          (try simp only [Act.put, sit, scz, scs])
          refine wpAnyH_ready (rs := [7]) (by kernel_rfl) (by simp) ?_
          refine AllReadyH.cons (o := ⟨none, _, _, _, _, _⟩) rfl (fun K hK => ?_) AllReadyH.nil
          go_simp
          refine hK.out _ _ ?_ (fun hh7 => ?_)
          · ((try dsimp only); go_keep)
          clear hK K hh6
          (try simp only [Act.put, sit, scz, scs])
          refine wpAnyH_done (by kernel_rfl) ?_ _
          have KA := (K9.put 2 rfl (decide (y0 < 0)) Ay ny cy).put 1 rfl (decide (z < 0)) E8 l8 k8
          simp only [List.set] at KA
          go_wp2_with fail
          go_roundg p.natAbs
          case rel =>
           have KB := KA.erase 0
           simp only [List.eraseIdx] at KB
           obtain ⟨iz, _, _, ip, iy, _, ir, _, im, ig, ib, ia, _⟩ := KB.ints
           exact ⟨r, p, y0, z, Ar, Ap, Ay, E8, nr, cr, np, cp, ny, cy, l8, k8, rfl, HS2.out, KB.ints_ ⟨iz, iy, ip, ir, im, ig, ib, ia, trivial⟩⟩
          case measure => (have := HPR.out; have := HK.out; omega)
         refine AllReadyH.cons (o := ⟨some 87, _, _, _, _, _⟩) rfl (fun K hK => ?_) AllReadyH.nil
         go_simp
         (first | (go_at_call 95; (with_reducible refine (rmul_at (iq.ci kq) (iy.ci ky) hnq hny).mono ?_); rw [HT.out]; rintro e w7 ⟨E7, l7, k7, rfl, d7, u7, v7, g7⟩; have K8 := (K7.call g7).add (CanAt.mk_ d7 u7 v7); have hnt : l7 ≤ 100000 := (by rw [← d7.len]; exact zt.len2); clear p0 p1 p2 p3 p4 p5; obtain ⟨⟨p0, p1⟩, ⟨p2, p3⟩, ⟨p4, p5⟩, _⟩ := K8.facts; obtain ⟨i7, _, _, _, jx, _⟩ := K8.ints) | (go_at_call 94; (with_reducible refine (rsub_at (jx.ci kx) (i7.ci kt) hnx hnt).mono ?_); rw [HZ.out]; rintro e w8 ⟨E8, l8, k8, rfl, d8, u8, v8, g8⟩; have K9 := (K8.call g8).add (CanAt.mk_ d8 u8 v8); clear p0 p1 p2 p3 p4 p5; obtain ⟨⟨p0, p1⟩, ⟨p2, p3⟩, ⟨p4, p5⟩, _⟩ := K9.facts; obtain ⟨f0, f1⟩ := K9.free (i := 2) rfl; obtain ⟨f2, f3⟩ := K9.free (i := 1) rfl) | fail)
         (try go_wp2_with fail)
         refine hK.out _ _ ?_ (fun hh4 => ?_)
         · ((try dsimp only); go_keep)
         clear hK K hh3
         (try simp only [Act.put, sit, scz, scs])
         refine wpAnyH_ready (rs := [0]) (by kernel_rfl) (by simp) ?_
         refine AllReadyH.cons (o := ⟨some 82, _, _, _, _, _⟩) rfl (fun K hK => ?_) AllReadyH.nil
         go_simp
         refine hK.out _ _ ?_ (fun hh5 => ?_)
         · ((try dsimp only); go_keep)
         clear hK K hh4
         (try simp only [Act.put, sit, scz, scs])
         refine wpAnyH_ready (rs := [6]) (by kernel_rfl) (by simp) ?_
         refine AllReadyH.cons (o := ⟨none, _, _, _, _, _⟩) rfl (fun K hK => ?_) AllReadyH.nil
         go_simp
         refine hK.out _ _ ?_ (fun hh6 => ?_)
         · ((try dsimp only); go_keep)
         clear hK K hh5
         (try simp only [Act.put, sit, scz, scs])
         refine wpAnyH_ready (rs := [7]) (by kernel_rfl) (by simp) ?_
         refine AllReadyH.cons (o := ⟨none, _, _, _, _, _⟩) rfl (fun K hK => ?_) AllReadyH.nil
         go_simp
         refine hK.out _ _ ?_ (fun hh7 => ?_)
         · ((try dsimp only); go_keep)
         clear hK K hh6
         (try simp only [Act.put, sit, scz, scs])
         refine wpAnyH_done (by kernel_rfl) ?_ _
         have KA := (K9.put 2 rfl (decide (y0 < 0)) Ay ny cy).put 1 rfl (decide (z < 0)) E8 l8 k8
         simp only [List.set] at KA
         go_wp2_with fail
         go_roundg p.natAbs
         case rel =>
          have KB := KA.erase 0
          simp only [List.eraseIdx] at KB
          obtain ⟨iz, _, _, ip, iy, _, ir, _, im, ig, ib, ia, _⟩ := KB.ints
          exact ⟨r, p, y0, z, Ar, Ap, Ay, E8, nr, cr, np, cp, ny, cy, l8, k8, rfl, HS2.out, KB.ints_ ⟨iz, iy, ip, ir, im, ig, ib, ia, trivial⟩⟩
         case measure => (have := HPR.out; have := HK.out; omega)
        refine AllReadyH.cons (o := ⟨some 86, _, _, _, _, _⟩) rfl (fun K hK => ?_) AllReadyH.nil
        go_simp
        (first | (go_at_call 95; (with_reducible refine (rmul_at (iq.ci kq) (iy.ci ky) hnq hny).mono ?_); rw [HT.out]; rintro e w7 ⟨E7, l7, k7, rfl, d7, u7, v7, g7⟩; have K8 := (K7.call g7).add (CanAt.mk_ d7 u7 v7); have hnt : l7 ≤ 100000 := (by rw [← d7.len]; exact zt.len2); clear p0 p1 p2 p3 p4 p5; obtain ⟨⟨p0, p1⟩, ⟨p2, p3⟩, ⟨p4, p5⟩, _⟩ := K8.facts; obtain ⟨i7, _, _, _, jx, _⟩ := K8.ints) | (go_at_call 94; (with_reducible refine (rsub_at (jx.ci kx) (i7.ci kt) hnx hnt).mono ?_); rw [HZ.out]; rintro e w8 ⟨E8, l8, k8, rfl, d8, u8, v8, g8⟩; have K9 := (K8.call g8).add (CanAt.mk_ d8 u8 v8); clear p0 p1 p2 p3 p4 p5; obtain ⟨⟨p0, p1⟩, ⟨p2, p3⟩, ⟨p4, p5⟩, _⟩ := K9.facts; obtain ⟨f0, f1⟩ := K9.free (i := 2) rfl; obtain ⟨f2, f3⟩ := K9.free (i := 1) rfl) | fail)
        (try go_wp2_with fail)
        refine hK.out _ _ ?_ (fun hh2 => ?_)
        · ((try dsimp only); go_keep)
        clear hK K hh1
        (try simp only [Act.put, sit, scz, scs])
        refine wpAnyH_ready (rs := [0, 1]) (by kernel_rfl) (by simp) ?_
        refine AllReadyH.cons (o := ⟨some 82, _, _, _, _, _⟩) rfl (fun K hK => ?_) ?_
        ·
         go_simp
         refine hK.out _ _ ?_ (fun hh3 => ?_)
         · ((try dsimp only); go_keep)
         clear hK K hh2
         (try simp only [Act.put, sit, scz, scs])
         refine wpAnyH_ready (rs := [1]) (by kernel_rfl) (by simp) ?_
         refine AllReadyH.cons (o := ⟨some 83, _, _, _, _, _⟩) rfl (fun K hK => ?_) AllReadyH.nil
         go_simp
         refine hK.out _ _ ?_ (fun hh4 => ?_)
         · ((try dsimp only); go_keep)
         clear hK K hh3
         (try simp only [Act.put, sit, scz, scs])
         refine wpAnyH_ready (rs := [5]) (by kernel_rfl) (by simp) ?_
         refine AllReadyH.cons (o := ⟨some 87, _, _, _, _, _⟩) rfl (fun K hK => ?_) AllReadyH.nil
         go_simp
         (first | (go_at_call 95; (with_reducible refine (rmul_at (iq.ci kq) (iy.ci ky) hnq hny).mono ?_); rw [HT.out]; rintro e w7 ⟨E7, l7, k7, rfl, d7, u7, v7, g7⟩; have K8 := (K7.call g7).add (CanAt.mk_ d7 u7 v7); have hnt : l7 ≤ 100000 := (by rw [← d7.len]; exact zt.len2); clear p0 p1 p2 p3 p4 p5; obtain ⟨⟨p0, p1⟩, ⟨p2, p3⟩, ⟨p4, p5⟩, _⟩ := K8.facts; obtain ⟨i7, _, _, _, jx, _⟩ := K8.ints) | (go_at_call 94; (with_reducible refine (rsub_at (jx.ci kx) (i7.ci kt) hnx hnt).mono ?_); rw [HZ.out]; rintro e w8 ⟨E8, l8, k8, rfl, d8, u8, v8, g8⟩; have K9 := (K8.call g8).add (CanAt.mk_ d8 u8 v8); clear p0 p1 p2 p3 p4 p5; obtain ⟨⟨p0, p1⟩, ⟨p2, p3⟩, ⟨p4, p5⟩, _⟩ := K9.facts; obtain ⟨f0, f1⟩ := K9.free (i := 2) rfl; obtain ⟨f2, f3⟩ := K9.free (i := 1) rfl) | fail)
         (try go_wp2_with fail)
         refine hK.out _ _ ?_ (fun hh5 => ?_)
         · ((try dsimp only); go_keep)
         clear hK K hh4
         (try simp only [Act.put, sit, scz, scs])
         refine wpAnyH_ready (rs := [6]) (by kernel_rfl) (by simp) ?_
         refine AllReadyH.cons (o := ⟨none, _, _, _, _, _⟩) rfl (fun K hK => ?_) AllReadyH.nil
         go_simp
         refine hK.out _ _ ?_ (fun hh6 => ?_)
         · ((try dsimp only); go_keep)
         clear hK K hh5
         (try simp only [Act.put, sit, scz, scs])
         refine wpAnyH_ready (rs := [7]) (by kernel_rfl) (by simp) ?_
         refine AllReadyH.cons (o := ⟨none, _, _, _, _, _⟩) rfl (fun K hK => ?_) AllReadyH.nil
         go_simp
         refine hK.out _ _ ?_ (fun hh7 => ?_)
         · ((try dsimp only); go_keep)
         clear hK K hh6
         (try simp only [Act.put, sit, scz, scs])
         refine wpAnyH_done (by kernel_rfl) ?_ _
         have KA := (K9.put 2 rfl (decide (y0 < 0)) Ay ny cy).put 1 rfl (decide (z < 0)) E8 l8 k8
         simp only [List.set] at KA
         go_wp2_with fail
         go_roundg p.natAbs
         case rel =>
          have KB := KA.erase 0
          simp only [List.eraseIdx] at KB
          obtain ⟨iz, _, _, ip, iy, _, ir, _, im, ig, ib, ia, _⟩ := KB.ints
          exact ⟨r, p, y0, z, Ar, Ap, Ay, E8, nr, cr, np, cp, ny, cy, l8, k8, rfl, HS2.out, KB.ints_ ⟨iz, iy, ip, ir, im, ig, ib, ia, trivial⟩⟩
         case measure => (have := HPR.out; have := HK.out; omega)
        refine AllReadyH.cons (o := ⟨some 83, _, _, _, _, _⟩) rfl (fun K hK => ?_) AllReadyH.nil
        go_simp
        refine hK.out _ _ ?_ (fun hh3 => ?_)
        · ((try dsimp only); go_keep)
        clear hK K hh2
        (try simp only [Act.put, sit, scz, scs])
        refine wpAnyH_ready (rs := [0, 5]) (by kernel_rfl) (by simp) ?_
        refine AllReadyH.cons (o := ⟨some 82, _, _, _, _, _⟩) rfl (fun K hK => ?_) ?_
        ·
         go_simp
         refine hK.out _ _ ?_ (fun hh4 => ?_)
         · ((try dsimp only); go_keep)
         clear hK K hh3
         (try simp only [Act.put, sit, scz, scs])
         refine wpAnyH_ready (rs := [5]) (by kernel_rfl) (by simp) ?_
         refine AllReadyH.cons (o := ⟨some 87, _, _, _, _, _⟩) rfl (fun K hK => ?_) AllReadyH.nil
         go_simp
         (first | (go_at_call 95; (with_reducible refine (rmul_at (iq.ci kq) (iy.ci ky) hnq hny).mono ?_); rw [HT.out]; rintro e w7 ⟨E7, l7, k7, rfl, d7, u7, v7, g7⟩; have K8 := (K7.call g7).add (CanAt.mk_ d7 u7 v7); have hnt : l7 ≤ 100000 := (by rw [← d7.len]; exact zt.len2); clear p0 p1 p2 p3 p4 p5; obtain ⟨⟨p0, p1⟩, ⟨p2, p3⟩, ⟨p4, p5⟩, _⟩ := K8.facts; obtain ⟨i7, _, _, _, jx, _⟩ := K8.ints) | (go_at_call 94; (with_reducible refine (rsub_at (jx.ci kx) (i7.ci kt) hnx hnt).mono ?_); rw [HZ.out]; rintro e w8 ⟨E8, l8, k8, rfl, d8, u8, v8, g8⟩; have K9 := (K8.call g8).add (CanAt.mk_ d8 u8 v8); clear p0 p1 p2 p3 p4 p5; obtain ⟨⟨p0, p1⟩, ⟨p2, p3⟩, ⟨p4, p5⟩, _⟩ := K9.facts; obtain ⟨f0, f1⟩ := K9.free (i := 2) rfl; obtain ⟨f2, f3⟩ := K9.free (i := 1) rfl) | fail)
         (try go_wp2_with fail)
         refine hK.out _ _ ?_ (fun hh5 => ?_)
         · ((try dsimp only); go_keep)
         clear hK K hh4
         (try simp only [Act.put, sit, scz, scs])
         refine wpAnyH_ready (rs := [6]) (by kernel_rfl) (by simp) ?_
         refine AllReadyH.cons (o := ⟨none, _, _, _, _, _⟩) rfl (fun K hK => ?_) AllReadyH.nil
         go_simp
         refine hK.out _ _ ?_ (fun hh6 => ?_)
         · ((try dsimp only); go_keep)
         clear hK K hh5
         (try simp only [Act.put, sit, scz, scs])
         refine wpAnyH_ready (rs := [7]) (by kernel_rfl) (by simp) ?_
         refine AllReadyH.cons (o := ⟨none, _, _, _, _, _⟩) rfl (fun K hK => ?_) AllReadyH.nil
         go_simp
         refine hK.out _ _ ?_ (fun hh7 => ?_)
         · ((try dsimp only); go_keep)
         clear hK K hh6
         (try simp only [Act.put, sit, scz, scs])
         refine wpAnyH_done (by kernel_rfl) ?_ _
         have KA := (K9.put 2 rfl (decide (y0 < 0)) Ay ny cy).put 1 rfl (decide (z < 0)) E8 l8 k8
         simp only [List.set] at KA
         go_wp2_with fail
         go_roundg p.natAbs
         case rel =>
          have KB := KA.erase 0
          simp only [List.eraseIdx] at KB
          obtain ⟨iz, _, _, ip, iy, _, ir, _, im, ig, ib, ia, _⟩ := KB.ints
          exact ⟨r, p, y0, z, Ar, Ap, Ay, E8, nr, cr, np, cp, ny, cy, l8, k8, rfl, HS2.out, KB.ints_ ⟨iz, iy, ip, ir, im, ig, ib, ia, trivial⟩⟩
         case measure => (have := HPR.out; have := HK.out; omega)
        refine AllReadyH.cons (o := ⟨some 87, _, _, _, _, _⟩) rfl (fun K hK => ?_) AllReadyH.nil
        go_simp
        (first | (go_at_call 95; (with_reducible refine (rmul_at (iq.ci kq) (iy.ci ky) hnq hny).mono ?_); rw [HT.out]; rintro e w7 ⟨E7, l7, k7, rfl, d7, u7, v7, g7⟩; have K8 := (K7.call g7).add (CanAt.mk_ d7 u7 v7); have hnt : l7 ≤ 100000 := (by rw [← d7.len]; exact zt.len2); clear p0 p1 p2 p3 p4 p5; obtain ⟨⟨p0, p1⟩, ⟨p2, p3⟩, ⟨p4, p5⟩, _⟩ := K8.facts; obtain ⟨i7, _, _, _, jx, _⟩ := K8.ints) | (go_at_call 94; (with_reducible refine (rsub_at (jx.ci kx) (i7.ci kt) hnx hnt).mono ?_); rw [HZ.out]; rintro e w8 ⟨E8, l8, k8, rfl, d8, u8, v8, g8⟩; have K9 := (K8.call g8).add (CanAt.mk_ d8 u8 v8); clear p0 p1 p2 p3 p4 p5; obtain ⟨⟨p0, p1⟩, ⟨p2, p3⟩, ⟨p4, p5⟩, _⟩ := K9.facts; obtain ⟨f0, f1⟩ := K9.free (i := 2) rfl; obtain ⟨f2, f3⟩ := K9.free (i := 1) rfl) | fail)
        (try go_wp2_with fail)
        refine hK.out _ _ ?_ (fun hh4 => ?_)
        · ((try dsimp only); go_keep)
        clear hK K hh3
        (try simp only [Act.put, sit, scz, scs])
        refine wpAnyH_ready (rs := [0]) (by kernel_rfl) (by simp) ?_
        refine AllReadyH.cons (o := ⟨some 82, _, _, _, _, _⟩) rfl (fun K hK => ?_) AllReadyH.nil
        go_simp
        refine hK.out _ _ ?_ (fun hh5 => ?_)
        · ((try dsimp only); go_keep)
        clear hK K hh4
        (try simp only [Act.put, sit, scz, scs])
        refine wpAnyH_ready (rs := [6]) (by kernel_rfl) (by simp) ?_
        refine AllReadyH.cons (o := ⟨none, _, _, _, _, _⟩) rfl (fun K hK => ?_) AllReadyH.nil
        go_simp
        refine hK.out _ _ ?_ (fun hh6 => ?_)
        · ((try dsimp only); go_keep)
        clear hK K hh5
        (try simp only [Act.put, sit, scz, scs])
        refine wpAnyH_ready (rs := [7]) (by kernel_rfl) (by simp) ?_
        refine AllReadyH.cons (o := ⟨none, _, _, _, _, _⟩) rfl (fun K hK => ?_) AllReadyH.nil
        go_simp
        refine hK.out _ _ ?_ (fun hh7 => ?_)
        · ((try dsimp only); go_keep)
        clear hK K hh6
        (try simp only [Act.put, sit, scz, scs])
        refine wpAnyH_done (by kernel_rfl) ?_ _
        have KA := (K9.put 2 rfl (decide (y0 < 0)) Ay ny cy).put 1 rfl (decide (z < 0)) E8 l8 k8
        simp only [List.set] at KA
        go_wp2_with fail
        go_roundg p.natAbs
        case rel =>
         have KB := KA.erase 0
         simp only [List.eraseIdx] at KB
         obtain ⟨iz, _, _, ip, iy, _, ir, _, im, ig, ib, ia, _⟩ := KB.ints
         exact ⟨r, p, y0, z, Ar, Ap, Ay, E8, nr, cr, np, cp, ny, cy, l8, k8, rfl, HS2.out, KB.ints_ ⟨iz, iy, ip, ir, im, ig, ib, ia, trivial⟩⟩
        case measure => (have := HPR.out; have := HK.out; omega)
end Go.Proofs.Ytplmfdgdbolcaaa
