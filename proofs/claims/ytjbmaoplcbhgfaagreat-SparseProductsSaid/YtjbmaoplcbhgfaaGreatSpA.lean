/-
  The program's and the reference's At.
-/
import Derived.Test.YtjbmaoplcbhgfaaGreatVecB
set_option linter.unusedVariables false
set_option linter.unusedSimpArgs false
namespace Go.Proofs.YtjbmaoplcbhgfaaGreat
open Go.RowKit

set_option maxHeartbeats 4000000 in
set_option maxRecDepth 100000 in
theorem szero_any (w : World) : Calls Tryz.prog 50 #[] w (RetFr w 0 1) := by
  have HH := Lib.hid ((St.start w).new 28 (Plains.four false none 0 0 false none 0 0))
  have z0 : Sz 0 2000 := Sz.zero _
  have k0 := z0.ok
  obtain ⟨x, HX⟩ : ∃ v, Hid (rn 0 1 = v) := ⟨_, rfl⟩
  obtain ⟨y, HY⟩ : ∃ v, Hid (rd 0 1 = v) := ⟨_, rfl⟩
  rw [show (0 : Int) = x from (r_int 0).1.symm.trans HX.out, show (1 : Int) = y from (r_int 0).2.symm.trans HY.out]
  go_enter Tryz.func50, Tryz.ntmps50
  go_wp2_with (first
    | (go_at_call 69; have K := HH.out; clear HH; (with_reducible refine (fromInt64_any 0 (by decide) (by decide) _).mono ?_); rintro e w1 ⟨B1, m1, k1, rfl, d1, u1, v1, g1⟩; have K1 := (K.call g1).add (CanAt.mk_ d1 u1 v1); have ik : IntAt w1 false B1 m1 k1 0 := K1.ints.1.ci k0)
    | (go_at_call 68; (with_reducible refine (fromInt_at ik z0).mono ?_); rw [HX.out, HY.out]; rintro e w2 ⟨B2, m2, k2, B3, m3, k3, rfl, d2, d3, g2⟩; have K2 := ((K1.call g2).add d3).add d2; obtain ⟨⟨q0, q1, q2, q3⟩, _⟩ := K2.facts; obtain ⟨f0, f1, f2, f3⟩ := K2.free (i := 0) rfl)
    | fail)
  have K4 := K2.put4 0 rfl (decide (x < 0)) B2 m2 k2 (decide (y < 0)) B3 m3 k3
  simp only [List.set] at K4
  obtain ⟨⟨r0, r1, r2, r3⟩, _⟩ := K4.facts
  exact bodyPost_ret (v := .agg #[.bool (decide (x < 0)), .slice B2 m2 k2, .bool (decide (y < 0)), .slice B3 m3 k3]) (by simp [results, Tryz.results50, go_sem, r0, r1, r2, r3]) rfl (RetFr.of_st K4)

set_option maxHeartbeats 8000000 in
set_option maxRecDepth 100000 in
theorem scanon_at {w : World} {s s' : Bool} {A A' : Option Addr} {n c n' c' : Nat} {z d : Int} (h : IntAt w s A n c z) (h' : IntAt w s' A' n' c' d) (zz : Sz z 2000) (zd : Sz d 2000) :
    Calls Tryz.prog 31 #[.agg #[.bool s, .slice A n c, .bool s', .slice A' n' c']] w (RetFr w (rn z d) (rd z d)) := by
  have H0 := ((((St.start w).addI h).addI h').new 28 (Plains.four s A n c s' A' n' c')).new 28 (Plains.four false none 0 0 false none 0 0)
  simp only [World.size_alloc] at H0
  have HH := Lib.hid H0
  clear H0 h h'
  obtain ⟨x, HX⟩ : ∃ v, Hid (nwN z d = v) := ⟨_, rfl⟩
  obtain ⟨y, HY⟩ : ∃ v, Hid (nwD z d = v) := ⟨_, rfl⟩
  by_cases hd : d = 0
  · have HE : Hid (nwE d = 11) := by unfold Hid nwE; simp [hd]
    have hz := r_zero z
    rw [hd, hz.1, hz.2]
    obtain ⟨u, HU⟩ : ∃ v, Hid ((0 : Int) = v) := ⟨_, rfl⟩
    obtain ⟨v, HV⟩ : ∃ v, Hid ((1 : Int) = v) := ⟨_, rfl⟩
    have hzz := szero_any
    have hgoal : RetFr w 0 1 = RetFr w u v := by rw [← HU.out, ← HV.out]
    have hzz2 : ∀ w', Calls Tryz.prog 50 #[] w' (RetFr w' u v) := fun w' => by rw [← HU.out, ← HV.out]; exact szero_any w'
    rw [hgoal]
    clear hzz hgoal hz hd
    go_enter Tryz.func31, Tryz.ntmps31
    have K := HH.out
    clear HH
    obtain ⟨_, ⟨p0, p1, p2, p3⟩, _⟩ := K.facts
    have ia := K.ints.2.1.i
    have ib := K.ints.1.i
    go_upto_region 3 with (first
      | (go_at_call 49; (with_reducible refine (new_at ia ib zz zd).mono ?_); rw [HX.out, HY.out, HE.out]; rintro e w1 ⟨B1, m1, k1, B2, m2, k2, rfl, d1, d2, g1⟩; have K1 := (K.call g1).alloc (.cells #[.bool (decide (x < 0)), .slice B1 m1 k1, .bool (decide (y < 0)), .slice B2 m2 k2] 28))
      | fail)
    clear K ia ib p0 p1 p2 p3 d1 d2 g1
    generalize w1.alloc (.cells #[.bool (decide (x < 0)), .slice B1 m1 k1, .bool (decide (y < 0)), .slice B2 m2 k2] 28) = W1 at K1 ⊢
    go_wp2_with (first
      | (go_at_call 50; (with_reducible refine (hzz2 _).mono ?_); rintro e w2 ⟨B3, m3, k3, B4, m4, k4, rfl, d3, d4, g2⟩; have K2 := ((K1.call g2).add d4).add d3; obtain ⟨⟨q0, q1, q2, q3⟩, _⟩ := K2.facts; obtain ⟨f0, f1, f2, f3⟩ := K2.free (i := 0) rfl)
      | fail)
    have K4 := K2.put4 0 rfl (decide (u < 0)) B3 m3 k3 (decide (v < 0)) B4 m4 k4
    simp only [List.set] at K4
    obtain ⟨⟨r0, r1, r2, r3⟩, _⟩ := K4.facts
    exact bodyPost_ret (v := .agg #[.bool (decide (u < 0)), .slice B3 m3 k3, .bool (decide (v < 0)), .slice B4 m4 k4]) (by simp [results, Tryz.results31, go_sem, r0, r1, r2, r3]) rfl (RetFr.of_st K4)
  · have HE : Hid (nwE d = 0) := by unfold Hid nwE; simp [hd]
    have hn : rn z d = nwN z d := by unfold nwN; rw [if_neg hd]
    have hm : rd z d = nwD z d := by unfold nwD; rw [if_neg hd]
    rw [hn, hm, HX.out, HY.out]
    clear hn hm hd
    go_enter Tryz.func31, Tryz.ntmps31
    have K := HH.out
    clear HH
    obtain ⟨_, ⟨p0, p1, p2, p3⟩, _⟩ := K.facts
    have ia := K.ints.2.1.i
    have ib := K.ints.1.i
    go_upto_region 4 with (first
      | (go_at_call 49; (with_reducible refine (new_at ia ib zz zd).mono ?_); rw [HX.out, HY.out, HE.out]; rintro e w1 ⟨B1, m1, k1, B2, m2, k2, rfl, d1, d2, g1⟩; have K1 := (((K.call g1).add d2).add d1).new 28 (Plains.four (decide (x < 0)) B1 m1 k1 (decide (y < 0)) B2 m2 k2))
      | fail)
    clear K ia ib p0 p1 p2 p3 d1 d2 g1
    generalize w1.alloc (.cells #[.bool (decide (x < 0)), .slice B1 m1 k1, .bool (decide (y < 0)), .slice B2 m2 k2] 28) = W1 at K1 ⊢
    generalize w1.heap.size = h3 at K1 ⊢
    obtain ⟨⟨p0, p1, p2, p3⟩, ⟨q0, q1, q2, q3⟩, _⟩ := K1.facts
    obtain ⟨f0, f1, f2, f3⟩ := K1.free (i := 1) rfl
    obtain ⟨z1, z2⟩ := K1.ne 0 1 rfl rfl (by decide)
    have K4 := K1.put4 1 rfl (decide (x < 0)) B1 m1 k1 (decide (y < 0)) B2 m2 k2
    simp only [List.set] at K4
    obtain ⟨_, ⟨r0, r1, r2, r3⟩, _⟩ := K4.facts
    go_wp2_with fail
    exact bodyPost_ret (v := .agg #[.bool (decide (x < 0)), .slice B1 m1 k1, .bool (decide (y < 0)), .slice B2 m2 k2]) (by simp [results, Tryz.results31, go_sem, r0, r1, r2, r3]) rfl (RetFr.of_st K4)

theorem rzero_any (w : World) : Calls Tryz.prog 23 #[.int .i64 0] w (RetFr w 0 1) := by
  have := whole_any 0 (by decide) (by decide) w
  rw [(r_int 0).1, (r_int 0).2] at this
  exact this

set_option maxHeartbeats 8000000 in
set_option maxRecDepth 100000 in
theorem rat_at {w : World} {A : Option Addr} {c : Nat} {l : List VE} {i : Int} (hF : VL w A l) (hS : ∀ x ∈ l, FE.S 1900 x.e) (hl : l.length ≤ 1000000) :
    Calls Tryz.prog 29 #[.slice A l.length c, .int .i64 i] w (RetFr w (atV l i).1 (atV l i).2) := by
  have HF := Lib.hid hF
  have HSS := Lib.hid hS
  clear hF hS
  have HH := Lib.hid ((St.start w).new 28 (Plains.four false none 0 0 false none 0 0))
  obtain ⟨L, HL⟩ : ∃ v, Hid (l.length = v) := ⟨_, rfl⟩
  rw [HL.out] at hl
  rw [HL.out]
  obtain ⟨x, HX⟩ : ∃ v, Hid ((atV l i).1 = v) := ⟨_, rfl⟩
  obtain ⟨y, HY⟩ : ∃ v, Hid ((atV l i).2 = v) := ⟨_, rfl⟩
  rw [HX.out, HY.out]
  have HV : Hid (atV (l.drop 0) i = (x, y)) := by unfold Hid; rw [← HX.out, ← HY.out]; rfl
  clear HX HY
  go_enter Tryz.func29, Tryz.ntmps29
  go_upto_region 2 with fail
  go_loopg [5] L (fun r q wr => ∃ k : Nat, k + r = L ∧ q = .int .i64 k ∧ atV (l.drop k) i = (x, y) ∧ St w wr [vf w.heap.size false none 0 0 false none 0 0] [])
  case atStart => exact ⟨0, by omega, rfl, HV.out, HH.out⟩
  case round =>
    clear HV HH
    obtain ⟨k, hk, rfl, hV, K⟩ := hrel
    by_cases hlt : k < L
    · obtain ⟨z, hz⟩ : ∃ z, l[k]? = some z := ⟨l[k]'(by rw [HL.out]; exact hlt), List.getElem?_eq_getElem _⟩
      have hmem : z ∈ l := List.mem_of_getElem? hz
      obtain ⟨g, o, hA, hg, hcell⟩ := HF.out.2 (by rw [HL.out]; omega)
      have hin := (hcell k z hz).call hg K.below
      have hat := (HF.out.1 z hmem).call K.below
      have hsm := HSS.out z hmem
      rw [drop_get hz] at hV
      obtain ⟨q, e⟩ := z
      obtain ⟨s, P, pn, pc, s', P', qn, qc, a, b⟩ := e
      obtain ⟨ck, c0, c1, c2, c3⟩ := hin
      obtain ⟨I1, I2⟩ := hat
      obtain ⟨za, zb⟩ := hsm
      simp only at ck c0 c1 c2 c3 I1 I2 za zb
      clear hcell hz hmem
      unfold atV at hV
      simp only at hV
      subst hA
      have j0 : (0 : Int) ≤ (k : Int) := by omega
      have j1 : (k : Int) < (L : Int) := by omega
      have HK := Lib.hid hk
      have HLT := Lib.hid hlt
      clear hk
      by_cases h1 : q = i
      · rw [if_pos h1] at hV
        obtain ⟨ex, ey⟩ := Prod.mk.inj hV
        have HEX : Hid (rn a b = x ∧ rd a b = y) := ⟨ex, ey⟩
        clear hV ex ey
        subst h1
        go_wp2_with (first
          | (go_at_call 41; (with_reducible refine (reduce_at I1 I2 za zb).mono ?_); rw [HEX.out.1, HEX.out.2]; rintro ee w2 ⟨D1, o1, r1, D2, o2, r2, rfl, e1, e2, g2⟩; have K3 := ((K.call g2).add e2).add e1; obtain ⟨⟨p0, p1, p2, p3⟩, _⟩ := K3.facts; obtain ⟨f0, f1, f2, f3⟩ := K3.free (i := 0) rfl)
          | fail)
        have K4 := K3.put4 0 rfl (decide (x < 0)) D1 o1 r1 (decide (y < 0)) D2 o2 r2
        simp only [List.set] at K4
        obtain ⟨⟨r0, r1', r2', r3⟩, _⟩ := K4.facts
        exact bodyPost_ret (v := .agg #[.bool (decide (x < 0)), .slice D1 o1 r1, .bool (decide (y < 0)), .slice D2 o2 r2]) (by simp [results, Tryz.results29, go_sem, r0, r1', r2', r3]) rfl (RetFr.of_st K4)
      · rw [if_neg h1] at hV
        have HV := Lib.hid hV
        clear hV
        go_wp2_with fail
        go_roundg (gk - 1)
        case rel => exact ⟨k + 1, by have := HK.out; have := HLT.out; omega, by go_num, HV.out, K⟩
        case measure => have := HK.out; have := HLT.out; omega
    · obtain rfl : k = L := by omega
      have hlen : l.drop k = [] := List.drop_eq_nil_of_le (by rw [HL.out]; exact Nat.le_refl _)
      rw [hlen] at hV
      have HEX : Hid ((0 : Int) = x ∧ (1 : Int) = y) := Prod.mk.inj hV
      clear hV
      have j1 : ¬ (k : Int) < (k : Int) := by omega
      have hz : ∀ w', Calls Tryz.prog 23 #[.int .i64 0] w' (RetFr w' x y) := fun w' => by
        rw [← HEX.out.1, ← HEX.out.2]; exact rzero_any w'
      go_wp2_with (first
        | (go_at_call 23; (with_reducible refine (hz _).mono ?_); rintro ee w2 ⟨D1, o1, r1, D2, o2, r2, rfl, e1, e2, g2⟩; have K3 := ((K.call g2).add e2).add e1; obtain ⟨⟨p0, p1, p2, p3⟩, _⟩ := K3.facts; obtain ⟨f0, f1, f2, f3⟩ := K3.free (i := 0) rfl)
        | fail)
      have K4 := K3.put4 0 rfl (decide (x < 0)) D1 o1 r1 (decide (y < 0)) D2 o2 r2
      simp only [List.set] at K4
      obtain ⟨⟨r0, r1', r2', r3⟩, _⟩ := K4.facts
      exact bodyPost_ret (v := .agg #[.bool (decide (x < 0)), .slice D1 o1 r1, .bool (decide (y < 0)), .slice D2 o2 r2]) (by simp [results, Tryz.results29, go_sem, r0, r1', r2', r3]) rfl (RetFr.of_st K4)
end Go.Proofs.YtjbmaoplcbhgfaaGreat

