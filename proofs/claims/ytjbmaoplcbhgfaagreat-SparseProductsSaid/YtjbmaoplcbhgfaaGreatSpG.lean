/-
  The program's Dot.
-/
import Derived.Test.YtjbmaoplcbhgfaaGreatSpF
import Derived.StillTailTactics
import Derived.Deep.RegionLaw
set_option linter.unusedVariables false
set_option linter.unusedSimpArgs false
namespace Go.Proofs.YtjbmaoplcbhgfaaGreat
open Go.RowKit

def flatP (l : List PE) : List Value := l.flatMap PE.cells
theorem flatP_snoc (l : List PE) (p : PE) : flatP (l ++ [p]) = flatP l ++ p.cells := by unfold flatP; simp
theorem flatP_get (l : List PE) (k i : Nat) (x : PE) (h : l[k]? = some x) (hi : i < 2) : (flatP l)[k * 2 + i]? = x.cells[i]? := by
  induction l generalizing k with
  | nil => simp at h
  | cons f l ih =>
    unfold flatP at *
    rw [List.flatMap_cons]
    have h4 : f.cells.length = 2 := rfl
    cases k with
    | zero =>
      simp only [List.getElem?_cons_zero, Option.some.injEq] at h
      subst h
      rw [List.getElem?_append_left (by rw [h4]; omega), Nat.zero_mul, Nat.zero_add]
    | succ k =>
      rw [List.getElem?_cons_succ] at h
      rw [List.getElem?_append_right (by rw [h4]; omega), h4, show (k + 1) * 2 + i - 2 = k * 2 + i by omega]
      exact ih k h
theorem own_PL {B : Nat} {wr : World} {v : Value} {l : List PE} (hown : wr.ownsRow B 57 2 v l.length (flatP l)) :
    ∃ A c, v = .slice A l.length c ∧ PL wr A l := by
  rcases Nat.eq_zero_or_pos l.length with h0 | h0
  · rcases hown.2 with ⟨rfl, _⟩ | ⟨g, cap, cur, rfl, _⟩
    · exact ⟨none, 0, by rw [h0], fun h => by omega⟩
    · exact ⟨_, cap, rfl, fun h => by omega⟩
  · rcases hown.2 with ⟨_, hz⟩ | ⟨g, cap, cur, rfl, hg, hb, _⟩
    · omega
    · refine ⟨_, cap, rfl, fun _ => ⟨g, 0, rfl, ?_, fun k e hk => ?_⟩⟩
      · rcases Nat.lt_or_ge g wr.heap.size with h | h
        · exact h
        · rw [Array.getElem?_eq_none h] at hb; cases hb
      · have hkl : k < l.length := by
          rcases Nat.lt_or_ge k l.length with h | h
          · exact h
          · rw [List.getElem?_eq_none h] at hk; cases hk
        have hc : ∀ i, i < 2 → wr.cell? ⟨g, k * 2 + i, none⟩ = e.cells[i]? := fun i hi => (hown.cellAt (k * 2 + i) (by omega)).trans (flatP_get l k i e hk hi)
        have c0 := hc 0 (by omega)
        have c1 := hc 1 (by omega)
        rw [Nat.zero_add]
        exact ⟨c0, c1⟩
theorem ptr_plain (a b : Option Addr) : Plains [.pointer a, .pointer b] := ⟨Plain.pointer _, Plain.pointer _, trivial⟩
theorem dotM_nil1 (r : Nat) (b : QV) : dotM r [] b = [] := by cases r <;> rfl
theorem dotM_nil2 (r : Nat) (a : QV) : dotM r a [] = [] := by cases r <;> cases a <;> rfl

set_option maxHeartbeats 16000000 in
set_option maxRecDepth 100000 in
theorem dot_at {w : World} {A B : Option Addr} {c d : Nat} {l m : List VE} {n : Int} {K1 K2 : Nat} (hA : VL w A l) (hB : VL w B m) (h1 : valid l n = 0) (h2 : valid m n = 0) (hSa : ∀ x ∈ l, FE.S K1 x.e) (hSb : ∀ x ∈ m, FE.S K2 x.e)
    (hK1 : K1 ≤ 900) (hK2 : K2 ≤ 900) (hl : l.length ≤ 4096) (hm : m.length ≤ 4096) (hK : ∀ k, k ≤ l.length → k ≤ m.length → (K1 + K2 + 5) * k + 2 ≤ 4000) :
    Calls Tryz.prog 9 #[.slice A l.length c, .slice B m.length d, .int .i64 n] w (RetFE w (dotQ n.toNat (l.map VE.q) (m.map VE.q)).num ((dotQ n.toNat (l.map VE.q) (m.map VE.q)).den : Int) 0) := by
  obtain ⟨i0, hi, hz0, hz1, hz2⟩ := info_parts prod_info
  have hboth := fun w' (hb : Below w.heap.size w w') => vboth_at (w := w') (c := c) (d := d) (n := n) (hA.call hb) (hB.call hb) h1 h2 (by omega) (by omega)
  obtain ⟨hn0, hn1, hr1⟩ := valid_zero h1
  obtain ⟨_, _, hr2⟩ := valid_zero h2
  have o1 := ok_q.1 hr1
  have o2 := ok_q.1 hr2
  have hsum := dotM_sum (n := n.toNat) (l.length + m.length) (l.map VE.q) (m.map VE.q) (-1) (by rw [Int.toNat_of_nonneg hn0]; exact o1) (by rw [Int.toNat_of_nonneg hn0]; exact o2) (by simp)
  obtain ⟨V, HV⟩ : ∃ v, Hid (dotM (l.length + m.length) (l.map VE.q) (m.map VE.q) = v) := ⟨_, rfl⟩
  rw [HV.out] at hsum
  rw [← hsum]
  have HVV : Hid (([] : List PE).map PE.q ++ dotM (l.length + m.length) ((l.drop 0).map VE.q) ((m.drop 0).map VE.q) = V) := HV.out
  clear h1 h2 hn0 hn1 hr1 hr2 o1 o2 hsum HV
  have HF := Lib.hid hA
  have HG := Lib.hid hB
  have HSA := Lib.hid hSa
  have HSB := Lib.hid hSb
  have HKK := Lib.hid hK
  clear hA hB hSa hSb hK
  obtain ⟨L, HL⟩ : ∃ v, Hid (l.length = v) := ⟨_, rfl⟩
  obtain ⟨M, HM⟩ : ∃ v, Hid (m.length = v) := ⟨_, rfl⟩
  rw [HL.out] at hl HVV
  rw [HM.out] at hm HVV
  simp only [HL.out, HM.out] at hboth
  rw [HL.out, HM.out]
  obtain ⟨u, HU⟩ : ∃ v, Hid ((sq V).num = v) := ⟨_, rfl⟩
  obtain ⟨v, HVd⟩ : ∃ v, Hid (((sq V).den : Int) = v) := ⟨_, rfl⟩
  rw [HU.out, HVd.out]
  have HH := Lib.hid ((St.start w).new 28 (Plains.four false none 0 0 false none 0 0))
  go_enter Tryz.func9, Tryz.ntmps9
  go_upto_region 6 with (first
    | (go_at_call 24; (with_reducible refine (hboth _ HH.out.below).mono ?_); rintro e w1 ⟨rfl, g1⟩; have K0 := HH.out.call g1)
    | fail)
  clear hboth HH g1
  have K0h := Lib.hid K0
  clear K0
  go_loopg [9, 10, 11] (L + M) (fun r pr i j wr => ∃ (ki kj : Nat) (ps : List PE), i = .int .i64 ki ∧ j = .int .i64 kj ∧ ki ≤ L ∧ kj ≤ M ∧ (L - ki) + (M - kj) ≤ r ∧ ps.length ≤ ki ∧ ps.length ≤ kj ∧
    PRow wr w1.heap.size 57 2 pr ps.length (flatP ps) ∧ Below w1.heap.size w1 wr ∧ (∀ p ∈ ps, PE.Ok w p ∧ FE.S K1 p.x ∧ FE.S K2 p.y) ∧ ps.map PE.q ++ dotM r ((l.drop ki).map VE.q) ((m.drop kj).map VE.q) = V)
  case atStart => exact ⟨0, 0, [], rfl, rfl, by omega, by omega, by omega, by simp, by simp, PRow.nil _ _ _ _, Below.refl _ _, fun p hp => (by cases hp), HVV.out⟩
  case round =>
    clear HVV
    obtain ⟨ki, kj, ps, rfl, rfl, b1, b2, b3, b4, b5, hP, hW, hok, hV⟩ := hrel
    have hWB := bcall K0h.out.below hW
    have hend : ∀ pr : Value, PRow wr w1.heap.size 57 2 pr ps.length (flatP ps) → ps.map PE.q = V → ps.length ≤ L → ps.length ≤ M → ∃ A c, pr = .slice A ps.length c ∧ (∀ w', Below wr.heap.size wr w' → Calls Tryz.prog 25 #[.slice A ps.length c] w' (RetFr w' u v)) := by
      intro pr hPr hv q1 q2
      obtain ⟨A', c', e1, hPL⟩ := own_PL hPr.1
      refine ⟨A', c', e1, fun w' hb => ?_⟩
      have hPL' : PL w' A' ps := fun h0 => by
        obtain ⟨g, o, z1, z2, z3⟩ := hPL h0
        refine ⟨g, o, z1, Nat.lt_of_lt_of_le z2 hb.size, fun k p hk => ?_⟩
        have := z3 k p hk
        exact ⟨((bcell hb).1 g _ z2).trans this.1, ((bcell hb).1 g _ z2).trans this.2⟩
      have := sumP_at (c := c') (K1 := K1) (K2 := K2) hPL' (fun p hp => (hok p hp).1.call (bcall hWB hb)) (fun p hp => (hok p hp).2) hK1 hK2 (by omega) (HKK.out _ (by rw [HL.out]; exact q1) (by rw [HM.out]; exact q2))
      rw [hv, HU.out, HVd.out] at this
      exact this
    by_cases hi1 : ki < L
    rotate_left
    · obtain rfl : ki = L := by omega
      have hnil : l.drop ki = [] := List.drop_eq_nil_of_le (by rw [HL.out]; exact Nat.le_refl _)
      rw [hnil, List.map_nil, dotM_nil1, List.append_nil] at hV
      obtain ⟨A', c', rfl, hsum⟩ := hend _ hP hV b4 (by omega)
      have hs0 := hsum wr (Below.refl _ _)
      have K := K0h.out.call hW
      clear hend hsum hV hok hP hnil
      obtain ⟨N', HN'⟩ : ∃ z, Hid (ps.length = z) := ⟨_, rfl⟩
      rw [HN'.out] at hs0
      rw [HN'.out]
      have j1 : ¬ (ki : Int) < (ki : Int) := by omega
      go_wp2_with (first
        | (go_at_call 25; (with_reducible refine hs0.mono ?_); rintro ee w2 ⟨D1, n3, r1, D2, n4, r2, rfl, e1, e2, g2⟩; have K2' := ((K.call g2).add e2).add e1; obtain ⟨⟨q0, q1, q2, q3⟩, _⟩ := K2'.facts; obtain ⟨f0, f1, f2, f3⟩ := K2'.free (i := 0) rfl; have K3 := K2'.put4 0 rfl (decide (u < 0)) D1 n3 r1 (decide (v < 0)) D2 n4 r2; simp only [List.set] at K3; obtain ⟨⟨r0, r1', r2', r3⟩, _⟩ := K3.facts)
        | fail)
      refine bodyPost_ret (v := .tuple #[.agg #[.bool (decide (u < 0)), .slice D1 n3 r1, .bool (decide (v < 0)), .slice D2 n4 r2], .int .i64 0]) (by simp [results, Tryz.results9, go_sem, r0, r1', r2', r3]) rfl ?_
      first
        | exact RetFE.of_st K3
        | (rw [HU.out, HVd.out]; exact RetFE.of_st K3)
    by_cases hj1 : kj < M
    rotate_left
    · obtain rfl : kj = M := by omega
      have hnil : m.drop kj = [] := List.drop_eq_nil_of_le (by rw [HM.out]; exact Nat.le_refl _)
      rw [hnil, List.map_nil, dotM_nil2, List.append_nil] at hV
      obtain ⟨A', c', rfl, hsum⟩ := hend _ hP hV (by omega) b5
      have hs0 := hsum wr (Below.refl _ _)
      have K := K0h.out.call hW
      clear hend hsum hV hok hP hnil
      obtain ⟨N', HN'⟩ : ∃ z, Hid (ps.length = z) := ⟨_, rfl⟩
      rw [HN'.out] at hs0
      rw [HN'.out]
      have j0 : (ki : Int) < (L : Int) := by omega
      have j1 : ¬ (kj : Int) < (kj : Int) := by omega
      go_wp2_with (first
        | (go_at_call 25; (with_reducible refine hs0.mono ?_); rintro ee w2 ⟨D1, n3, r1, D2, n4, r2, rfl, e1, e2, g2⟩; have K2' := ((K.call g2).add e2).add e1; obtain ⟨⟨q0, q1, q2, q3⟩, _⟩ := K2'.facts; obtain ⟨f0, f1, f2, f3⟩ := K2'.free (i := 0) rfl; have K3 := K2'.put4 0 rfl (decide (u < 0)) D1 n3 r1 (decide (v < 0)) D2 n4 r2; simp only [List.set] at K3; obtain ⟨⟨r0, r1', r2', r3⟩, _⟩ := K3.facts)
        | fail)
      refine bodyPost_ret (v := .tuple #[.agg #[.bool (decide (u < 0)), .slice D1 n3 r1, .bool (decide (v < 0)), .slice D2 n4 r2], .int .i64 0]) (by simp [results, Tryz.results9, go_sem, r0, r1', r2', r3]) rfl ?_
      first
        | exact RetFE.of_st K3
        | (rw [HU.out, HVd.out]; exact RetFE.of_st K3)
    clear hend
    obtain ⟨x, hx⟩ : ∃ z, l[ki]? = some z := ⟨l[ki]'(by rw [HL.out]; exact hi1), List.getElem?_eq_getElem _⟩
    obtain ⟨y, hy⟩ : ∃ z, m[kj]? = some z := ⟨m[kj]'(by rw [HM.out]; exact hj1), List.getElem?_eq_getElem _⟩
    obtain ⟨r', rfl⟩ : ∃ r', gk = r' + 1 := ⟨gk - 1, by omega⟩
    obtain ⟨g, o, eA, hg, hcell⟩ := HF.out.2 (by rw [HL.out]; omega)
    obtain ⟨g', o', eB, hg', hcell'⟩ := HG.out.2 (by rw [HM.out]; omega)
    have hin := hcell ki x hx
    have hin' := hcell' kj y hy
    have ck := (hin.call hg hWB).1
    have dk := (hin'.call hg' hWB).1
    have hp0 : PE.Ok w ⟨g, o + ki * 5 + 1, x.e, g', o' + kj * 5 + 1, y.e⟩ ∧ FE.S K1 x.e ∧ FE.S K2 y.e :=
      ⟨⟨hg, hg', hin.2, hin'.2, HF.out.1 x (List.mem_of_getElem? hx), HG.out.1 y (List.mem_of_getElem? hy)⟩, HSA.out x (List.mem_of_getElem? hx), HSB.out y (List.mem_of_getElem? hy)⟩
    rw [drop_get hx, drop_get hy, List.map_cons, List.map_cons] at hV
    unfold dotM at hV
    have hV2 : ps.map PE.q ++ (if x.k < y.k then dotM r' ((l.drop (ki + 1)).map VE.q) (VE.q y :: (m.drop (kj + 1)).map VE.q) else if y.k < x.k then dotM r' (VE.q x :: (l.drop (ki + 1)).map VE.q) ((m.drop (kj + 1)).map VE.q) else (x.e.q * y.e.q) :: dotM r' ((l.drop (ki + 1)).map VE.q) ((m.drop (kj + 1)).map VE.q)) = V := hV
    clear hV
    rw [← List.map_cons, ← List.map_cons, ← drop_get hx, ← drop_get hy] at hV2
    have hprod : PE.q ⟨g, o + ki * 5 + 1, x.e, g', o' + kj * 5 + 1, y.e⟩ = x.e.q * y.e.q := rfl
    obtain ⟨p, HPP⟩ : ∃ z, Hid (z = (⟨g, o + ki * 5 + 1, x.e, g', o' + kj * 5 + 1, y.e⟩ : PE)) := ⟨_, rfl⟩
    have HPc : Hid (p.cells = [.pointer (some ⟨g, o + ki * 5 + 1, none⟩), .pointer (some ⟨g', o' + kj * 5 + 1, none⟩)]) := by unfold Hid; rw [HPP.out]; rfl
    rw [← HPP.out] at hp0 hprod
    rw [← hprod] at hV2
    obtain ⟨qx, ex⟩ := x
    obtain ⟨qy, ey⟩ := y
    simp only at ck dk hV2
    subst eA eB
    have HOK : Hid (∀ p' ∈ ps ++ [p], PE.Ok w p' ∧ FE.S K1 p'.x ∧ FE.S K2 p'.y) := fun p' hp' => by
      rcases List.mem_append.1 hp' with h | h
      · exact hok p' h
      · rw [List.mem_singleton.1 h]; rw [HPP.out] at hp0 ⊢; exact hp0
    have HOK0 := Lib.hid hok
    have HP := Lib.hid hP
    have HW := Lib.hid hW
    have HS := Lib.hid hW.size
    clear hcell hcell' hin hin' hp0 hx hy hWB hprod hok hP hW HPP
    have j0 : (0 : Int) ≤ (ki : Int) := by omega
    have j1 : (ki : Int) < (L : Int) := by omega
    have j2 : (0 : Int) ≤ (kj : Int) := by omega
    have j3 : (kj : Int) < (M : Int) := by omega
    have HB := Lib.hid (show ki < L ∧ kj < M ∧ (L - ki) + (M - kj) ≤ r' + 1 ∧ ps.length ≤ ki ∧ ps.length ≤ kj from ⟨hi1, hj1, b3, b4, b5⟩)
    clear hi1 hj1 b1 b2 b3 b4 b5
    by_cases hlt : qx < qy
    · rw [if_pos hlt] at hV2
      have HV2 := Lib.hid hV2
      clear hV2
      go_upto_region 10 with fail
      go_quiet (fail)
      go_wp2_with fail
      go_roundg r'
      case rel => exact ⟨ki + 1, kj, ps, by go_num, rfl, by have := HB.out; omega, by have := HB.out; omega, by have := HB.out; omega, by have := HB.out; omega, by have := HB.out; omega, HP.out.call (bdrewN (Below.refl _ _) _), bdrewN HW.out _, HOK0.out, HV2.out⟩
      case measure => omega
    · rw [if_neg hlt] at hV2
      by_cases hgt : qy < qx
      · rw [if_pos hgt] at hV2
        have HV2 := Lib.hid hV2
        clear hV2
        go_upto_region 10 with fail
        go_quiet (fail)
        obtain ⟨n1, rfl⟩ : ∃ v, v = nq := ⟨_, rfl⟩
        go_upto_region 12 with fail
        go_quiet (fail)
        go_wp2_with fail
        go_roundg r'
        case rel => exact ⟨ki, kj + 1, ps, rfl, by go_num, by have := HB.out; omega, by have := HB.out; omega, by have := HB.out; omega, by have := HB.out; omega, by have := HB.out; omega, HP.out.call (bdrewN (Below.refl _ _) _), bdrewN HW.out _, HOK0.out, HV2.out⟩
        case measure => omega
      · rw [if_neg hgt] at hV2
        have HV2 := Lib.hid hV2
        clear hV2
        go_upto_region 10 with fail
        go_quiet (fail)
        obtain ⟨n1, rfl⟩ : ∃ v, v = nq := ⟨_, rfl⟩
        go_upto_region 12 with fail
        go_quiet (fail)
        obtain ⟨n2, rfl⟩ : ∃ v, v = nq := ⟨_, rfl⟩
        go_upto_region 7 with fail
        have hbB : Below wr.heap.size wr ((wr.drewN n1).drewN n2) := bcall (bdrewN (Below.refl _ _) _) (bdrewN (Below.refl _ _) _)
        generalize (wr.drewN n1).drewN n2 = wB at hbB ⊢
        have HP3 : PRow ((wB.alloc (.cells #[.pointer (some ⟨g, o + ki * 5 + 1, none⟩), .pointer (some ⟨g', o' + kj * 5 + 1, none⟩)] 57)).drew) w1.heap.size 57 2 _ ps.length (flatP ps) := ((HP.out.call hbB).call (bnew wB (.cells #[.pointer (some ⟨g, o + ki * 5 + 1, none⟩), .pointer (some ⟨g', o' + kj * 5 + 1, none⟩)] 57))).call (Below.refl _ _).drew
        have hnew : ∀ j u, [Value.pointer (some ⟨g, o + ki * 5 + 1, none⟩), Value.pointer (some ⟨g', o' + kj * 5 + 1, none⟩)][j]? = some u → ((wB.alloc (.cells #[.pointer (some ⟨g, o + ki * 5 + 1, none⟩), .pointer (some ⟨g', o' + kj * 5 + 1, none⟩)] 57)).drew).cell? ((⟨wB.heap.size, 0, none⟩ : Addr).add j) = some u := cell_two_new_ wB _ _ _
        have HW3 := Lib.hid (bcall (bcall HW.out hbB) (bnew wB (.cells #[.pointer (some ⟨g, o + ki * 5 + 1, none⟩), .pointer (some ⟨g', o' + kj * 5 + 1, none⟩)] 57)))
        have hs3 := Lib.hid hbB.size
        clear hbB ck dk
        go_region_law (refine step_append_p _ rfl (.tmp 30) (.tmp 40) 54 rfl w1.heap.size 57 i0 (.agg #[.pointer none, .pointer none]) 2 16 Tryz.underlying54 hi hz0 hz1 hz2 rfl (by decide) (ptr_plain _ _) _ ps.length (flatP ps) (by simp [Act.eval, Act.put]) HP3 ⟨wB.heap.size, 0, none⟩ 1 1 [.pointer (some ⟨g, o + ki * 5 + 1, none⟩), .pointer (some ⟨g', o' + kj * 5 + 1, none⟩)] (by simp [Act.eval, Act.put]) rfl hnew (fun u hu => by simp at hu; rcases hu with rfl | rfl <;> rfl) (ptr_plain _ _) (by omega) (by have := HB.out; unfold maxLen; omega) (by have := HB.out; omega) (by have := HS.out; have := hs3.out; simp; omega) ?_; intro v' w4 hp hgr)
        go_wp2_with fail
        have HW4 : Hid (Below w1.heap.size w1 w4) := Below.grown (bcall HW3.out (Below.refl _ _).drew) hgr (by have := HS.out; have := hs3.out; simp; omega) (fun j hj => (HP3.1.lt _ hj).1)
        go_roundg r'
        case rel => exact ⟨ki + 1, kj + 1, ps ++ [p], by go_num, by go_num, by have := HB.out; omega, by have := HB.out; omega, by have := HB.out; omega, by have := HB.out; simp; omega, by have := HB.out; simp; omega, by rw [flatP_snoc, HPc.out, List.length_append]; exact hp, HW4.out, HOK.out, by rw [List.map_append, List.append_assoc]; exact HV2.out⟩
        case measure => omega
end Go.Proofs.YtjbmaoplcbhgfaaGreat

