/-
  The program's sumProducts.
-/
import Derived.Test.YtjbmaoplcbhgfaaGreatSpD
import Derived.Test.YtjbmaoplcbhgfaaGreatRatM
import Derived.Test.YtjbmaoplcbhgfaaGreatDotA
set_option linter.unusedVariables false
set_option linter.unusedSimpArgs false
namespace Go.Proofs.YtjbmaoplcbhgfaaGreat
open Go.RowKit

/-- Two pointers to fractions. -/
structure PE where
  (g1 o1 : Nat) (x : FE) (g2 o2 : Nat) (y : FE)
def PE.cells (p : PE) : List Value := [.pointer (some ⟨p.g1, p.o1, none⟩), .pointer (some ⟨p.g2, p.o2, none⟩)]
def PE.Ok (w : World) (p : PE) : Prop := p.g1 < w.heap.size ∧ p.g2 < w.heap.size ∧ FE.In w p.g1 p.o1 p.x ∧ FE.In w p.g2 p.o2 p.y ∧ FE.At w p.x ∧ FE.At w p.y
theorem PE.Ok.call {w w' : World} {p : PE} (h : PE.Ok w p) (hb : Below w.heap.size w w') : PE.Ok w' p :=
  ⟨Nat.lt_of_lt_of_le h.1 hb.size, Nat.lt_of_lt_of_le h.2.1 hb.size, h.2.2.1.call h.1 hb, h.2.2.2.1.call h.2.1 hb, h.2.2.2.2.1.call hb, h.2.2.2.2.2.call hb⟩
def PE.mv (p : PE) : Int × Int := (mN p.x p.y, mD p.x p.y)
def PE.q (p : PE) : Rat := p.x.q * p.y.q
theorem PE.mv_q (p : PE) : p.mv = (p.q.num, (p.q.den : Int)) := by
  unfold PE.mv PE.q mN mD FE.q
  exact Prod.ext (mul_q _ _ _ _).1 (mul_q _ _ _ _).2
/-- A slice of such pairs. -/
def PL (w : World) (A : Option Addr) (l : List PE) : Prop :=
  0 < l.length → ∃ g o, A = some ⟨g, o, none⟩ ∧ g < w.heap.size ∧ ∀ k p, l[k]? = some p → w.cell? ⟨g, o + k * 2, none⟩ = some (.pointer (some ⟨p.g1, p.o1, none⟩)) ∧ w.cell? ⟨g, o + k * 2 + 1, none⟩ = some (.pointer (some ⟨p.g2, p.o2, none⟩))
theorem map_take_succ {α β : Type} {l : List α} {k : Nat} {x : α} (f : α → β) (h : l[k]? = some x) : (l.take (k + 1)).map f = (l.take k).map f ++ [f x] := by
  rw [List.take_add_one, h]; simp

set_option maxHeartbeats 16000000 in
set_option maxRecDepth 100000 in
theorem sumP_at {w : World} {A : Option Addr} {c : Nat} {l : List PE} {K1 K2 : Nat} (hP : PL w A l) (hok : ∀ p ∈ l, PE.Ok w p) (hS : ∀ p ∈ l, FE.S K1 p.x ∧ FE.S K2 p.y) (h1 : K1 ≤ 900) (h2 : K2 ≤ 900)
    (hl : l.length ≤ 4096) (hK : (K1 + K2 + 5) * l.length + 2 ≤ 4000) :
    Calls Tryz.prog 25 #[.slice A l.length c] w (RetFr w (sq (l.map PE.q)).num ((sq (l.map PE.q)).den : Int)) := by
  have HPL := Lib.hid hP
  have HOK := Lib.hid hok
  have HSS := Lib.hid hS
  have HKK := Lib.hid hK
  clear hP hok hS hK
  obtain ⟨N, HN⟩ : ∃ v, Hid (l.length = v) := ⟨_, rfl⟩
  rw [HN.out] at hl
  rw [HN.out]
  have H0 := ((St.start w).new 28 (Plains.four false none 0 0 false none 0 0)).new 28 (flatF_plain (List.replicate N zeroFE))
  have hmk := make_n (w.alloc (.cells #[.bool false, .slice none 0 0, .bool false, .slice none 0 0] 28)) N hl
  go_enter Tryz.func25, Tryz.ntmps25
  go_upto_region 3 with fail
  simp only [World.size_alloc] at H0
  clear hmk
  obtain ⟨D, HD⟩ : ∃ v, Hid (List.replicate N zeroFE = v) := ⟨_, rfl⟩
  have HP : Hid (D.length = N) := by unfold Hid; rw [← HD.out, List.length_replicate]
  rw [HD.out] at H0 ⊢
  obtain ⟨W0, HW⟩ : ∃ v, v = ((w.alloc (.cells #[.bool false, .slice none 0 0, .bool false, .slice none 0 0] 28)).alloc (.cells (flatF D).toArray 28)) := ⟨_, rfl⟩
  rw [← HW]
  have H1 : St w W0 [(w.heap.size + 1, 28, flatF D), vf w.heap.size false none 0 0 false none 0 0] [] := by rw [HW]; exact H0
  clear H0 HW
  have HH := Lib.hid H1
  clear H1
  generalize hG : w.heap.size + 1 = G at HH ⊢
  clear hG
  go_loopg [11] N (fun r q wr => ∃ (k : Nat) (C : List FE), k + r = N ∧ q = .int .i64 k ∧ C.length = k ∧ St w wr [(G, 28, flatF (C ++ D.drop k)), vf w.heap.size false none 0 0 false none 0 0] [] ∧ (∀ e ∈ C, FE.C wr e) ∧ C.map FE.v = (l.take k).map PE.mv)
  case atStart => exact ⟨0, [], by omega, rfl, rfl, HH.out, fun e he => (by cases he), rfl⟩
  case round =>
    clear HH
    obtain ⟨k, C, hk, rfl, hC, K, hCC, hM⟩ := hrel
    by_cases hlt : k < N
    · obtain ⟨f, hf⟩ : ∃ f, D[k]? = some f := ⟨D[k]'(by rw [HP.out]; exact hlt), List.getElem?_eq_getElem _⟩
      obtain ⟨z, hz⟩ : ∃ z, l[k]? = some z := ⟨l[k]'(by rw [HN.out]; exact hlt), List.getElem?_eq_getElem _⟩
      have hmem := List.mem_of_getElem? hz
      have hget := (get_snoc C D k hC).trans hf
      have hset := fun e => set_snoc C D k e hC (by rw [HP.out]; exact hlt)
      have hlenD : (C ++ D.drop k).length = N := by rw [List.length_append, List.length_drop, HP.out]; omega
      have hnext := map_take_succ PE.mv hz
      obtain ⟨g, o, hA, hg, hcell⟩ := HPL.out (by rw [HN.out]; omega)
      have hin := hcell k z hz
      have hokz := HOK.out z hmem
      have hsz := HSS.out z hmem
      have c0 := ((bcell K.below).1 g _ hg).trans hin.1
      have c1 := ((bcell K.below).1 g _ hg).trans hin.2
      obtain ⟨x, HX⟩ : ∃ v, Hid (mN z.x z.y = v) := ⟨_, rfl⟩
      obtain ⟨y, HY⟩ : ∃ v, Hid (mD z.x z.y = v) := ⟨_, rfl⟩
      have hmv : z.mv = (x, y) := by unfold PE.mv; rw [HX.out, HY.out]
      rw [hmv] at hnext
      have HNX := Lib.hid hnext
      have HM := Lib.hid hM
      have HCL := Lib.hid hC
      have HSET := Lib.hid hset
      have HGET := Lib.hid hget
      have HLEN := Lib.hid hlenD
      have j0 : (0 : Int) ≤ (k : Int) := by omega
      have j1 : (k : Int) < (N : Int) := by omega
      have HK := Lib.hid hk
      have HLT := Lib.hid hlt
      have HOKZ := Lib.hid hokz
      clear hk hM hset hC hnext hmv hcell hin hmem hz hget hf hlenD hokz
      obtain ⟨g1, o1, fx, g2, o2, fy⟩ := z
      obtain ⟨s1, A1, n1, q1, t1, B1, m1, d1, a1, b1⟩ := fx
      obtain ⟨s2, A2, n2, q2, t2, B2, m2, d2, a2, b2⟩ := fy
      simp only at c0 c1
      have HXY : Hid (rn (a1 * a2) (b1 * b2) = x ∧ rd (a1 * a2) (b1 * b2) = y) := ⟨HX.out, HY.out⟩
      clear HX HY
      obtain ⟨⟨za1, zb1⟩, ⟨za2, zb2⟩⟩ := hsz
      simp only at za1 zb1 za2 zb2
      have ya1 : Sz a1 900 := za1.mono h1
      have yb1 : Sz b1 900 := zb1.mono h1
      have ya2 : Sz a2 900 := za2.mono h2
      have yb2 : Sz b2 900 := zb2.mono h2
      subst hA
      have hGlt : G < wr.heap.size := K.lt (i := 0) rfl
      have hRlt : w.heap.size < wr.heap.size := K.lt (i := 1) rfl
      have ne1 : ¬ wr.heap.size = G := by omega
      have ne2 : ¬ G = wr.heap.size := by omega
      go_upto_region 5 with fail
      have Ka := K.alloc (.cells #[.pointer (some ⟨g1, o1, none⟩), .pointer (some ⟨g2, o2, none⟩)] 57)
      have hCa := fun e he => (hCC e he).call (bnew wr (.cells #[.pointer (some ⟨g1, o1, none⟩), .pointer (some ⟨g2, o2, none⟩)] 57))
      have hA0 : (wr.alloc (.cells #[.pointer (some ⟨g1, o1, none⟩), .pointer (some ⟨g2, o2, none⟩)] 57)).cell? ⟨wr.heap.size, 0, none⟩ = some (.pointer (some ⟨g1, o1, none⟩)) := by simp
      have hA1 : (wr.alloc (.cells #[.pointer (some ⟨g1, o1, none⟩), .pointer (some ⟨g2, o2, none⟩)] 57)).cell? ⟨wr.heap.size, 1, none⟩ = some (.pointer (some ⟨g2, o2, none⟩)) := by simp
      clear K hCC c0 c1
      generalize (wr.alloc (.cells #[.pointer (some ⟨g1, o1, none⟩), .pointer (some ⟨g2, o2, none⟩)] 57)) = wA at *
      generalize wr.heap.size = hA at *
      have Kd := Ka.drew
      have hCd := fun e he => (hCa e he).call (Below.refl _ wA).drew
      have hA0' : (wA.drew).cell? ⟨hA, 0, none⟩ = some (.pointer (some ⟨g1, o1, none⟩)) := hA0
      have hA1' : (wA.drew).cell? ⟨hA, 1, none⟩ = some (.pointer (some ⟨g2, o2, none⟩)) := hA1
      obtain ⟨k1, k2, k3, k4, k5, k6⟩ := HOKZ.out.call Kd.below
      simp only at k1 k2 k3 k4 k5 k6
      obtain ⟨x0, x1, x2, x3⟩ := k3
      obtain ⟨y0, y1, y2, y3⟩ := k4
      obtain ⟨i1, i2⟩ := k5
      obtain ⟨i3, i4⟩ := k6
      simp only at x0 x1 x2 x3 y0 y1 y2 y3 i1 i2 i3 i4
      clear Ka hA0 hA1 hCa
      go_region_with (first
        | (go_at_call 32; (with_reducible refine (fmul_at i1 i2 i3 i4 ya1 yb1 ya2 yb2).mono ?_); rw [HXY.out.1, HXY.out.2]; rintro ee w3 ⟨D1, o3, r1, D2, o4, r2, rfl, e1, e2, g3⟩; have K3 := Kd.call g3; have hC3 := fun e he => (hCd e he).call g3; have fz := fun j => (K3.1.get (i := 0) rfl).1.frozen j; have z0 := fz (k * 4); have z1 := fz (k * 4 + 1); have z2 := fz (k * 4 + 2); have z3 := fz (k * 4 + 3); have dd := flatF_in (K3.1.get (i := 0) rfl).1 k _ HGET.out; simp only [Nat.zero_add] at dd; obtain ⟨d0, d1', d2', d3⟩ := dd)
        | fail)
      all_goals
        have own3 := (K3.1.get (i := 0) rfl).1
        have K4 := K3.putF k (by rw [HLEN.out]; exact HLT.out) ⟨decide (x < 0), D1, o3, r1, decide (y < 0), D2, o4, r2, x, y⟩
        rw [HSET.out] at K4
        have hC4 : ∀ e ∈ C ++ [(⟨decide (x < 0), D1, o3, r1, decide (y < 0), D2, o4, r2, x, y⟩ : FE)], FE.C _ e := fun e he => by
          have h0 : FE.C w3 e := by
            rcases List.mem_append.1 he with he | he
            · exact hC3 e he
            · rw [List.mem_singleton.1 he]; exact ⟨e1, e2⟩
          exact h0.putF own3 (flatF_plain _) k ⟨decide (x < 0), D1, o3, r1, decide (y < 0), D2, o4, r2, x, y⟩
        simp only at K4 hC4
        go_wp2_with fail
        go_roundg (gk - 1)
        case rel => exact ⟨k + 1, _, by have := HK.out; have := HLT.out; omega, by go_num, by rw [List.length_append, HCL.out]; rfl, K4, hC4, by rw [HNX.out, ← HM.out, List.map_append]; rfl⟩
        case measure => have := HK.out; have := HLT.out; omega
    · obtain rfl : k = N := by omega
      have hnil : D.drop k = [] := List.drop_eq_nil_of_le (by rw [HP.out]; exact Nat.le_refl _)
      have htk : l.take k = l := List.take_of_length_le (by rw [HN.out]; exact Nat.le_refl _)
      rw [hnil, List.append_nil] at K
      rw [htk] at hM
      have j1 : ¬ (k : Int) < (k : Int) := by omega
      have hsz : ∀ e ∈ C, FE.S (K1 + K2 + 2) e := fun e he => by
        have h3 : FE.v e ∈ l.map PE.mv := by rw [← hM]; exact List.mem_map.2 ⟨e, he, rfl⟩
        obtain ⟨p, hp, hpe⟩ := List.mem_map.1 h3
        have h4 := HSS.out p hp
        unfold FE.v PE.mv at hpe
        simp only [Prod.mk.injEq] at hpe
        unfold FE.S
        rw [← hpe.1, ← hpe.2]
        exact ⟨(sz_rn (h4.1.1.mul h4.2.1)).mono (by omega), (sz_rd ((h4.1.2.mono (Nat.le_succ _)).mul (h4.2.2)) (by omega)).mono (by omega)⟩
      have hFC := FC.of_own (K.1.get (i := 0) rfl).1 hCC
      have hq : C.map FE.q = l.map PE.q := by
        have h3 := congrArg (List.map fun p : Int × Int => qv p.1 p.2) hM
        rw [List.map_map, List.map_map] at h3
        refine h3.trans (List.map_congr_left fun p _ => ?_)
        show qv p.mv.1 p.mv.2 = p.q
        rw [PE.mv_q, qv_nd]
      have hsum := sumF_at (c := k) (hFC.fl (K := K1 + K2 + 2) hsz (by omega)) (fun e he => (hsz e he).mono (by omega)) (SumS.of (K := K1 + K2 + 2) hsz (by omega) (by have := HKK.out; rw [HN.out] at this; rw [hC]; omega)) (by omega)
      rw [sumF_q, hq, hC] at hsum
      obtain ⟨u, HU⟩ : ∃ v, Hid ((sq (l.map PE.q)).num = v) := ⟨_, rfl⟩
      obtain ⟨v, HV⟩ : ∃ v, Hid (((sq (l.map PE.q)).den : Int) = v) := ⟨_, rfl⟩
      rw [HU.out, HV.out]
      simp only [HU.out, HV.out] at hsum
      clear hFC hq hsz hM hnil htk hC hCC
      go_upto_region 7 with fail
      go_wp2_with (first
        | (go_at_call 44; (with_reducible refine hsum.mono ?_); rintro ee w2 ⟨D1, n3, r1, D2, n4, r2, rfl, e1, e2, g2'⟩; have K2 := ((K.call g2').add e2).add e1; obtain ⟨_, ⟨q0, q1, q2, q3⟩, _⟩ := K2.facts; obtain ⟨f0, f1, f2, f3⟩ := K2.free (i := 1) rfl; have K3 := K2.put4 1 rfl (decide (u < 0)) D1 n3 r1 (decide (v < 0)) D2 n4 r2; simp only [List.set] at K3; obtain ⟨_, ⟨r0, r1', r2', r3⟩, _⟩ := K3.facts)
        | fail)
      refine bodyPost_ret (v := .agg #[.bool (decide (u < 0)), .slice D1 n3 r1, .bool (decide (v < 0)), .slice D2 n4 r2]) (by simp [results, Tryz.results25, go_sem, r0, r1', r2', r3]) rfl ?_
      first
        | exact RetFr.of_st K3
        | (rw [HU.out, HV.out]; exact RetFr.of_st K3)
end Go.Proofs.YtjbmaoplcbhgfaaGreat

