/-
  The walk of the law SparseBack.
-/
import Derived.Test.YtjbmaoplcbhgfaaSpDW
import Derived.Deep.RegionHeld3
set_option linter.unusedVariables false
set_option linter.unusedSimpArgs false
namespace Go.Proofs.Ytjbmaoplcbhgfaa
open Go.RowKit

/-- An entry with its canonical value. -/
def VE.cn (x : VE) : Int × Int × Int := (x.k, rn x.e.a x.e.b, rd x.e.a x.e.b)
/-- What FromDense answers, out of the values alone. -/
def fdP : Int → List (Int × Int) → List (Int × Int × Int)
  | _, [] => []
  | i, p :: l => (if sgn p.1 * sgn p.2 = 0 then [] else [(i, rn p.1 p.2, rd p.1 p.2)]) ++ fdP (i + 1) l
theorem fdV_P (i : Int) (l : List FE) : fdV i l = fdP i (l.map FE.v) := by
  induction l generalizing i with
  | nil => rfl
  | cons e l ih => unfold fdV; rw [ih, List.map_cons]; rfl
theorem sgn_zero {z : Int} : sgn z = 0 ↔ z = 0 := by
  unfold sgn cmpI
  constructor
  · intro h
    split at h
    · cases h
    · split at h
      · cases h
      · omega
  · rintro rfl; rfl
theorem atV_tail {x : VE} {l : List VE} {i : Int} (h : x.k ≠ i) : atV (x :: l) i = atV l i := by
  conv => lhs; unfold atV
  rw [if_neg h]
theorem atV_far {l : List VE} {i : Int} (h : ∀ x ∈ l, x.k ≠ i) : atV l i = (0, 1) := by
  induction l with
  | nil => rfl
  | cons x l ih => rw [atV_tail (h x (by simp))]; exact ih fun y hy => h y (by simp [hy])
theorem fd_dense (n : Nat) : ∀ (m j : Nat) (v : List VE) (b : Int), vrest n b v = 0 → (∀ x ∈ v, (j : Int) ≤ x.k) → j + m = n →
    fdP j ((List.range m).map fun i => atV v ((j + i : Nat) : Int)) = v.map VE.cn := by
  intro m
  induction m with
  | zero =>
    intro j v b h hj hm
    cases v with
    | nil => rfl
    | cons x v =>
      have h1 := vrest_zero h x (by simp)
      have h2 := hj x (by simp)
      omega
  | succ m ih =>
    intro j v b h hj hm
    rw [List.range_succ_eq_map, List.map_cons, List.map_map, Nat.add_zero]
    have hshift : ∀ u : List VE, ((fun i => atV u ((j + i : Nat) : Int)) ∘ Nat.succ) = fun i => atV u ((j + 1 + i : Nat) : Int) := by
      intro u
      funext i
      show atV u ((j + (i + 1) : Nat) : Int) = _
      rw [show j + (i + 1) = j + 1 + i by omega]
    rw [hshift]
    unfold fdP
    have hj1 : ((j : Int) + 1) = ((j + 1 : Nat) : Int) := by omega
    rw [hj1]
    by_cases hx : ∃ x v', v = x :: v' ∧ x.k = j
    · obtain ⟨x, v', rfl, hk⟩ := hx
      have ht := vrest_tail h
      have hgt := fun y hy => (vrest_zero ht y hy).1
      have h1 := vrest_zero h x (by simp)
      have hat : atV (x :: v') (j : Int) = (rn x.e.a x.e.b, rd x.e.a x.e.b) := by unfold atV; rw [if_pos hk]
      rw [hat]
      have hne : sgn (rn x.e.a x.e.b) * sgn (rd x.e.a x.e.b) ≠ 0 := by
        intro h0
        rcases Int.mul_eq_zero.1 h0 with h0 | h0
        · rw [sgn_rn] at h0; exact h1.2.2.2 h0
        · have := rd_pos x.e.a x.e.b
          rw [sgn_zero] at h0
          omega
      have hs := r_self (rd_pos x.e.a x.e.b) (rn_gcd x.e.a x.e.b)
      simp only [if_neg hne, hs.1, hs.2]
      rw [List.map_cons]
      have hfun : (fun i => atV (x :: v') ((j + 1 + i : Nat) : Int)) = fun i => atV v' ((j + 1 + i : Nat) : Int) := by
        funext i
        exact atV_tail (by omega)
      rw [hfun, ih (j + 1) v' x.k ht (fun y hy => by have := hgt y hy; omega) (by omega)]
      show [((j : Int), rn x.e.a x.e.b, rd x.e.a x.e.b)] ++ v'.map VE.cn = VE.cn x :: v'.map VE.cn
      unfold VE.cn
      rw [hk]
      rfl
    · have hgt : ∀ y ∈ v, ((j + 1 : Nat) : Int) ≤ y.k := by
        intro y hy
        cases v with
        | nil => cases hy
        | cons x v' =>
          have hxj : x.k ≠ j := fun e => hx ⟨x, v', rfl, e⟩
          have hx2 := hj x (by simp)
          rcases List.mem_cons.1 hy with rfl | hy
          · omega
          · have := (vrest_zero (vrest_tail h) y hy).1
            omega
      have hat : atV v (j : Int) = (0, 1) := atV_far fun y hy => by have := hgt y hy; omega
      rw [hat]
      rw [if_pos (by rfl), List.nil_append]
      exact ih (j + 1) v b h hgt (by omega)
theorem back_math {v : List VE} {n : Int} (h : valid v n = 0) {l : List FE} (hl : l.map FE.v = tdV v n) : fdV 0 l = v.map VE.cn := by
  obtain ⟨h0, h1, h2⟩ := valid_zero h
  obtain ⟨N, rfl⟩ : ∃ N : Nat, n = N := ⟨n.toNat, by omega⟩
  rw [fdV_P, hl]
  unfold tdV
  rw [if_pos h, Int.toNat_natCast]
  have := fd_dense N N 0 v (-1) h2 (fun x hx => by have := vrest_zero h2 x hx; omega) (by omega)
  unfold dnV
  simpa using this

set_option maxHeartbeats 16000000 in
set_option maxRecDepth 100000 in
theorem back_law (A : Option Addr) (c : Nat) (v : List VE) (n : Int) (w : World) (hV : VP w A v) (hn1 : -9223372036854775808 ≤ n) (hn2 : n ≤ 9223372036854775807) :
    Calls Try.prog 7 #[.slice A v.length c, .int .i64 n] w (RetT1 w) := by
  have hlight := fun b hb => light3_1 (c := c) hV.ok b hb
  have hB0 : Below w.heap.size w (w.alloc (.cells #[.slice A v.length c] 48)) := bnew _ _
  by_cases h : (∀ x ∈ v, LtE x) ∧ v.length ≤ 60
  rotate_left
  · have hlight := hlight false ⟨fun h' => (by cases h'), fun h' => absurd h' h⟩
    clear h hV
    go_enter Try.func7, Try.ntmps7
    go_wp2_with (first
      | (go_at_call 30; (with_reducible refine hlight.mono ?_); rintro e w1 ⟨rfl, g1⟩)
      | (go_at_call 32; (with_reducible refine (awake3_any _).mono ?_); rintro e w4 ⟨rfl, g4⟩)
      | fail)
    go_ret
    exact ⟨rfl, bcall (bcall hB0 g1) g4⟩
  have hlight := hlight true (by simpa using h)
  by_cases h3 : n ≤ 60 ∨ 4096 < n
  rotate_left
  · have hs := small_any n
    rw [show decide (n ≤ 60 ∨ 4096 < n) = false by simp; omega] at hs
    clear h hV h3
    go_enter Try.func7, Try.ntmps7
    go_wp2_with (first
      | (go_at_call 30; (with_reducible refine hlight.mono ?_); rintro e w1 ⟨rfl, g1⟩; have b1 := bcall hB0 g1)
      | (go_at_call 31; (with_reducible refine (hs _).mono ?_); rintro e w3 ⟨rfl, g3⟩)
      | (go_at_call 32; (with_reducible refine (awake3_any _).mono ?_); rintro e w4 ⟨rfl, g4⟩)
      | fail)
    go_ret
    exact ⟨rfl, bcall (bcall b1 g3) g4⟩
  have hs := small_any n
  rw [show decide (n ≤ 60 ∨ 4096 < n) = true by simp; omega] at hs
  have hW := hV.vl h.1
  have hWS := hV.sz h.1
  have c0 := fun w' hb => rvalid_at (w := w') (c := c) (n := n) (hW.call hb) (fun e he => (hWS e he).mono (by decide)) (by omega) hn1 hn2
  by_cases h4 : valid v n = 0
  rotate_left
  · obtain ⟨er, HE⟩ : ∃ u, Hid (valid v n = u) := ⟨_, rfl⟩
    rw [HE.out] at h4
    simp only [HE.out] at c0
    have her : (er == 0) = false := by simp [h4]
    obtain ⟨M, HM⟩ : ∃ u, Hid (v.length = u) := ⟨_, rfl⟩
    simp only [HM.out] at c0 hlight hB0 ⊢
    clear h hV h3 hW hWS
    go_enter Try.func7, Try.ntmps7
    go_wp2_with (first
      | (go_at_call 30; (with_reducible refine hlight.mono ?_); rintro e w1 ⟨rfl, g1⟩; have b1 := bcall hB0 g1)
      | (go_at_call 31; (with_reducible refine (hs _).mono ?_); rintro e w3 ⟨rfl, g3⟩; have b3 := bcall b1 g3)
      | (go_at_call 42; (with_reducible refine (c0 _ b3).mono ?_); rintro e w5 ⟨rfl, g5⟩)
      | (go_at_call 32; (with_reducible refine (awake3_any _).mono ?_); rintro e w4 ⟨rfl, g4⟩)
      | fail)
    go_ret
    exact ⟨rfl, bcall (bcall b3 g5) g4⟩
  have c3 := fun w' hb => toDense_at (w := w') (c := c) (n := n) (hW.call hb) (fun e he => (hWS e he).mono (by decide)) (by omega) hn1 hn2
  simp only [h4] at c0 c3
  obtain ⟨h0, h4096, _⟩ := valid_zero h4
  have hlenT : (tdV v n).length = n.toNat := by unfold tdV dnV; rw [if_pos h4, List.length_map, List.length_range]
  have hszT : ∀ p ∈ tdV v n, Sz p.1 13 ∧ Sz p.2 13 := by
    unfold tdV dnV
    rw [if_pos h4]
    intro p hp
    obtain ⟨i, _, rfl⟩ := List.mem_map.1 hp
    rw [atV_get]
    have hg : FE.S 12 (getE v (i : Int) zeroFE) := by
      rcases getE_mem v (i : Int) zeroFE with h1 | ⟨z, hz, h1⟩
      · rw [h1]; exact ⟨Sz.zero _, Sz.zero _⟩
      · rw [h1]; exact hWS z hz
    exact ⟨(sz_rn hg.1).mono (by decide), (sz_rd hg.2 (by decide)).mono (by decide)⟩
  have HBK : Hid (∀ l : List FE, l.map FE.v = tdV v n → fdV 0 l = v.map VE.cn) := fun l hl => back_math h4 hl
  obtain ⟨N, rfl⟩ : ∃ N : Nat, n = N := ⟨n.toNat, by omega⟩
  rw [Int.toNat_natCast] at hlenT
  have HW := Lib.hid hW
  have HWS := Lib.hid hWS
  obtain ⟨T, HT⟩ : ∃ u, Hid (tdV v N = u) := ⟨_, rfl⟩
  obtain ⟨M, HM⟩ : ∃ u, Hid (v.length = u) := ⟨_, rfl⟩
  have hM60 : M ≤ 60 := by rw [← HM.out]; exact h.2
  have HVV := Lib.hid hV
  simp only [HT.out, HM.out] at c0 c3 hlight hB0 hlenT hszT HBK ⊢
  have HLT := Lib.hid hlenT
  have HST := Lib.hid hszT
  have HB := Lib.hid hB0
  clear h hV h3 hW hWS h4 hlenT hszT hB0
  go_enter Try.func7, Try.ntmps7
  go_upto_region 4 with (first
    | (go_at_call 30; (with_reducible refine hlight.mono ?_); clear hlight; rintro e w1 ⟨rfl, g1⟩; have b1 := bcall HB.out g1; clear g1)
    | (go_at_call 31; (with_reducible refine (hs _).mono ?_); clear hs; rintro e w3 ⟨rfl, g3⟩; have b3 := bcall b1 g3; clear b1 g3)
    | (go_at_call 42; (with_reducible refine (c0 _ b3).mono ?_); clear c0; rintro e w4 ⟨rfl, g4⟩; have b4 := bcall b3 g4; clear b3 g4)
    | (go_at_call 35; (with_reducible refine (c3 _ b4).mono ?_); clear c3; rintro e w6 ⟨A3, q3, l3, rfl, m3, v6, g6⟩; have b6 := bcall b4 g6; clear b4 g6)
    | fail)
  have hl3 : l3.length = N := by have := congrArg List.length m3; rw [List.length_map] at this; rw [this]; exact HLT.out
  have hs3 : ∀ e ∈ l3, FE.S 13 e := fun e he => by
    have h1 : FE.v e ∈ T := by rw [← m3]; exact List.mem_map.2 ⟨e, he, rfl⟩
    exact HST.out _ h1
  have hfd := HBK.out l3 m3
  have c1 := fromDense_at (w := w6) (A := A3) (c := q3) (l := l3) (v6.fl hs3) (fun e he => (hs3 e he).mono (by decide)) (by omega)
  rw [hfd, hl3] at c1
  rw [hl3]
  have HB6 := Lib.hid b6
  clear v6 hs3 hfd m3 hl3 b6
  go_upto_region 5 with (first
    | (go_at_call 33; (with_reducible refine c1.mono ?_); clear c1; rintro e w7 ⟨A1, q1, l1, rfl, m1, v7, g7⟩; have b7 := bcall HB6.out g7; clear g7)
    | fail)
  have hl1 : l1.length = M := by have := congrArg List.length m1; rw [List.length_map, List.length_map] at this; rw [this]; exact HM.out
  rw [hl1]
  have HL1 := Lib.hid hl1
  have HM1 := Lib.hid m1
  have HV7 := Lib.hid v7
  have HB7 := Lib.hid b7
  clear hl1 m1 v7 b7
  go_upto_region 8 with fail
  go_loopg [9] M (fun r q wr => ∃ k : Nat, k + r = M ∧ q = .int .i64 k ∧ Below w7.heap.size w7 wr)
  case atStart => exact ⟨0, by omega, rfl, Below.refl _ _⟩
  case round =>
    obtain ⟨k, hk, rfl, hW⟩ := hrel
    by_cases hlt : k < M
    · obtain ⟨x, hx⟩ : ∃ z, l1[k]? = some z := ⟨l1[k]'(by rw [HL1.out]; exact hlt), List.getElem?_eq_getElem _⟩
      obtain ⟨y, hy⟩ : ∃ z, v[k]? = some z := ⟨v[k]'(by rw [HM.out]; exact hlt), List.getElem?_eq_getElem _⟩
      have hxy : VE.v x = VE.cn y := by
        have h1 : (l1.map VE.v)[k]? = (v.map VE.cn)[k]? := by rw [HM1.out]
        rw [List.getElem?_map, List.getElem?_map, hx, hy] at h1
        simpa using h1
      have hWB := bcall HB7.out hW
      obtain ⟨g, o, eA, hg, hcell⟩ := HV7.out.2 (by rw [HL1.out]; omega)
      obtain ⟨g', o', eB, hg', hcell'⟩ := HW.out.2 (by rw [HM.out]; omega)
      have hdr := (Below.refl wr.heap.size wr).drew
      have hg2 : g < wr.drew.heap.size := Nat.lt_of_lt_of_le hg hW.size
      have hg3 : g' < wr.drew.heap.size := Nat.lt_of_lt_of_le hg' hWB.size
      have hin := ((hcell k x hx).call hg hW)
      have hin' := ((hcell' k y hy).call hg' hWB)
      have hat := ((HV7.out.1 x (List.mem_of_getElem? hx)).call hW).call hdr
      have hat' := ((HW.out.1 y (List.mem_of_getElem? hy)).call hWB).call hdr
      have hsm := HWS.out y (List.mem_of_getElem? hy)
      obtain ⟨q, s, P, pn, pc, s', P', qn, qc, a, b⟩ := x
      obtain ⟨q2, t, R, rn', rc, t', R', un, uc, a2, b2⟩ := y
      obtain ⟨rfl, hxa, hxb⟩ : q = q2 ∧ a = rn a2 b2 ∧ b = rd a2 b2 := by simpa [VE.v, VE.cn] using hxy
      have HR : Hid (rn a2 b2 = a ∧ rd a2 b2 = b) := ⟨hxa.symm, hxb.symm⟩
      obtain ⟨ck, c0, c1, c2, c3⟩ := hin
      obtain ⟨dk, d0, d1, d2, d3⟩ := hin'
      obtain ⟨X1, X2⟩ := hat
      obtain ⟨I1, I2⟩ := hat'
      obtain ⟨za, zb⟩ := hsm
      simp only at ck c0 c1 c2 c3 dk d0 d1 d2 d3 X1 X2 I1 I2 za zb
      have za9 : Sz a2 1900 := za.mono (by decide)
      have zb9 : Sz b2 1900 := zb.mono (by decide)
      clear hcell hcell' hx hy hxy hxa hxb za zb
      subst eA eB
      have j0 : (0 : Int) ≤ (k : Int) := by omega
      have j1 : (k : Int) < (M : Int) := by omega
      have HK := Lib.hid hk
      have HLT' := Lib.hid hlt
      have HW' := Lib.hid hW
      have HDR := Lib.hid hdr
      have HG2 := Lib.hid hg2
      have HG3 := Lib.hid hg3
      clear hk hW hWB hdr hg2 hg3 hg hg'
      go_upto_region 10 with fail
      go_region_held3 (fun w' => w'.cell? ⟨g, o + k * 5, none⟩ = some (.int .i64 q) ∧ w'.cell? ⟨g', o' + k * 5, none⟩ = some (.int .i64 q) ∧ w'.cell? ⟨g', o' + k * 5 + 1, none⟩ = some (.bool t) ∧ w'.cell? ⟨g', o' + k * 5 + 1 + 1, none⟩ = some (.slice R rn' rc) ∧ w'.cell? ⟨g', o' + k * 5 + 1 + 2, none⟩ = some (.bool t') ∧ w'.cell? ⟨g', o' + k * 5 + 1 + 3, none⟩ = some (.slice R' un uc) ∧ w'.cell? ⟨g, o + k * 5 + 1, none⟩ = some (.bool s) ∧ w'.cell? ⟨g, o + k * 5 + 1 + 1, none⟩ = some (.slice P pn pc) ∧ w'.cell? ⟨g, o + k * 5 + 1 + 2, none⟩ = some (.bool s') ∧ w'.cell? ⟨g, o + k * 5 + 1 + 3, none⟩ = some (.slice P' qn qc))
        (first | exact ⟨ck, dk, d0, d1, d2, d3, c0, c1, c2, c3⟩ | exact ⟨pk, qk, q0, q1, q2, q3, p0, p1, p2, p3⟩ | exact ⟨rk, sk, s0, s1, s2, s3, r0, r1', r2', r3⟩)
        (first
        | (go_at_call 43; (with_reducible refine (reduce_at I1 I2 za9 zb9).mono ?_); rw [HR.out.1, HR.out.2]; rintro ee w2 ⟨D1, o1, r1, D2, o2, r2, rfl, e1, e2, g2⟩; have J1 := X1.call g2; have J2 := X2.call g2; have p0 := ((bcell g2).1 g _ HG2.out).trans c0; have p1 := ((bcell g2).1 g _ HG2.out).trans c1; have p2 := ((bcell g2).1 g _ HG2.out).trans c2; have p3 := ((bcell g2).1 g _ HG2.out).trans c3; have pk := ((bcell g2).1 g _ HG2.out).trans ck; have qk := ((bcell g2).1 g' _ HG3.out).trans dk; have q0 := ((bcell g2).1 g' _ HG3.out).trans d0; have q1 := ((bcell g2).1 g' _ HG3.out).trans d1; have q2 := ((bcell g2).1 g' _ HG3.out).trans d2; have q3 := ((bcell g2).1 g' _ HG3.out).trans d3; have l2 := HG2.out; have l3 := HG3.out; replace l2 := Nat.lt_of_lt_of_le l2 g2.size; replace l3 := Nat.lt_of_lt_of_le l3 g2.size)
        | (go_at_call 39; (with_reducible refine (sameFrac_at J1 J2 e1 e2).mono ?_); rintro ee w3 ⟨rfl, g3⟩; have rk := ((bcell g3).1 g _ l2).trans pk; have sk := ((bcell g3).1 g' _ l3).trans qk; have s0 := ((bcell g3).1 g' _ l3).trans q0; have s1 := ((bcell g3).1 g' _ l3).trans q1; have s2 := ((bcell g3).1 g' _ l3).trans q2; have s3 := ((bcell g3).1 g' _ l3).trans q3; have r0 := ((bcell g3).1 g _ l2).trans p0; have r1' := ((bcell g3).1 g _ l2).trans p1; have r2' := ((bcell g3).1 g _ l2).trans p2; have r3 := ((bcell g3).1 g _ l2).trans p3)
        | fail)
      all_goals
        go_wp2_with fail
        go_roundg (gk - 1)
        case rel => exact ⟨k + 1, by have := HK.out; have := HLT'.out; omega, by go_num, bcall (bcall (bcall HW'.out HDR.out) g2) g3⟩
        case measure => have := HK.out; have := HLT'.out; omega
    · obtain rfl : k = M := by omega
      have j1 : ¬ (k : Int) < (k : Int) := by omega
      go_wp2_with (first
        | (go_at_call 32; (with_reducible refine (awake3_any _).mono ?_); rintro e w13 ⟨rfl, g13⟩)
        | fail)
      go_ret
      exact ⟨rfl, bcall (bcall HB7.out hW) g13⟩
end Go.Proofs.Ytjbmaoplcbhgfaa

