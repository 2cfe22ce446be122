/-
  The walk of the law RationalField.
-/
import Derived.Test.YtplmfdgdbolcaaaArithF
import Derived.Test.YtplmfdgdbolcaaaFrField
set_option linter.unusedVariables false
set_option linter.unusedSimpArgs false
namespace Go.Proofs.Ytplmfdgdbolcaaa
open Go.RowKit

theorem sz_aN {a b c d : Int} {k l : Nat} (ha : Sz a k) (hb : Sz b k) (hc : Sz c l) (hd : Sz d l) (hk : 0 < k) (hl : 0 < l) : Sz (aN a b c d) (k + l + 3) ∧ Sz (aD a b c d) (k + l + 3) := by
  have h1 : Sz (rn a b * rd c d) (k + l + 1) := ((sz_rn ha).mul (sz_rd hd hl)).mono (by omega)
  have h2 : Sz (rn c d * rd a b) (k + l + 1) := ((sz_rn hc).mul (sz_rd hb hk)).mono (by omega)
  have h3 : Sz (rd a b * rd c d) (k + l + 2) := ((sz_rd hb hk).mul (sz_rd hd hl)).mono (by omega)
  exact ⟨(sz_rn (h1.add h2)).mono (by omega), (sz_rd h3 (by omega)).mono (by omega)⟩
theorem sz_rm {a b c d : Int} {k l : Nat} (ha : Sz a k) (hb : Sz b k) (hc : Sz c l) (hd : Sz d l) (hk : 0 < k) : Sz (rn (a * c) (b * d)) (k + l + 3) ∧ Sz (rd (a * c) (b * d)) (k + l + 3) :=
  ⟨(sz_rn (ha.mul hc)).mono (by omega), (sz_rd (hb.mul hd) (by omega)).mono (by omega)⟩

set_option maxHeartbeats 16000000 in
set_option maxRecDepth 100000 in
theorem field_law (x1 x2 x3 x4 x5 x6 : Bool) (A1 A2 A3 A4 A5 A6 : Option Addr) (n1 c1 n2 c2 n3 c3 n4 c4 n5 c5 n6 c6 : Nat) (d1 d2 d3 d4 d5 d6 : List Nat) (w : World)
    (h1 : InP w A1 n1 c1 d1) (h2 : InP w A2 n2 c2 d2) (h3 : InP w A3 n3 c3 d3) (h4 : InP w A4 n4 c4 d4) (h5 : InP w A5 n5 c5 d5) (h6 : InP w A6 n6 c6 d6) :
    Calls Try.prog 10 #[.agg #[.bool x1, .slice A1 n1 c1, .bool x2, .slice A2 n2 c2], .agg #[.bool x3, .slice A3 n3 c3, .bool x4, .slice A4 n4 c4], .agg #[.bool x5, .slice A5 n5 c5, .bool x6, .slice A6 n6 c6]] w (RetT1 w) := by
  have hb3 : Below w.heap.size w (((((w.alloc (.cells #[.bool x1, .slice A1 n1 c1, .bool x2, .slice A2 n2 c2] 42)).alloc (.cells #[.bool x3, .slice A3 n3 c3, .bool x4, .slice A4 n4 c4] 42))).alloc (.cells #[.bool x5, .slice A5 n5 c5, .bool x6, .slice A6 n6 c6] 42)).alloc (.cells #[.bool x1, .slice A1 n1 c1, .bool x2, .slice A2 n2 c2, .bool x3, .slice A3 n3 c3, .bool x4, .slice A4 n4 c4, .bool x5, .slice A5 n5 c5, .bool x6, .slice A6 n6 c6] 42)) := ((bnew2 _ _ _).alloc (by simp; omega) _).alloc (by simp; omega) _
  have hlight := fun b hb => lightF3 (w := ((((w.alloc (.cells #[.bool x1, .slice A1 n1 c1, .bool x2, .slice A2 n2 c2] 42)).alloc (.cells #[.bool x3, .slice A3 n3 c3, .bool x4, .slice A4 n4 c4] 42))).alloc (.cells #[.bool x5, .slice A5 n5 c5, .bool x6, .slice A6 n6 c6] 42))) (s0 := x1) (t0 := x2) (s1 := x3) (t1 := x4) (s2 := x5) (t2 := x6) (A0 := A1) (B0 := A2) (A1 := A3) (B1 := A4) (A2 := A5) (B2 := A6) (n0 := n1) (c0 := c1) (m0 := n2) (d0 := c2) (n1 := n3) (c1 := c3) (m1 := n4) (d1 := c4) (n2 := n5) (c2 := c5) (m2 := n6) (d2 := c6) (g := w.heap.size + 1 + 1 + 1) (by simp) h1.2.2.2 h2.2.2.2 h3.2.2.2 h4.2.2.2 h5.2.2.2 h6.2.2.2 b hb
  by_cases hl : (n1 ≤ 12 ∧ n2 ≤ 12) ∧ (n3 ≤ 12 ∧ n4 ≤ 12) ∧ (n5 ≤ 12 ∧ n6 ≤ 12)
  · have hlight := hlight true (by simpa using hl)
    obtain ⟨⟨l1, l2⟩, ⟨l3, l4⟩, l5, l6⟩ := hl
    have H0 := ((((((((((St.start w).addI (h1.i x1 l1)).addI (h2.i x2 l2)).addI (h3.i x3 l3)).addI (h4.i x4 l4)).addI (h5.i x5 l5)).addI (h6.i x6 l6)).new 42 (Plains.four x1 A1 n1 c1 x2 A2 n2 c2)).new 42 (Plains.four x3 A3 n3 c3 x4 A4 n4 c4)).new 42 (Plains.four x5 A5 n5 c5 x6 A6 n6 c6)).alloc (.cells #[.bool x1, .slice A1 n1 c1, .bool x2, .slice A2 n2 c2, .bool x3, .slice A3 n3 c3, .bool x4, .slice A4 n4 c4, .bool x5, .slice A5 n5 c5, .bool x6, .slice A6 n6 c6] 42)
    simp only [World.size_alloc] at H0
    have y1 := h1.z x1 l1
    have y2 := h2.z x2 l2
    have y3 := h3.z x3 l3
    have y4 := h4.z x4 l4
    have y5 := h5.z x5 l5
    have y6 := h6.z x6 l6
    clear h1 h2 h3 h4 h5 h6 hb3 l1 l2 l3 l4 l5 l6
    generalize zOf x1 (val d1) = a at *
    generalize zOf x2 (val d2) = b at *
    generalize zOf x3 (val d3) = c at *
    generalize zOf x4 (val d4) = d at *
    generalize zOf x5 (val d5) = e at *
    generalize zOf x6 (val d6) = f at *
    have z_a : Sz a 900 := y1.mono (by decide)
    have zb_a : Sz a 2000 := y1.mono (by decide)
    have z_b : Sz b 900 := y2.mono (by decide)
    have zb_b : Sz b 2000 := y2.mono (by decide)
    have z_c : Sz c 900 := y3.mono (by decide)
    have zb_c : Sz c 2000 := y3.mono (by decide)
    have z_d : Sz d 900 := y4.mono (by decide)
    have zb_d : Sz d 2000 := y4.mono (by decide)
    have z_e : Sz e 900 := y5.mono (by decide)
    have zb_e : Sz e 2000 := y5.mono (by decide)
    have z_f : Sz f 900 := y6.mono (by decide)
    have zb_f : Sz f 2000 := y6.mono (by decide)
    obtain ⟨s, HSn⟩ : ∃ v, Hid (aN c d e f = v) := ⟨_, rfl⟩
    obtain ⟨t, HSd⟩ : ∃ v, Hid (aD c d e f = v) := ⟨_, rfl⟩
    obtain ⟨x, HXn⟩ : ∃ v, Hid (rn (a * s) (b * t) = v) := ⟨_, rfl⟩
    obtain ⟨y, HXd⟩ : ∃ v, Hid (rd (a * s) (b * t) = v) := ⟨_, rfl⟩
    obtain ⟨m, HMn⟩ : ∃ v, Hid (rn (a * c) (b * d) = v) := ⟨_, rfl⟩
    obtain ⟨n, HMd⟩ : ∃ v, Hid (rd (a * c) (b * d) = v) := ⟨_, rfl⟩
    obtain ⟨k, HKn⟩ : ∃ v, Hid (rn (a * e) (b * f) = v) := ⟨_, rfl⟩
    obtain ⟨l, HKd⟩ : ∃ v, Hid (rd (a * e) (b * f) = v) := ⟨_, rfl⟩
    obtain ⟨g, HGn⟩ : ∃ v, Hid (aN a b c d = v) := ⟨_, rfl⟩
    obtain ⟨h, HGd⟩ : ∃ v, Hid (aD a b c d = v) := ⟨_, rfl⟩
    obtain ⟨p, HPn⟩ : ∃ v, Hid (aN g h e f = v) := ⟨_, rfl⟩
    obtain ⟨q, HPd⟩ : ∃ v, Hid (aD g h e f = v) := ⟨_, rfl⟩
    obtain ⟨u, HUn⟩ : ∃ v, Hid (aN a b e f = v) := ⟨_, rfl⟩
    obtain ⟨v, HUd⟩ : ∃ v, Hid (aD a b e f = v) := ⟨_, rfl⟩
    obtain ⟨cm, HC⟩ : ∃ v, Hid (cmpI (un a b * ud c d) (un c d * ud a b) = v) := ⟨_, rfl⟩
    have HS1 : Hid (aN c d e f = s ∧ aD c d e f = t) := ⟨HSn.out, HSd.out⟩
    have HX : Hid (rn (a * s) (b * t) = x ∧ rd (a * s) (b * t) = y) := ⟨HXn.out, HXd.out⟩
    have HM1 : Hid (rn (a * c) (b * d) = m ∧ rd (a * c) (b * d) = n) := ⟨HMn.out, HMd.out⟩
    have HM2 : Hid (rn (a * e) (b * f) = k ∧ rd (a * e) (b * f) = l) := ⟨HKn.out, HKd.out⟩
    have HS2 : Hid (aN a b c d = g ∧ aD a b c d = h) := ⟨HGn.out, HGd.out⟩
    have HP : Hid (aN g h e f = p ∧ aD g h e f = q) := ⟨HPn.out, HPd.out⟩
    have HU : Hid (aN a b e f = u ∧ aD a b e f = v) := ⟨HUn.out, HUd.out⟩
    have HY : Hid (aN m n k l = x ∧ aD m n k l = y) := by
      unfold Hid; rw [← HMn.out, ← HMd.out, ← HKn.out, ← HKd.out, ← HXn.out, ← HXd.out, ← HSn.out, ← HSd.out]; exact fld_dist a b c d e f
    have HQ : Hid (aN a b s t = p ∧ aD a b s t = q) := by
      unfold Hid; rw [← HPn.out, ← HPd.out, ← HGn.out, ← HGd.out, ← HSn.out, ← HSd.out]; exact fld_assoc a b c d e f
    have HO : Hid (cmpI (un u v * ud s t) (un s t * ud u v) = cm) := by
      unfold Hid; rw [← HUn.out, ← HUd.out, ← HSn.out, ← HSd.out, ← HC.out]; exact fld_ord a b c d e f
    have zst := sz_aN y3 y4 y5 y6 (by decide) (by decide)
    have zgh := sz_aN y1 y2 y3 y4 (by decide) (by decide)
    have zuv := sz_aN y1 y2 y5 y6 (by decide) (by decide)
    have zmn := sz_rm y1 y2 y3 y4 (by decide)
    have zkl := sz_rm y1 y2 y5 y6 (by decide)
    rw [HSn.out, HSd.out] at zst
    rw [HGn.out, HGd.out] at zgh
    rw [HUn.out, HUd.out] at zuv
    rw [HMn.out, HMd.out] at zmn
    rw [HKn.out, HKd.out] at zkl
    have z_s : Sz s 900 := zst.1.mono (by decide)
    have zb_s : Sz s 2000 := zst.1.mono (by decide)
    have k_s := z_s.ok
    have z_t : Sz t 900 := zst.2.mono (by decide)
    have zb_t : Sz t 2000 := zst.2.mono (by decide)
    have k_t := z_t.ok
    have z_g : Sz g 900 := zgh.1.mono (by decide)
    have zb_g : Sz g 2000 := zgh.1.mono (by decide)
    have k_g := z_g.ok
    have z_h : Sz h 900 := zgh.2.mono (by decide)
    have zb_h : Sz h 2000 := zgh.2.mono (by decide)
    have k_h := z_h.ok
    have z_u : Sz u 900 := zuv.1.mono (by decide)
    have zb_u : Sz u 2000 := zuv.1.mono (by decide)
    have k_u := z_u.ok
    have z_v : Sz v 900 := zuv.2.mono (by decide)
    have zb_v : Sz v 2000 := zuv.2.mono (by decide)
    have k_v := z_v.ok
    have z_m : Sz m 900 := zmn.1.mono (by decide)
    have zb_m : Sz m 2000 := zmn.1.mono (by decide)
    have k_m := z_m.ok
    have z_n : Sz n 900 := zmn.2.mono (by decide)
    have zb_n : Sz n 2000 := zmn.2.mono (by decide)
    have k_n := z_n.ok
    have z_k : Sz k 900 := zkl.1.mono (by decide)
    have zb_k : Sz k 2000 := zkl.1.mono (by decide)
    have k_k := z_k.ok
    have z_l : Sz l 900 := zkl.2.mono (by decide)
    have zb_l : Sz l 2000 := zkl.2.mono (by decide)
    have k_l := z_l.ok
    have yall := And.intro y1 (And.intro y2 (And.intro y3 y4))
    clear zst zgh zuv zmn zkl y1 y2 y3 y4 y5 y6
    have HH := Lib.hid H0
    clear H0
    go_enter Try.func10, Try.ntmps10
    go_upto_region 3 with (first
      | (go_at_call 31; (with_reducible refine hlight.mono ?_); rintro e0 w0 ⟨rfl, g0⟩; have K0 := HH.out.call g0; clear HH)
      | fail)
    go_cut [7] (fun vx wx => ∃ (h_7 : Nat) (X_7 : Option Addr) (l_7 q_7 : Nat) (Y_7 : Option Addr) (m_7 r_7 : Nat), vx = .pointer (some ⟨h_7, 0, none⟩) ∧ St w wx [vf h_7 (decide (x < 0)) X_7 l_7 q_7 (decide (y < 0)) Y_7 m_7 r_7, vf (w.heap.size + 1 + 1) x5 A5 n5 c5 x6 A6 n6 c6, vf (w.heap.size + 1) x3 A3 n3 c3 x4 A4 n4 c4, vf w.heap.size x1 A1 n1 c1 x2 A2 n2 c2] [(decide (x < 0), X_7, l_7, q_7, x, true), (decide (y < 0), Y_7, m_7, r_7, y, true), (x6, A6, n6, c6, f, false), (x5, A5, n5, c5, e, false), (x4, A4, n4, c4, d, false), (x3, A3, n3, c3, c, false), (x2, A2, n2, c2, b, false), (x1, A1, n1, c1, a, false)])
    case first =>
      have KZ := K0
      clear K0
      obtain ⟨⟨o0, o1, o2, o3⟩, ⟨o4, o5, o6, o7⟩, ⟨o8, o9, oa, ob⟩, _⟩ := KZ.facts
      skip
      refine wp_region_held_drew (S := fun w' => w'.cell? ⟨w.heap.size + 1 + 1, 0, none⟩ = some (.bool x5) ∧ w'.cell? ⟨w.heap.size + 1 + 1, 1, none⟩ = some (.slice A5 n5 c5) ∧ w'.cell? ⟨w.heap.size + 1 + 1, 2, none⟩ = some (.bool x6) ∧ w'.cell? ⟨w.heap.size + 1 + 1, 3, none⟩ = some (.slice A6 n6 c6) ∧ w'.cell? ⟨w.heap.size + 1, 0, none⟩ = some (.bool x3) ∧ w'.cell? ⟨w.heap.size + 1, 1, none⟩ = some (.slice A3 n3 c3) ∧ w'.cell? ⟨w.heap.size + 1, 2, none⟩ = some (.bool x4) ∧ w'.cell? ⟨w.heap.size + 1, 3, none⟩ = some (.slice A4 n4 c4) ∧ w'.cell? ⟨w.heap.size, 0, none⟩ = some (.bool x1) ∧ w'.cell? ⟨w.heap.size, 1, none⟩ = some (.slice A1 n1 c1) ∧ w'.cell? ⟨w.heap.size, 2, none⟩ = some (.bool x2) ∧ w'.cell? ⟨w.heap.size, 3, none⟩ = some (.slice A2 n2 c2)) (by kernel_rfl) ?_ (fun hHeld0 => ?_)
      · ((try dsimp only); go_keep)
      refine wpAnyH_take (i := 0) (oi := ⟨some 20, _, _, _, _, _⟩) (v := ?_) rfl (by kernel_rfl) (by kernel_rfl) (by kernel_rfl) (fun _ _ _ h => h) (Or.inl ⟨by rfl, ?_⟩) (by assumption) ?_
      rotate_left
      · (intro w' hSw; (try dsimp only at hSw); go_simp; (try with_reducible rfl))
      (try simp only [Act.put, List.setIfInBounds_toArray, List.set_cons_zero, List.set_cons_succ])
      refine wpAnyH_take (i := 1) (oi := ⟨some 21, _, _, _, _, _⟩) (v := ?_) rfl (by kernel_rfl) (by kernel_rfl) (by kernel_rfl) (fun _ _ _ h => h) (Or.inl ⟨by rfl, ?_⟩) (by assumption) ?_
      rotate_left
      · (intro w' hSw; (try dsimp only at hSw); go_simp; (try with_reducible rfl))
      (try simp only [Act.put, List.setIfInBounds_toArray, List.set_cons_zero, List.set_cons_succ])
      refine wpAnyH_take (i := 2) (oi := ⟨some 22, _, _, _, _, _⟩) (v := ?_) rfl (by kernel_rfl) (by kernel_rfl) (by kernel_rfl) (fun _ _ _ h => h) (Or.inl ⟨by rfl, ?_⟩) (by assumption) ?_
      rotate_left
      · (intro w' hSw; (try dsimp only at hSw); go_simp; (try with_reducible rfl))
      (try simp only [Act.put, List.setIfInBounds_toArray, List.set_cons_zero, List.set_cons_succ])
      refine wpAnyH_ready (rs := [3, 5]) (by kernel_rfl) (by simp) ?_
      refine AllReadyH.cons (o := ⟨some 23, _, _, _, _, _⟩) rfl (fun K hK => ?_) ?_
      · skip
        go_simp
        have g3_0 := KZ.drew.ints.2.2.2.1.i
        have g3_1 := KZ.drew.ints.2.2.1.i
        have g3_2 := KZ.drew.ints.2.1.i
        have g3_3 := KZ.drew.ints.1.i
        (go_at_call 44; (with_reducible refine (fadd_at g3_0 g3_1 g3_2 g3_3 z_c z_d z_e z_f).mono ?_); rw [HS1.out.1, HS1.out.2]; rintro ee w3 ⟨X3, l3, q3, Y3, m3, r3, rfl, d3, h3, v3⟩)
        (try go_wp2_with fail)
        have K3 := ((KZ.drew.call v3).add h3).add d3
        obtain ⟨⟨p0c0n1, p0c1n1, p0c2n1, p0c3n1⟩, ⟨p1c0n1, p1c1n1, p1c2n1, p1c3n1⟩, ⟨p2c0n1, p2c1n1, p2c2n1, p2c3n1⟩, _⟩ := K3.facts
        refine hK.out _ _ ?_ (fun hHeld1 => ?_)
        · ((try dsimp only); first | go_keep | (trace_state; fail))
        clear hK K hHeld0
        (try simp only [Act.put, List.setIfInBounds_toArray, List.set_cons_zero, List.set_cons_succ])
        refine wpAnyH_ready (rs := [4, 5]) (by kernel_rfl) (by simp) ?_
        refine AllReadyH.cons (o := ⟨some 24, _, _, _, _, _⟩) rfl (fun K hK => ?_) ?_
        · skip
          go_simp
          have g4_0 := K3.ints.2.2.2.2.2.2.2.1.i
          have g4_1 := K3.ints.2.2.2.2.2.2.1.i
          have g4_2 := K3.ints.1.ci k_s
          have g4_3 := K3.ints.2.1.ci k_t
          (go_at_call 48; (with_reducible refine (fmul_at g4_0 g4_1 g4_2 g4_3 z_a z_b z_s z_t).mono ?_); rw [HX.out.1, HX.out.2]; rintro ee w4 ⟨X4, l4, q4, Y4, m4, r4, rfl, d4, h4, v4⟩)
          (try go_wp2_with fail)
          have K4 := ((K3.call v4).add h4).add d4
          clear p0c0n1 p0c1n1 p0c2n1 p0c3n1 p1c0n1 p1c1n1 p1c2n1 p1c3n1 p2c0n1 p2c1n1 p2c2n1 p2c3n1
          obtain ⟨⟨p0c0n2, p0c1n2, p0c2n2, p0c3n2⟩, ⟨p1c0n2, p1c1n2, p1c2n2, p1c3n2⟩, ⟨p2c0n2, p2c1n2, p2c2n2, p2c3n2⟩, _⟩ := K4.facts
          refine hK.out _ _ ?_ (fun hHeld2 => ?_)
          · ((try dsimp only); first | go_keep | (trace_state; fail))
          clear hK K hHeld1
          (try simp only [Act.put, List.setIfInBounds_toArray, List.set_cons_zero, List.set_cons_succ])
          refine wpAnyH_ready (rs := [5]) (by kernel_rfl) (by simp) ?_
          refine AllReadyH.cons (o := ⟨some 7, _, _, _, _, _⟩) rfl (fun K hK => ?_) AllReadyH.nil
          go_simp
          have KA := K4.new 42 (Plains.four false none 0 0 false none 0 0)
          (try simp only [World.size_alloc] at KA)
          obtain ⟨⟨b0n3, b1n3, b2n3, b3n3⟩, ⟨p0c0n3, p0c1n3, p0c2n3, p0c3n3⟩, ⟨p1c0n3, p1c1n3, p1c2n3, p1c3n3⟩, ⟨p2c0n3, p2c1n3, p2c2n3, p2c3n3⟩, _⟩ := KA.facts
          obtain ⟨f0n3, f1n3, f2n3, f3n3⟩ := KA.free (i := 0) rfl
          obtain ⟨e0xn3, e0yn3⟩ := KA.ne 0 1 rfl rfl (by decide)
          obtain ⟨e1xn3, e1yn3⟩ := KA.ne 0 2 rfl rfl (by decide)
          obtain ⟨e2xn3, e2yn3⟩ := KA.ne 0 3 rfl rfl (by decide)
          refine hK.out _ _ ?_ (fun hHeld3 => ?_)
          · ((try dsimp only); first | go_keep | (trace_state; fail))
          clear hK K hHeld2
          (try simp only [Act.put, List.setIfInBounds_toArray, List.set_cons_zero, List.set_cons_succ])
          refine wpAnyH_ready (rs := [6]) (by kernel_rfl) (by simp) ?_
          refine AllReadyH.cons (o := ⟨none, _, _, _, _, _⟩) rfl (fun K hK => ?_) AllReadyH.nil
          go_simp
          refine hK.out _ _ ?_ (fun hHeld4 => ?_)
          · ((try dsimp only); first | go_keep | (trace_state; fail))
          clear hK K hHeld3
          (try simp only [Act.put, List.setIfInBounds_toArray, List.set_cons_zero, List.set_cons_succ])
          refine wpAnyH_done (by kernel_rfl) ?_ _
          go_wp2_with fail
          go_meet
          have KF := K4.new 42 (Plains.four (decide (x < 0)) X4 l4 q4 (decide (y < 0)) Y4 m4 r4)
          (try simp only [List.set, World.size_alloc, World.size_setCell] at KF)
          exact ⟨_, X4, l4, q4, Y4, m4, r4, rfl, KF.ints_ ⟨KF.ints.1, KF.ints.2.1, KF.ints.2.2.2.2.1, KF.ints.2.2.2.2.2.1, KF.ints.2.2.2.2.2.2.1, KF.ints.2.2.2.2.2.2.2.1, KF.ints.2.2.2.2.2.2.2.2.1, KF.ints.2.2.2.2.2.2.2.2.2.1, trivial⟩⟩
        refine AllReadyH.cons (o := ⟨some 7, _, _, _, _, _⟩) rfl (fun K hK => ?_) AllReadyH.nil
        go_simp
        have KA := K3.new 42 (Plains.four false none 0 0 false none 0 0)
        (try simp only [World.size_alloc] at KA)
        obtain ⟨⟨b0n2, b1n2, b2n2, b3n2⟩, ⟨p0c0n2, p0c1n2, p0c2n2, p0c3n2⟩, ⟨p1c0n2, p1c1n2, p1c2n2, p1c3n2⟩, ⟨p2c0n2, p2c1n2, p2c2n2, p2c3n2⟩, _⟩ := KA.facts
        obtain ⟨f0n2, f1n2, f2n2, f3n2⟩ := KA.free (i := 0) rfl
        obtain ⟨e0xn2, e0yn2⟩ := KA.ne 0 1 rfl rfl (by decide)
        obtain ⟨e1xn2, e1yn2⟩ := KA.ne 0 2 rfl rfl (by decide)
        obtain ⟨e2xn2, e2yn2⟩ := KA.ne 0 3 rfl rfl (by decide)
        refine hK.out _ _ ?_ (fun hHeld2 => ?_)
        · ((try dsimp only); first | go_keep | (trace_state; fail))
        clear hK K hHeld1
        (try simp only [Act.put, List.setIfInBounds_toArray, List.set_cons_zero, List.set_cons_succ])
        refine wpAnyH_ready (rs := [4]) (by kernel_rfl) (by simp) ?_
        refine AllReadyH.cons (o := ⟨some 24, _, _, _, _, _⟩) rfl (fun K hK => ?_) AllReadyH.nil
        go_simp
        have g4_0 := KA.ints.2.2.2.2.2.2.2.1.i
        have g4_1 := KA.ints.2.2.2.2.2.2.1.i
        have g4_2 := KA.ints.1.ci k_s
        have g4_3 := KA.ints.2.1.ci k_t
        (go_at_call 48; (with_reducible refine (fmul_at g4_0 g4_1 g4_2 g4_3 z_a z_b z_s z_t).mono ?_); rw [HX.out.1, HX.out.2]; rintro ee w4 ⟨X4, l4, q4, Y4, m4, r4, rfl, d4, h4, v4⟩)
        (try go_wp2_with fail)
        have K4 := ((KA.call v4).add h4).add d4
        clear p0c0n1 p0c1n1 p0c2n1 p0c3n1 p1c0n1 p1c1n1 p1c2n1 p1c3n1 p2c0n1 p2c1n1 p2c2n1 p2c3n1 b0n2 b1n2 b2n2 b3n2 p0c0n2 p0c1n2 p0c2n2 p0c3n2 p1c0n2 p1c1n2 p1c2n2 p1c3n2 p2c0n2 p2c1n2 p2c2n2 p2c3n2 f0n2 f1n2 f2n2 f3n2 e0xn2 e0yn2 e1xn2 e1yn2 e2xn2 e2yn2
        obtain ⟨⟨b0n3, b1n3, b2n3, b3n3⟩, ⟨p0c0n3, p0c1n3, p0c2n3, p0c3n3⟩, ⟨p1c0n3, p1c1n3, p1c2n3, p1c3n3⟩, ⟨p2c0n3, p2c1n3, p2c2n3, p2c3n3⟩, _⟩ := K4.facts
        obtain ⟨f0n3, f1n3, f2n3, f3n3⟩ := K4.free (i := 0) rfl
        obtain ⟨e0xn3, e0yn3⟩ := K4.ne 0 1 rfl rfl (by decide)
        obtain ⟨e1xn3, e1yn3⟩ := K4.ne 0 2 rfl rfl (by decide)
        obtain ⟨e2xn3, e2yn3⟩ := K4.ne 0 3 rfl rfl (by decide)
        refine hK.out _ _ ?_ (fun hHeld3 => ?_)
        · ((try dsimp only); first | go_keep | (trace_state; fail))
        clear hK K hHeld2
        (try simp only [Act.put, List.setIfInBounds_toArray, List.set_cons_zero, List.set_cons_succ])
        refine wpAnyH_ready (rs := [6]) (by kernel_rfl) (by simp) ?_
        refine AllReadyH.cons (o := ⟨none, _, _, _, _, _⟩) rfl (fun K hK => ?_) AllReadyH.nil
        go_simp
        refine hK.out _ _ ?_ (fun hHeld4 => ?_)
        · ((try dsimp only); first | go_keep | (trace_state; fail))
        clear hK K hHeld3
        (try simp only [Act.put, List.setIfInBounds_toArray, List.set_cons_zero, List.set_cons_succ])
        refine wpAnyH_done (by kernel_rfl) ?_ _
        go_wp2_with fail
        go_meet
        have KF := K4.put4 0 rfl (decide (x < 0)) X4 l4 q4 (decide (y < 0)) Y4 m4 r4
        (try simp only [List.set, World.size_alloc, World.size_setCell] at KF)
        exact ⟨_, X4, l4, q4, Y4, m4, r4, rfl, KF.ints_ ⟨KF.ints.1, KF.ints.2.1, KF.ints.2.2.2.2.1, KF.ints.2.2.2.2.2.1, KF.ints.2.2.2.2.2.2.1, KF.ints.2.2.2.2.2.2.2.1, KF.ints.2.2.2.2.2.2.2.2.1, KF.ints.2.2.2.2.2.2.2.2.2.1, trivial⟩⟩
      refine AllReadyH.cons (o := ⟨some 7, _, _, _, _, _⟩) rfl (fun K hK => ?_) AllReadyH.nil
      go_simp
      have KA := KZ.new 42 (Plains.four false none 0 0 false none 0 0)
      (try simp only [World.size_alloc] at KA)
      obtain ⟨⟨b0n1, b1n1, b2n1, b3n1⟩, ⟨p0c0n1, p0c1n1, p0c2n1, p0c3n1⟩, ⟨p1c0n1, p1c1n1, p1c2n1, p1c3n1⟩, ⟨p2c0n1, p2c1n1, p2c2n1, p2c3n1⟩, _⟩ := KA.facts
      obtain ⟨f0n1, f1n1, f2n1, f3n1⟩ := KA.free (i := 0) rfl
      obtain ⟨e0xn1, e0yn1⟩ := KA.ne 0 1 rfl rfl (by decide)
      obtain ⟨e1xn1, e1yn1⟩ := KA.ne 0 2 rfl rfl (by decide)
      obtain ⟨e2xn1, e2yn1⟩ := KA.ne 0 3 rfl rfl (by decide)
      refine hK.out _ _ ?_ (fun hHeld1 => ?_)
      · ((try dsimp only); first | go_keep | (trace_state; fail))
      clear hK K hHeld0
      (try simp only [Act.put, List.setIfInBounds_toArray, List.set_cons_zero, List.set_cons_succ])
      refine wpAnyH_ready (rs := [3]) (by kernel_rfl) (by simp) ?_
      refine AllReadyH.cons (o := ⟨some 23, _, _, _, _, _⟩) rfl (fun K hK => ?_) AllReadyH.nil
      go_simp
      have g3_0 := KA.drew.ints.2.2.2.1.i
      have g3_1 := KA.drew.ints.2.2.1.i
      have g3_2 := KA.drew.ints.2.1.i
      have g3_3 := KA.drew.ints.1.i
      (go_at_call 44; (with_reducible refine (fadd_at g3_0 g3_1 g3_2 g3_3 z_c z_d z_e z_f).mono ?_); rw [HS1.out.1, HS1.out.2]; rintro ee w3 ⟨X3, l3, q3, Y3, m3, r3, rfl, d3, h3, v3⟩)
      (try go_wp2_with fail)
      have K3 := ((KA.drew.call v3).add h3).add d3
      clear b0n1 b1n1 b2n1 b3n1 p0c0n1 p0c1n1 p0c2n1 p0c3n1 p1c0n1 p1c1n1 p1c2n1 p1c3n1 p2c0n1 p2c1n1 p2c2n1 p2c3n1 f0n1 f1n1 f2n1 f3n1 e0xn1 e0yn1 e1xn1 e1yn1 e2xn1 e2yn1
      obtain ⟨⟨b0n2, b1n2, b2n2, b3n2⟩, ⟨p0c0n2, p0c1n2, p0c2n2, p0c3n2⟩, ⟨p1c0n2, p1c1n2, p1c2n2, p1c3n2⟩, ⟨p2c0n2, p2c1n2, p2c2n2, p2c3n2⟩, _⟩ := K3.facts
      obtain ⟨f0n2, f1n2, f2n2, f3n2⟩ := K3.free (i := 0) rfl
      obtain ⟨e0xn2, e0yn2⟩ := K3.ne 0 1 rfl rfl (by decide)
      obtain ⟨e1xn2, e1yn2⟩ := K3.ne 0 2 rfl rfl (by decide)
      obtain ⟨e2xn2, e2yn2⟩ := K3.ne 0 3 rfl rfl (by decide)
      refine hK.out _ _ ?_ (fun hHeld2 => ?_)
      · ((try dsimp only); first | go_keep | (trace_state; fail))
      clear hK K hHeld1
      (try simp only [Act.put, List.setIfInBounds_toArray, List.set_cons_zero, List.set_cons_succ])
      refine wpAnyH_ready (rs := [4]) (by kernel_rfl) (by simp) ?_
      refine AllReadyH.cons (o := ⟨some 24, _, _, _, _, _⟩) rfl (fun K hK => ?_) AllReadyH.nil
      go_simp
      have g4_0 := K3.ints.2.2.2.2.2.2.2.1.i
      have g4_1 := K3.ints.2.2.2.2.2.2.1.i
      have g4_2 := K3.ints.1.ci k_s
      have g4_3 := K3.ints.2.1.ci k_t
      (go_at_call 48; (with_reducible refine (fmul_at g4_0 g4_1 g4_2 g4_3 z_a z_b z_s z_t).mono ?_); rw [HX.out.1, HX.out.2]; rintro ee w4 ⟨X4, l4, q4, Y4, m4, r4, rfl, d4, h4, v4⟩)
      (try go_wp2_with fail)
      have K4 := ((K3.call v4).add h4).add d4
      clear b0n2 b1n2 b2n2 b3n2 p0c0n2 p0c1n2 p0c2n2 p0c3n2 p1c0n2 p1c1n2 p1c2n2 p1c3n2 p2c0n2 p2c1n2 p2c2n2 p2c3n2 f0n2 f1n2 f2n2 f3n2 e0xn2 e0yn2 e1xn2 e1yn2 e2xn2 e2yn2
      obtain ⟨⟨b0n3, b1n3, b2n3, b3n3⟩, ⟨p0c0n3, p0c1n3, p0c2n3, p0c3n3⟩, ⟨p1c0n3, p1c1n3, p1c2n3, p1c3n3⟩, ⟨p2c0n3, p2c1n3, p2c2n3, p2c3n3⟩, _⟩ := K4.facts
      obtain ⟨f0n3, f1n3, f2n3, f3n3⟩ := K4.free (i := 0) rfl
      obtain ⟨e0xn3, e0yn3⟩ := K4.ne 0 1 rfl rfl (by decide)
      obtain ⟨e1xn3, e1yn3⟩ := K4.ne 0 2 rfl rfl (by decide)
      obtain ⟨e2xn3, e2yn3⟩ := K4.ne 0 3 rfl rfl (by decide)
      refine hK.out _ _ ?_ (fun hHeld3 => ?_)
      · ((try dsimp only); first | go_keep | (trace_state; fail))
      clear hK K hHeld2
      (try simp only [Act.put, List.setIfInBounds_toArray, List.set_cons_zero, List.set_cons_succ])
      refine wpAnyH_ready (rs := [6]) (by kernel_rfl) (by simp) ?_
      refine AllReadyH.cons (o := ⟨none, _, _, _, _, _⟩) rfl (fun K hK => ?_) AllReadyH.nil
      go_simp
      refine hK.out _ _ ?_ (fun hHeld4 => ?_)
      · ((try dsimp only); first | go_keep | (trace_state; fail))
      clear hK K hHeld3
      (try simp only [Act.put, List.setIfInBounds_toArray, List.set_cons_zero, List.set_cons_succ])
      refine wpAnyH_done (by kernel_rfl) ?_ _
      go_wp2_with fail
      go_meet
      have KF := K4.put4 0 rfl (decide (x < 0)) X4 l4 q4 (decide (y < 0)) Y4 m4 r4
      (try simp only [List.set, World.size_alloc, World.size_setCell] at KF)
      exact ⟨_, X4, l4, q4, Y4, m4, r4, rfl, KF.ints_ ⟨KF.ints.1, KF.ints.2.1, KF.ints.2.2.2.2.1, KF.ints.2.2.2.2.2.1, KF.ints.2.2.2.2.2.2.1, KF.ints.2.2.2.2.2.2.2.1, KF.ints.2.2.2.2.2.2.2.2.1, KF.ints.2.2.2.2.2.2.2.2.2.1, trivial⟩⟩
    case rest =>
    clear K0
    obtain ⟨h_7, X_7, l_7, q_7, Y_7, m_7, r_7, rfl, KN7⟩ := hcut
    go_upto_region 4 with fail
    go_cut [8] (fun vx wx => ∃ (h_8 : Nat) (X_8 : Option Addr) (l_8 q_8 : Nat) (Y_8 : Option Addr) (m_8 r_8 : Nat), vx = .pointer (some ⟨h_8, 0, none⟩) ∧ St w wx [vf h_8 (decide (x < 0)) X_8 l_8 q_8 (decide (y < 0)) Y_8 m_8 r_8, vf h_7 (decide (x < 0)) X_7 l_7 q_7 (decide (y < 0)) Y_7 m_7 r_7, vf (w.heap.size + 1 + 1) x5 A5 n5 c5 x6 A6 n6 c6, vf (w.heap.size + 1) x3 A3 n3 c3 x4 A4 n4 c4, vf w.heap.size x1 A1 n1 c1 x2 A2 n2 c2] [(decide (x < 0), X_8, l_8, q_8, x, true), (decide (y < 0), Y_8, m_8, r_8, y, true), (decide (x < 0), X_7, l_7, q_7, x, true), (decide (y < 0), Y_7, m_7, r_7, y, true), (x6, A6, n6, c6, f, false), (x5, A5, n5, c5, e, false), (x4, A4, n4, c4, d, false), (x3, A3, n3, c3, c, false), (x2, A2, n2, c2, b, false), (x1, A1, n1, c1, a, false)])
    case first =>
      have KZ := KN7
      clear KN7
      obtain ⟨_, ⟨o0, o1, o2, o3⟩, ⟨o4, o5, o6, o7⟩, ⟨o8, o9, oa, ob⟩, _⟩ := KZ.facts
      skip
      refine wp_region_held_drew (S := fun w' => w'.cell? ⟨w.heap.size + 1 + 1, 0, none⟩ = some (.bool x5) ∧ w'.cell? ⟨w.heap.size + 1 + 1, 1, none⟩ = some (.slice A5 n5 c5) ∧ w'.cell? ⟨w.heap.size + 1 + 1, 2, none⟩ = some (.bool x6) ∧ w'.cell? ⟨w.heap.size + 1 + 1, 3, none⟩ = some (.slice A6 n6 c6) ∧ w'.cell? ⟨w.heap.size + 1, 0, none⟩ = some (.bool x3) ∧ w'.cell? ⟨w.heap.size + 1, 1, none⟩ = some (.slice A3 n3 c3) ∧ w'.cell? ⟨w.heap.size + 1, 2, none⟩ = some (.bool x4) ∧ w'.cell? ⟨w.heap.size + 1, 3, none⟩ = some (.slice A4 n4 c4) ∧ w'.cell? ⟨w.heap.size, 0, none⟩ = some (.bool x1) ∧ w'.cell? ⟨w.heap.size, 1, none⟩ = some (.slice A1 n1 c1) ∧ w'.cell? ⟨w.heap.size, 2, none⟩ = some (.bool x2) ∧ w'.cell? ⟨w.heap.size, 3, none⟩ = some (.slice A2 n2 c2)) (by kernel_rfl) ?_ (fun hHeld0 => ?_)
      · ((try dsimp only); go_keep)
      refine wpAnyH_take (i := 0) (oi := ⟨some 25, _, _, _, _, _⟩) (v := ?_) rfl (by kernel_rfl) (by kernel_rfl) (by kernel_rfl) (fun _ _ _ h => h) (Or.inl ⟨by rfl, ?_⟩) (by assumption) ?_
      rotate_left
      · (intro w' hSw; (try dsimp only at hSw); go_simp; (try with_reducible rfl))
      (try simp only [Act.put, List.setIfInBounds_toArray, List.set_cons_zero, List.set_cons_succ])
      refine wpAnyH_take (i := 1) (oi := ⟨some 26, _, _, _, _, _⟩) (v := ?_) rfl (by kernel_rfl) (by kernel_rfl) (by kernel_rfl) (fun _ _ _ h => h) (Or.inl ⟨by rfl, ?_⟩) (by assumption) ?_
      rotate_left
      · (intro w' hSw; (try dsimp only at hSw); go_simp; (try with_reducible rfl))
      (try simp only [Act.put, List.setIfInBounds_toArray, List.set_cons_zero, List.set_cons_succ])
      refine wpAnyH_take (i := 3) (oi := ⟨some 28, _, _, _, _, _⟩) (v := ?_) rfl (by kernel_rfl) (by kernel_rfl) (by kernel_rfl) (fun _ _ _ h => h) (Or.inl ⟨by rfl, ?_⟩) (by assumption) ?_
      rotate_left
      · (intro w' hSw; (try dsimp only at hSw); go_simp; (try with_reducible rfl))
      (try simp only [Act.put, List.setIfInBounds_toArray, List.set_cons_zero, List.set_cons_succ])
      refine wpAnyH_take (i := 4) (oi := ⟨some 29, _, _, _, _, _⟩) (v := ?_) rfl (by kernel_rfl) (by kernel_rfl) (by kernel_rfl) (fun _ _ _ h => h) (Or.inl ⟨by rfl, ?_⟩) (by assumption) ?_
      rotate_left
      · (intro w' hSw; (try dsimp only at hSw); go_simp; (try with_reducible rfl))
      (try simp only [Act.put, List.setIfInBounds_toArray, List.set_cons_zero, List.set_cons_succ])
      refine wpAnyH_ready (rs := [2, 7]) (by kernel_rfl) (by simp) ?_
      refine AllReadyH.cons (o := ⟨some 27, _, _, _, _, _⟩) rfl (fun K hK => ?_) ?_
      · skip
        go_simp
        have g2_0 := KZ.drew.ints.2.2.2.2.2.2.2.1.i
        have g2_1 := KZ.drew.ints.2.2.2.2.2.2.1.i
        have g2_2 := KZ.drew.ints.2.2.2.2.2.1.i
        have g2_3 := KZ.drew.ints.2.2.2.2.1.i
        (go_at_call_of 48 (Value.agg #[Value.bool x3, Value.slice A3 n3 c3, Value.bool x4, Value.slice A4 n4 c4]); (with_reducible refine (fmul_at g2_0 g2_1 g2_2 g2_3 z_a z_b z_c z_d).mono ?_); rw [HM1.out.1, HM1.out.2]; rintro ee w2 ⟨X2, l2, q2, Y2, m2, r2, rfl, d2, h2, v2⟩)
        (try go_wp2_with fail)
        have K2 := ((KZ.drew.call v2).add h2).add d2
        obtain ⟨_, ⟨p0c0n1, p0c1n1, p0c2n1, p0c3n1⟩, ⟨p1c0n1, p1c1n1, p1c2n1, p1c3n1⟩, ⟨p2c0n1, p2c1n1, p2c2n1, p2c3n1⟩, _⟩ := K2.facts
        refine hK.out _ _ ?_ (fun hHeld1 => ?_)
        · ((try dsimp only); first | go_keep | (trace_state; fail))
        clear hK K hHeld0
        (try simp only [Act.put, List.setIfInBounds_toArray, List.set_cons_zero, List.set_cons_succ])
        refine wpAnyH_ready (rs := [5, 7]) (by kernel_rfl) (by simp) ?_
        refine AllReadyH.cons (o := ⟨some 30, _, _, _, _, _⟩) rfl (fun K hK => ?_) ?_
        · skip
          go_simp
          have g5_0 := K2.ints.2.2.2.2.2.2.2.2.2.1.i
          have g5_1 := K2.ints.2.2.2.2.2.2.2.2.1.i
          have g5_2 := K2.ints.2.2.2.2.2.1.i
          have g5_3 := K2.ints.2.2.2.2.1.i
          (go_at_call_of 48 (Value.agg #[Value.bool x5, Value.slice A5 n5 c5, Value.bool x6, Value.slice A6 n6 c6]); (with_reducible refine (fmul_at g5_0 g5_1 g5_2 g5_3 z_a z_b z_e z_f).mono ?_); rw [HM2.out.1, HM2.out.2]; rintro ee w5 ⟨X5, l5, q5, Y5, m5, r5, rfl, d5, h5, v5⟩)
          (try go_wp2_with fail)
          have K5 := ((K2.call v5).add h5).add d5
          clear p0c0n1 p0c1n1 p0c2n1 p0c3n1 p1c0n1 p1c1n1 p1c2n1 p1c3n1 p2c0n1 p2c1n1 p2c2n1 p2c3n1
          obtain ⟨_, ⟨p0c0n2, p0c1n2, p0c2n2, p0c3n2⟩, ⟨p1c0n2, p1c1n2, p1c2n2, p1c3n2⟩, ⟨p2c0n2, p2c1n2, p2c2n2, p2c3n2⟩, _⟩ := K5.facts
          refine hK.out _ _ ?_ (fun hHeld2 => ?_)
          · ((try dsimp only); first | go_keep | (trace_state; fail))
          clear hK K hHeld1
          (try simp only [Act.put, List.setIfInBounds_toArray, List.set_cons_zero, List.set_cons_succ])
          refine wpAnyH_ready (rs := [6, 7]) (by kernel_rfl) (by simp) ?_
          refine AllReadyH.cons (o := ⟨some 31, _, _, _, _, _⟩) rfl (fun K hK => ?_) ?_
          · skip
            go_simp
            have g6_0 := K5.ints.2.2.1.ci k_m
            have g6_1 := K5.ints.2.2.2.1.ci k_n
            have g6_2 := K5.ints.1.ci k_k
            have g6_3 := K5.ints.2.1.ci k_l
            (go_at_call 44; (with_reducible refine (fadd_at g6_0 g6_1 g6_2 g6_3 z_m z_n z_k z_l).mono ?_); rw [HY.out.1, HY.out.2]; rintro ee w6 ⟨X6, l6, q6, Y6, m6, r6, rfl, d6, h6, v6⟩)
            (try go_wp2_with fail)
            have K6 := ((K5.call v6).add h6).add d6
            clear p0c0n2 p0c1n2 p0c2n2 p0c3n2 p1c0n2 p1c1n2 p1c2n2 p1c3n2 p2c0n2 p2c1n2 p2c2n2 p2c3n2
            obtain ⟨_, ⟨p0c0n3, p0c1n3, p0c2n3, p0c3n3⟩, ⟨p1c0n3, p1c1n3, p1c2n3, p1c3n3⟩, ⟨p2c0n3, p2c1n3, p2c2n3, p2c3n3⟩, _⟩ := K6.facts
            refine hK.out _ _ ?_ (fun hHeld3 => ?_)
            · ((try dsimp only); first | go_keep | (trace_state; fail))
            clear hK K hHeld2
            (try simp only [Act.put, List.setIfInBounds_toArray, List.set_cons_zero, List.set_cons_succ])
            refine wpAnyH_ready (rs := [7]) (by kernel_rfl) (by simp) ?_
            refine AllReadyH.cons (o := ⟨some 8, _, _, _, _, _⟩) rfl (fun K hK => ?_) AllReadyH.nil
            go_simp
            have KA := K6.new 42 (Plains.four false none 0 0 false none 0 0)
            (try simp only [World.size_alloc] at KA)
            obtain ⟨⟨b0n4, b1n4, b2n4, b3n4⟩, _, ⟨p0c0n4, p0c1n4, p0c2n4, p0c3n4⟩, ⟨p1c0n4, p1c1n4, p1c2n4, p1c3n4⟩, ⟨p2c0n4, p2c1n4, p2c2n4, p2c3n4⟩, _⟩ := KA.facts
            obtain ⟨f0n4, f1n4, f2n4, f3n4⟩ := KA.free (i := 0) rfl
            obtain ⟨e0xn4, e0yn4⟩ := KA.ne 0 2 rfl rfl (by decide)
            obtain ⟨e1xn4, e1yn4⟩ := KA.ne 0 3 rfl rfl (by decide)
            obtain ⟨e2xn4, e2yn4⟩ := KA.ne 0 4 rfl rfl (by decide)
            refine hK.out _ _ ?_ (fun hHeld4 => ?_)
            · ((try dsimp only); first | go_keep | (trace_state; fail))
            clear hK K hHeld3
            (try simp only [Act.put, List.setIfInBounds_toArray, List.set_cons_zero, List.set_cons_succ])
            refine wpAnyH_ready (rs := [8]) (by kernel_rfl) (by simp) ?_
            refine AllReadyH.cons (o := ⟨none, _, _, _, _, _⟩) rfl (fun K hK => ?_) AllReadyH.nil
            go_simp
            refine hK.out _ _ ?_ (fun hHeld5 => ?_)
            · ((try dsimp only); first | go_keep | (trace_state; fail))
            clear hK K hHeld4
            (try simp only [Act.put, List.setIfInBounds_toArray, List.set_cons_zero, List.set_cons_succ])
            refine wpAnyH_done (by kernel_rfl) ?_ _
            go_wp2_with fail
            go_meet
            have KF := K6.new 42 (Plains.four (decide (x < 0)) X6 l6 q6 (decide (y < 0)) Y6 m6 r6)
            (try simp only [List.set, World.size_alloc, World.size_setCell] at KF)
            exact ⟨_, X6, l6, q6, Y6, m6, r6, rfl, KF.ints_ ⟨KF.ints.1, KF.ints.2.1, KF.ints.2.2.2.2.2.2.1, KF.ints.2.2.2.2.2.2.2.1, KF.ints.2.2.2.2.2.2.2.2.1, KF.ints.2.2.2.2.2.2.2.2.2.1, KF.ints.2.2.2.2.2.2.2.2.2.2.1, KF.ints.2.2.2.2.2.2.2.2.2.2.2.1, KF.ints.2.2.2.2.2.2.2.2.2.2.2.2.1, KF.ints.2.2.2.2.2.2.2.2.2.2.2.2.2.1, trivial⟩⟩
          refine AllReadyH.cons (o := ⟨some 8, _, _, _, _, _⟩) rfl (fun K hK => ?_) AllReadyH.nil
          go_simp
          have KA := K5.new 42 (Plains.four false none 0 0 false none 0 0)
          (try simp only [World.size_alloc] at KA)
          obtain ⟨⟨b0n3, b1n3, b2n3, b3n3⟩, _, ⟨p0c0n3, p0c1n3, p0c2n3, p0c3n3⟩, ⟨p1c0n3, p1c1n3, p1c2n3, p1c3n3⟩, ⟨p2c0n3, p2c1n3, p2c2n3, p2c3n3⟩, _⟩ := KA.facts
          obtain ⟨f0n3, f1n3, f2n3, f3n3⟩ := KA.free (i := 0) rfl
          obtain ⟨e0xn3, e0yn3⟩ := KA.ne 0 2 rfl rfl (by decide)
          obtain ⟨e1xn3, e1yn3⟩ := KA.ne 0 3 rfl rfl (by decide)
          obtain ⟨e2xn3, e2yn3⟩ := KA.ne 0 4 rfl rfl (by decide)
          refine hK.out _ _ ?_ (fun hHeld3 => ?_)
          · ((try dsimp only); first | go_keep | (trace_state; fail))
          clear hK K hHeld2
          (try simp only [Act.put, List.setIfInBounds_toArray, List.set_cons_zero, List.set_cons_succ])
          refine wpAnyH_ready (rs := [6]) (by kernel_rfl) (by simp) ?_
          refine AllReadyH.cons (o := ⟨some 31, _, _, _, _, _⟩) rfl (fun K hK => ?_) AllReadyH.nil
          go_simp
          have g6_0 := KA.ints.2.2.1.ci k_m
          have g6_1 := KA.ints.2.2.2.1.ci k_n
          have g6_2 := KA.ints.1.ci k_k
          have g6_3 := KA.ints.2.1.ci k_l
          (go_at_call 44; (with_reducible refine (fadd_at g6_0 g6_1 g6_2 g6_3 z_m z_n z_k z_l).mono ?_); rw [HY.out.1, HY.out.2]; rintro ee w6 ⟨X6, l6, q6, Y6, m6, r6, rfl, d6, h6, v6⟩)
          (try go_wp2_with fail)
          have K6 := ((KA.call v6).add h6).add d6
          clear p0c0n2 p0c1n2 p0c2n2 p0c3n2 p1c0n2 p1c1n2 p1c2n2 p1c3n2 p2c0n2 p2c1n2 p2c2n2 p2c3n2 b0n3 b1n3 b2n3 b3n3 p0c0n3 p0c1n3 p0c2n3 p0c3n3 p1c0n3 p1c1n3 p1c2n3 p1c3n3 p2c0n3 p2c1n3 p2c2n3 p2c3n3 f0n3 f1n3 f2n3 f3n3 e0xn3 e0yn3 e1xn3 e1yn3 e2xn3 e2yn3
          obtain ⟨⟨b0n4, b1n4, b2n4, b3n4⟩, _, ⟨p0c0n4, p0c1n4, p0c2n4, p0c3n4⟩, ⟨p1c0n4, p1c1n4, p1c2n4, p1c3n4⟩, ⟨p2c0n4, p2c1n4, p2c2n4, p2c3n4⟩, _⟩ := K6.facts
          obtain ⟨f0n4, f1n4, f2n4, f3n4⟩ := K6.free (i := 0) rfl
          obtain ⟨e0xn4, e0yn4⟩ := K6.ne 0 2 rfl rfl (by decide)
          obtain ⟨e1xn4, e1yn4⟩ := K6.ne 0 3 rfl rfl (by decide)
          obtain ⟨e2xn4, e2yn4⟩ := K6.ne 0 4 rfl rfl (by decide)
          refine hK.out _ _ ?_ (fun hHeld4 => ?_)
          · ((try dsimp only); first | go_keep | (trace_state; fail))
          clear hK K hHeld3
          (try simp only [Act.put, List.setIfInBounds_toArray, List.set_cons_zero, List.set_cons_succ])
          refine wpAnyH_ready (rs := [8]) (by kernel_rfl) (by simp) ?_
          refine AllReadyH.cons (o := ⟨none, _, _, _, _, _⟩) rfl (fun K hK => ?_) AllReadyH.nil
          go_simp
          refine hK.out _ _ ?_ (fun hHeld5 => ?_)
          · ((try dsimp only); first | go_keep | (trace_state; fail))
          clear hK K hHeld4
          (try simp only [Act.put, List.setIfInBounds_toArray, List.set_cons_zero, List.set_cons_succ])
          refine wpAnyH_done (by kernel_rfl) ?_ _
          go_wp2_with fail
          go_meet
          have KF := K6.put4 0 rfl (decide (x < 0)) X6 l6 q6 (decide (y < 0)) Y6 m6 r6
          (try simp only [List.set, World.size_alloc, World.size_setCell] at KF)
          exact ⟨_, X6, l6, q6, Y6, m6, r6, rfl, KF.ints_ ⟨KF.ints.1, KF.ints.2.1, KF.ints.2.2.2.2.2.2.1, KF.ints.2.2.2.2.2.2.2.1, KF.ints.2.2.2.2.2.2.2.2.1, KF.ints.2.2.2.2.2.2.2.2.2.1, KF.ints.2.2.2.2.2.2.2.2.2.2.1, KF.ints.2.2.2.2.2.2.2.2.2.2.2.1, KF.ints.2.2.2.2.2.2.2.2.2.2.2.2.1, KF.ints.2.2.2.2.2.2.2.2.2.2.2.2.2.1, trivial⟩⟩
        refine AllReadyH.cons (o := ⟨some 8, _, _, _, _, _⟩) rfl (fun K hK => ?_) AllReadyH.nil
        go_simp
        have KA := K2.new 42 (Plains.four false none 0 0 false none 0 0)
        (try simp only [World.size_alloc] at KA)
        obtain ⟨⟨b0n2, b1n2, b2n2, b3n2⟩, _, ⟨p0c0n2, p0c1n2, p0c2n2, p0c3n2⟩, ⟨p1c0n2, p1c1n2, p1c2n2, p1c3n2⟩, ⟨p2c0n2, p2c1n2, p2c2n2, p2c3n2⟩, _⟩ := KA.facts
        obtain ⟨f0n2, f1n2, f2n2, f3n2⟩ := KA.free (i := 0) rfl
        obtain ⟨e0xn2, e0yn2⟩ := KA.ne 0 2 rfl rfl (by decide)
        obtain ⟨e1xn2, e1yn2⟩ := KA.ne 0 3 rfl rfl (by decide)
        obtain ⟨e2xn2, e2yn2⟩ := KA.ne 0 4 rfl rfl (by decide)
        refine hK.out _ _ ?_ (fun hHeld2 => ?_)
        · ((try dsimp only); first | go_keep | (trace_state; fail))
        clear hK K hHeld1
        (try simp only [Act.put, List.setIfInBounds_toArray, List.set_cons_zero, List.set_cons_succ])
        refine wpAnyH_ready (rs := [5]) (by kernel_rfl) (by simp) ?_
        refine AllReadyH.cons (o := ⟨some 30, _, _, _, _, _⟩) rfl (fun K hK => ?_) AllReadyH.nil
        go_simp
        have g5_0 := KA.ints.2.2.2.2.2.2.2.2.2.1.i
        have g5_1 := KA.ints.2.2.2.2.2.2.2.2.1.i
        have g5_2 := KA.ints.2.2.2.2.2.1.i
        have g5_3 := KA.ints.2.2.2.2.1.i
        (go_at_call_of 48 (Value.agg #[Value.bool x5, Value.slice A5 n5 c5, Value.bool x6, Value.slice A6 n6 c6]); (with_reducible refine (fmul_at g5_0 g5_1 g5_2 g5_3 z_a z_b z_e z_f).mono ?_); rw [HM2.out.1, HM2.out.2]; rintro ee w5 ⟨X5, l5, q5, Y5, m5, r5, rfl, d5, h5, v5⟩)
        (try go_wp2_with fail)
        have K5 := ((KA.call v5).add h5).add d5
        clear p0c0n1 p0c1n1 p0c2n1 p0c3n1 p1c0n1 p1c1n1 p1c2n1 p1c3n1 p2c0n1 p2c1n1 p2c2n1 p2c3n1 b0n2 b1n2 b2n2 b3n2 p0c0n2 p0c1n2 p0c2n2 p0c3n2 p1c0n2 p1c1n2 p1c2n2 p1c3n2 p2c0n2 p2c1n2 p2c2n2 p2c3n2 f0n2 f1n2 f2n2 f3n2 e0xn2 e0yn2 e1xn2 e1yn2 e2xn2 e2yn2
        obtain ⟨⟨b0n3, b1n3, b2n3, b3n3⟩, _, ⟨p0c0n3, p0c1n3, p0c2n3, p0c3n3⟩, ⟨p1c0n3, p1c1n3, p1c2n3, p1c3n3⟩, ⟨p2c0n3, p2c1n3, p2c2n3, p2c3n3⟩, _⟩ := K5.facts
        obtain ⟨f0n3, f1n3, f2n3, f3n3⟩ := K5.free (i := 0) rfl
        obtain ⟨e0xn3, e0yn3⟩ := K5.ne 0 2 rfl rfl (by decide)
        obtain ⟨e1xn3, e1yn3⟩ := K5.ne 0 3 rfl rfl (by decide)
        obtain ⟨e2xn3, e2yn3⟩ := K5.ne 0 4 rfl rfl (by decide)
        refine hK.out _ _ ?_ (fun hHeld3 => ?_)
        · ((try dsimp only); first | go_keep | (trace_state; fail))
        clear hK K hHeld2
        (try simp only [Act.put, List.setIfInBounds_toArray, List.set_cons_zero, List.set_cons_succ])
        refine wpAnyH_ready (rs := [6]) (by kernel_rfl) (by simp) ?_
        refine AllReadyH.cons (o := ⟨some 31, _, _, _, _, _⟩) rfl (fun K hK => ?_) AllReadyH.nil
        go_simp
        have g6_0 := K5.ints.2.2.1.ci k_m
        have g6_1 := K5.ints.2.2.2.1.ci k_n
        have g6_2 := K5.ints.1.ci k_k
        have g6_3 := K5.ints.2.1.ci k_l
        (go_at_call 44; (with_reducible refine (fadd_at g6_0 g6_1 g6_2 g6_3 z_m z_n z_k z_l).mono ?_); rw [HY.out.1, HY.out.2]; rintro ee w6 ⟨X6, l6, q6, Y6, m6, r6, rfl, d6, h6, v6⟩)
        (try go_wp2_with fail)
        have K6 := ((K5.call v6).add h6).add d6
        clear b0n3 b1n3 b2n3 b3n3 p0c0n3 p0c1n3 p0c2n3 p0c3n3 p1c0n3 p1c1n3 p1c2n3 p1c3n3 p2c0n3 p2c1n3 p2c2n3 p2c3n3 f0n3 f1n3 f2n3 f3n3 e0xn3 e0yn3 e1xn3 e1yn3 e2xn3 e2yn3
        obtain ⟨⟨b0n4, b1n4, b2n4, b3n4⟩, _, ⟨p0c0n4, p0c1n4, p0c2n4, p0c3n4⟩, ⟨p1c0n4, p1c1n4, p1c2n4, p1c3n4⟩, ⟨p2c0n4, p2c1n4, p2c2n4, p2c3n4⟩, _⟩ := K6.facts
        obtain ⟨f0n4, f1n4, f2n4, f3n4⟩ := K6.free (i := 0) rfl
        obtain ⟨e0xn4, e0yn4⟩ := K6.ne 0 2 rfl rfl (by decide)
        obtain ⟨e1xn4, e1yn4⟩ := K6.ne 0 3 rfl rfl (by decide)
        obtain ⟨e2xn4, e2yn4⟩ := K6.ne 0 4 rfl rfl (by decide)
        refine hK.out _ _ ?_ (fun hHeld4 => ?_)
        · ((try dsimp only); first | go_keep | (trace_state; fail))
        clear hK K hHeld3
        (try simp only [Act.put, List.setIfInBounds_toArray, List.set_cons_zero, List.set_cons_succ])
        refine wpAnyH_ready (rs := [8]) (by kernel_rfl) (by simp) ?_
        refine AllReadyH.cons (o := ⟨none, _, _, _, _, _⟩) rfl (fun K hK => ?_) AllReadyH.nil
        go_simp
        refine hK.out _ _ ?_ (fun hHeld5 => ?_)
        · ((try dsimp only); first | go_keep | (trace_state; fail))
        clear hK K hHeld4
        (try simp only [Act.put, List.setIfInBounds_toArray, List.set_cons_zero, List.set_cons_succ])
        refine wpAnyH_done (by kernel_rfl) ?_ _
        go_wp2_with fail
        go_meet
        have KF := K6.put4 0 rfl (decide (x < 0)) X6 l6 q6 (decide (y < 0)) Y6 m6 r6
        (try simp only [List.set, World.size_alloc, World.size_setCell] at KF)
        exact ⟨_, X6, l6, q6, Y6, m6, r6, rfl, KF.ints_ ⟨KF.ints.1, KF.ints.2.1, KF.ints.2.2.2.2.2.2.1, KF.ints.2.2.2.2.2.2.2.1, KF.ints.2.2.2.2.2.2.2.2.1, KF.ints.2.2.2.2.2.2.2.2.2.1, KF.ints.2.2.2.2.2.2.2.2.2.2.1, KF.ints.2.2.2.2.2.2.2.2.2.2.2.1, KF.ints.2.2.2.2.2.2.2.2.2.2.2.2.1, KF.ints.2.2.2.2.2.2.2.2.2.2.2.2.2.1, trivial⟩⟩
      refine AllReadyH.cons (o := ⟨some 8, _, _, _, _, _⟩) rfl (fun K hK => ?_) AllReadyH.nil
      go_simp
      have KA := KZ.new 42 (Plains.four false none 0 0 false none 0 0)
      (try simp only [World.size_alloc] at KA)
      obtain ⟨⟨b0n1, b1n1, b2n1, b3n1⟩, _, ⟨p0c0n1, p0c1n1, p0c2n1, p0c3n1⟩, ⟨p1c0n1, p1c1n1, p1c2n1, p1c3n1⟩, ⟨p2c0n1, p2c1n1, p2c2n1, p2c3n1⟩, _⟩ := KA.facts
      obtain ⟨f0n1, f1n1, f2n1, f3n1⟩ := KA.free (i := 0) rfl
      obtain ⟨e0xn1, e0yn1⟩ := KA.ne 0 2 rfl rfl (by decide)
      obtain ⟨e1xn1, e1yn1⟩ := KA.ne 0 3 rfl rfl (by decide)
      obtain ⟨e2xn1, e2yn1⟩ := KA.ne 0 4 rfl rfl (by decide)
      refine hK.out _ _ ?_ (fun hHeld1 => ?_)
      · ((try dsimp only); first | go_keep | (trace_state; fail))
      clear hK K hHeld0
      (try simp only [Act.put, List.setIfInBounds_toArray, List.set_cons_zero, List.set_cons_succ])
      refine wpAnyH_ready (rs := [2]) (by kernel_rfl) (by simp) ?_
      refine AllReadyH.cons (o := ⟨some 27, _, _, _, _, _⟩) rfl (fun K hK => ?_) AllReadyH.nil
      go_simp
      have g2_0 := KA.drew.ints.2.2.2.2.2.2.2.1.i
      have g2_1 := KA.drew.ints.2.2.2.2.2.2.1.i
      have g2_2 := KA.drew.ints.2.2.2.2.2.1.i
      have g2_3 := KA.drew.ints.2.2.2.2.1.i
      (go_at_call_of 48 (Value.agg #[Value.bool x3, Value.slice A3 n3 c3, Value.bool x4, Value.slice A4 n4 c4]); (with_reducible refine (fmul_at g2_0 g2_1 g2_2 g2_3 z_a z_b z_c z_d).mono ?_); rw [HM1.out.1, HM1.out.2]; rintro ee w2 ⟨X2, l2, q2, Y2, m2, r2, rfl, d2, h2, v2⟩)
      (try go_wp2_with fail)
      have K2 := ((KA.drew.call v2).add h2).add d2
      clear b0n1 b1n1 b2n1 b3n1 p0c0n1 p0c1n1 p0c2n1 p0c3n1 p1c0n1 p1c1n1 p1c2n1 p1c3n1 p2c0n1 p2c1n1 p2c2n1 p2c3n1 f0n1 f1n1 f2n1 f3n1 e0xn1 e0yn1 e1xn1 e1yn1 e2xn1 e2yn1
      obtain ⟨⟨b0n2, b1n2, b2n2, b3n2⟩, _, ⟨p0c0n2, p0c1n2, p0c2n2, p0c3n2⟩, ⟨p1c0n2, p1c1n2, p1c2n2, p1c3n2⟩, ⟨p2c0n2, p2c1n2, p2c2n2, p2c3n2⟩, _⟩ := K2.facts
      obtain ⟨f0n2, f1n2, f2n2, f3n2⟩ := K2.free (i := 0) rfl
      obtain ⟨e0xn2, e0yn2⟩ := K2.ne 0 2 rfl rfl (by decide)
      obtain ⟨e1xn2, e1yn2⟩ := K2.ne 0 3 rfl rfl (by decide)
      obtain ⟨e2xn2, e2yn2⟩ := K2.ne 0 4 rfl rfl (by decide)
      refine hK.out _ _ ?_ (fun hHeld2 => ?_)
      · ((try dsimp only); first | go_keep | (trace_state; fail))
      clear hK K hHeld1
      (try simp only [Act.put, List.setIfInBounds_toArray, List.set_cons_zero, List.set_cons_succ])
      refine wpAnyH_ready (rs := [5]) (by kernel_rfl) (by simp) ?_
      refine AllReadyH.cons (o := ⟨some 30, _, _, _, _, _⟩) rfl (fun K hK => ?_) AllReadyH.nil
      go_simp
      have g5_0 := K2.ints.2.2.2.2.2.2.2.2.2.1.i
      have g5_1 := K2.ints.2.2.2.2.2.2.2.2.1.i
      have g5_2 := K2.ints.2.2.2.2.2.1.i
      have g5_3 := K2.ints.2.2.2.2.1.i
      (go_at_call_of 48 (Value.agg #[Value.bool x5, Value.slice A5 n5 c5, Value.bool x6, Value.slice A6 n6 c6]); (with_reducible refine (fmul_at g5_0 g5_1 g5_2 g5_3 z_a z_b z_e z_f).mono ?_); rw [HM2.out.1, HM2.out.2]; rintro ee w5 ⟨X5, l5, q5, Y5, m5, r5, rfl, d5, h5, v5⟩)
      (try go_wp2_with fail)
      have K5 := ((K2.call v5).add h5).add d5
      clear b0n2 b1n2 b2n2 b3n2 p0c0n2 p0c1n2 p0c2n2 p0c3n2 p1c0n2 p1c1n2 p1c2n2 p1c3n2 p2c0n2 p2c1n2 p2c2n2 p2c3n2 f0n2 f1n2 f2n2 f3n2 e0xn2 e0yn2 e1xn2 e1yn2 e2xn2 e2yn2
      obtain ⟨⟨b0n3, b1n3, b2n3, b3n3⟩, _, ⟨p0c0n3, p0c1n3, p0c2n3, p0c3n3⟩, ⟨p1c0n3, p1c1n3, p1c2n3, p1c3n3⟩, ⟨p2c0n3, p2c1n3, p2c2n3, p2c3n3⟩, _⟩ := K5.facts
      obtain ⟨f0n3, f1n3, f2n3, f3n3⟩ := K5.free (i := 0) rfl
      obtain ⟨e0xn3, e0yn3⟩ := K5.ne 0 2 rfl rfl (by decide)
      obtain ⟨e1xn3, e1yn3⟩ := K5.ne 0 3 rfl rfl (by decide)
      obtain ⟨e2xn3, e2yn3⟩ := K5.ne 0 4 rfl rfl (by decide)
      refine hK.out _ _ ?_ (fun hHeld3 => ?_)
      · ((try dsimp only); first | go_keep | (trace_state; fail))
      clear hK K hHeld2
      (try simp only [Act.put, List.setIfInBounds_toArray, List.set_cons_zero, List.set_cons_succ])
      refine wpAnyH_ready (rs := [6]) (by kernel_rfl) (by simp) ?_
      refine AllReadyH.cons (o := ⟨some 31, _, _, _, _, _⟩) rfl (fun K hK => ?_) AllReadyH.nil
      go_simp
      have g6_0 := K5.ints.2.2.1.ci k_m
      have g6_1 := K5.ints.2.2.2.1.ci k_n
      have g6_2 := K5.ints.1.ci k_k
      have g6_3 := K5.ints.2.1.ci k_l
      (go_at_call 44; (with_reducible refine (fadd_at g6_0 g6_1 g6_2 g6_3 z_m z_n z_k z_l).mono ?_); rw [HY.out.1, HY.out.2]; rintro ee w6 ⟨X6, l6, q6, Y6, m6, r6, rfl, d6, h6, v6⟩)
      (try go_wp2_with fail)
      have K6 := ((K5.call v6).add h6).add d6
      clear b0n3 b1n3 b2n3 b3n3 p0c0n3 p0c1n3 p0c2n3 p0c3n3 p1c0n3 p1c1n3 p1c2n3 p1c3n3 p2c0n3 p2c1n3 p2c2n3 p2c3n3 f0n3 f1n3 f2n3 f3n3 e0xn3 e0yn3 e1xn3 e1yn3 e2xn3 e2yn3
      obtain ⟨⟨b0n4, b1n4, b2n4, b3n4⟩, _, ⟨p0c0n4, p0c1n4, p0c2n4, p0c3n4⟩, ⟨p1c0n4, p1c1n4, p1c2n4, p1c3n4⟩, ⟨p2c0n4, p2c1n4, p2c2n4, p2c3n4⟩, _⟩ := K6.facts
      obtain ⟨f0n4, f1n4, f2n4, f3n4⟩ := K6.free (i := 0) rfl
      obtain ⟨e0xn4, e0yn4⟩ := K6.ne 0 2 rfl rfl (by decide)
      obtain ⟨e1xn4, e1yn4⟩ := K6.ne 0 3 rfl rfl (by decide)
      obtain ⟨e2xn4, e2yn4⟩ := K6.ne 0 4 rfl rfl (by decide)
      refine hK.out _ _ ?_ (fun hHeld4 => ?_)
      · ((try dsimp only); first | go_keep | (trace_state; fail))
      clear hK K hHeld3
      (try simp only [Act.put, List.setIfInBounds_toArray, List.set_cons_zero, List.set_cons_succ])
      refine wpAnyH_ready (rs := [8]) (by kernel_rfl) (by simp) ?_
      refine AllReadyH.cons (o := ⟨none, _, _, _, _, _⟩) rfl (fun K hK => ?_) AllReadyH.nil
      go_simp
      refine hK.out _ _ ?_ (fun hHeld5 => ?_)
      · ((try dsimp only); first | go_keep | (trace_state; fail))
      clear hK K hHeld4
      (try simp only [Act.put, List.setIfInBounds_toArray, List.set_cons_zero, List.set_cons_succ])
      refine wpAnyH_done (by kernel_rfl) ?_ _
      go_wp2_with fail
      go_meet
      have KF := K6.put4 0 rfl (decide (x < 0)) X6 l6 q6 (decide (y < 0)) Y6 m6 r6
      (try simp only [List.set, World.size_alloc, World.size_setCell] at KF)
      exact ⟨_, X6, l6, q6, Y6, m6, r6, rfl, KF.ints_ ⟨KF.ints.1, KF.ints.2.1, KF.ints.2.2.2.2.2.2.1, KF.ints.2.2.2.2.2.2.2.1, KF.ints.2.2.2.2.2.2.2.2.1, KF.ints.2.2.2.2.2.2.2.2.2.1, KF.ints.2.2.2.2.2.2.2.2.2.2.1, KF.ints.2.2.2.2.2.2.2.2.2.2.2.1, KF.ints.2.2.2.2.2.2.2.2.2.2.2.2.1, KF.ints.2.2.2.2.2.2.2.2.2.2.2.2.2.1, trivial⟩⟩
    case rest =>
    clear KN7
    obtain ⟨h_8, X_8, l_8, q_8, Y_8, m_8, r_8, rfl, KN8⟩ := hcut
    go_upto_region 5 with fail
    go_cut [9] (fun vx wx => ∃ (h_9 : Nat) (X_9 : Option Addr) (l_9 q_9 : Nat) (Y_9 : Option Addr) (m_9 r_9 : Nat), vx = .pointer (some ⟨h_9, 0, none⟩) ∧ St w wx [vf h_9 (decide (p < 0)) X_9 l_9 q_9 (decide (q < 0)) Y_9 m_9 r_9, vf h_8 (decide (x < 0)) X_8 l_8 q_8 (decide (y < 0)) Y_8 m_8 r_8, vf h_7 (decide (x < 0)) X_7 l_7 q_7 (decide (y < 0)) Y_7 m_7 r_7, vf (w.heap.size + 1 + 1) x5 A5 n5 c5 x6 A6 n6 c6, vf (w.heap.size + 1) x3 A3 n3 c3 x4 A4 n4 c4, vf w.heap.size x1 A1 n1 c1 x2 A2 n2 c2] [(decide (p < 0), X_9, l_9, q_9, p, true), (decide (q < 0), Y_9, m_9, r_9, q, true), (decide (x < 0), X_8, l_8, q_8, x, true), (decide (y < 0), Y_8, m_8, r_8, y, true), (decide (x < 0), X_7, l_7, q_7, x, true), (decide (y < 0), Y_7, m_7, r_7, y, true), (x6, A6, n6, c6, f, false), (x5, A5, n5, c5, e, false), (x4, A4, n4, c4, d, false), (x3, A3, n3, c3, c, false), (x2, A2, n2, c2, b, false), (x1, A1, n1, c1, a, false)])
    case first =>
      have KZ := KN8
      clear KN8
      obtain ⟨_, _, ⟨o0, o1, o2, o3⟩, ⟨o4, o5, o6, o7⟩, ⟨o8, o9, oa, ob⟩, _⟩ := KZ.facts
      skip
      refine wp_region_held_drew (S := fun w' => w'.cell? ⟨w.heap.size + 1 + 1, 0, none⟩ = some (.bool x5) ∧ w'.cell? ⟨w.heap.size + 1 + 1, 1, none⟩ = some (.slice A5 n5 c5) ∧ w'.cell? ⟨w.heap.size + 1 + 1, 2, none⟩ = some (.bool x6) ∧ w'.cell? ⟨w.heap.size + 1 + 1, 3, none⟩ = some (.slice A6 n6 c6) ∧ w'.cell? ⟨w.heap.size + 1, 0, none⟩ = some (.bool x3) ∧ w'.cell? ⟨w.heap.size + 1, 1, none⟩ = some (.slice A3 n3 c3) ∧ w'.cell? ⟨w.heap.size + 1, 2, none⟩ = some (.bool x4) ∧ w'.cell? ⟨w.heap.size + 1, 3, none⟩ = some (.slice A4 n4 c4) ∧ w'.cell? ⟨w.heap.size, 0, none⟩ = some (.bool x1) ∧ w'.cell? ⟨w.heap.size, 1, none⟩ = some (.slice A1 n1 c1) ∧ w'.cell? ⟨w.heap.size, 2, none⟩ = some (.bool x2) ∧ w'.cell? ⟨w.heap.size, 3, none⟩ = some (.slice A2 n2 c2)) (by kernel_rfl) ?_ (fun hHeld0 => ?_)
      · ((try dsimp only); go_keep)
      refine wpAnyH_take (i := 0) (oi := ⟨some 32, _, _, _, _, _⟩) (v := ?_) rfl (by kernel_rfl) (by kernel_rfl) (by kernel_rfl) (fun _ _ _ h => h) (Or.inl ⟨by rfl, ?_⟩) (by assumption) ?_
      rotate_left
      · (intro w' hSw; (try dsimp only at hSw); go_simp; (try with_reducible rfl))
      (try simp only [Act.put, List.setIfInBounds_toArray, List.set_cons_zero, List.set_cons_succ])
      refine wpAnyH_take (i := 1) (oi := ⟨some 33, _, _, _, _, _⟩) (v := ?_) rfl (by kernel_rfl) (by kernel_rfl) (by kernel_rfl) (fun _ _ _ h => h) (Or.inl ⟨by rfl, ?_⟩) (by assumption) ?_
      rotate_left
      · (intro w' hSw; (try dsimp only at hSw); go_simp; (try with_reducible rfl))
      (try simp only [Act.put, List.setIfInBounds_toArray, List.set_cons_zero, List.set_cons_succ])
      refine wpAnyH_take (i := 3) (oi := ⟨some 35, _, _, _, _, _⟩) (v := ?_) rfl (by kernel_rfl) (by kernel_rfl) (by kernel_rfl) (fun _ _ _ h => h) (Or.inl ⟨by rfl, ?_⟩) (by assumption) ?_
      rotate_left
      · (intro w' hSw; (try dsimp only at hSw); go_simp; (try with_reducible rfl))
      (try simp only [Act.put, List.setIfInBounds_toArray, List.set_cons_zero, List.set_cons_succ])
      refine wpAnyH_ready (rs := [2, 5]) (by kernel_rfl) (by simp) ?_
      refine AllReadyH.cons (o := ⟨some 34, _, _, _, _, _⟩) rfl (fun K hK => ?_) ?_
      · skip
        go_simp
        have g2_0 := KZ.drew.ints.2.2.2.2.2.2.2.2.2.1.i
        have g2_1 := KZ.drew.ints.2.2.2.2.2.2.2.2.1.i
        have g2_2 := KZ.drew.ints.2.2.2.2.2.2.2.1.i
        have g2_3 := KZ.drew.ints.2.2.2.2.2.2.1.i
        (go_at_call_of 44 (Value.agg #[Value.bool x3, Value.slice A3 n3 c3, Value.bool x4, Value.slice A4 n4 c4]); (with_reducible refine (fadd_at g2_0 g2_1 g2_2 g2_3 z_a z_b z_c z_d).mono ?_); rw [HS2.out.1, HS2.out.2]; rintro ee w2 ⟨X2, l2, q2, Y2, m2, r2, rfl, d2, h2, v2⟩)
        (try go_wp2_with fail)
        have K2 := ((KZ.drew.call v2).add h2).add d2
        obtain ⟨_, _, ⟨p0c0n1, p0c1n1, p0c2n1, p0c3n1⟩, ⟨p1c0n1, p1c1n1, p1c2n1, p1c3n1⟩, ⟨p2c0n1, p2c1n1, p2c2n1, p2c3n1⟩, _⟩ := K2.facts
        refine hK.out _ _ ?_ (fun hHeld1 => ?_)
        · ((try dsimp only); first | go_keep | (trace_state; fail))
        clear hK K hHeld0
        (try simp only [Act.put, List.setIfInBounds_toArray, List.set_cons_zero, List.set_cons_succ])
        refine wpAnyH_ready (rs := [4, 5]) (by kernel_rfl) (by simp) ?_
        refine AllReadyH.cons (o := ⟨some 36, _, _, _, _, _⟩) rfl (fun K hK => ?_) ?_
        · skip
          go_simp
          have g4_0 := K2.ints.1.ci k_g
          have g4_1 := K2.ints.2.1.ci k_h
          have g4_2 := K2.ints.2.2.2.2.2.2.2.1.i
          have g4_3 := K2.ints.2.2.2.2.2.2.1.i
          (go_at_call_of 44 (Value.agg #[Value.bool x5, Value.slice A5 n5 c5, Value.bool x6, Value.slice A6 n6 c6]); (with_reducible refine (fadd_at g4_0 g4_1 g4_2 g4_3 z_g z_h z_e z_f).mono ?_); rw [HP.out.1, HP.out.2]; rintro ee w4 ⟨X4, l4, q4, Y4, m4, r4, rfl, d4, h4, v4⟩)
          (try go_wp2_with fail)
          have K4 := ((K2.call v4).add h4).add d4
          clear p0c0n1 p0c1n1 p0c2n1 p0c3n1 p1c0n1 p1c1n1 p1c2n1 p1c3n1 p2c0n1 p2c1n1 p2c2n1 p2c3n1
          obtain ⟨_, _, ⟨p0c0n2, p0c1n2, p0c2n2, p0c3n2⟩, ⟨p1c0n2, p1c1n2, p1c2n2, p1c3n2⟩, ⟨p2c0n2, p2c1n2, p2c2n2, p2c3n2⟩, _⟩ := K4.facts
          refine hK.out _ _ ?_ (fun hHeld2 => ?_)
          · ((try dsimp only); first | go_keep | (trace_state; fail))
          clear hK K hHeld1
          (try simp only [Act.put, List.setIfInBounds_toArray, List.set_cons_zero, List.set_cons_succ])
          refine wpAnyH_ready (rs := [5]) (by kernel_rfl) (by simp) ?_
          refine AllReadyH.cons (o := ⟨some 9, _, _, _, _, _⟩) rfl (fun K hK => ?_) AllReadyH.nil
          go_simp
          have KA := K4.new 42 (Plains.four false none 0 0 false none 0 0)
          (try simp only [World.size_alloc] at KA)
          obtain ⟨⟨b0n3, b1n3, b2n3, b3n3⟩, _, _, ⟨p0c0n3, p0c1n3, p0c2n3, p0c3n3⟩, ⟨p1c0n3, p1c1n3, p1c2n3, p1c3n3⟩, ⟨p2c0n3, p2c1n3, p2c2n3, p2c3n3⟩, _⟩ := KA.facts
          obtain ⟨f0n3, f1n3, f2n3, f3n3⟩ := KA.free (i := 0) rfl
          obtain ⟨e0xn3, e0yn3⟩ := KA.ne 0 3 rfl rfl (by decide)
          obtain ⟨e1xn3, e1yn3⟩ := KA.ne 0 4 rfl rfl (by decide)
          obtain ⟨e2xn3, e2yn3⟩ := KA.ne 0 5 rfl rfl (by decide)
          refine hK.out _ _ ?_ (fun hHeld3 => ?_)
          · ((try dsimp only); first | go_keep | (trace_state; fail))
          clear hK K hHeld2
          (try simp only [Act.put, List.setIfInBounds_toArray, List.set_cons_zero, List.set_cons_succ])
          refine wpAnyH_ready (rs := [6]) (by kernel_rfl) (by simp) ?_
          refine AllReadyH.cons (o := ⟨none, _, _, _, _, _⟩) rfl (fun K hK => ?_) AllReadyH.nil
          go_simp
          refine hK.out _ _ ?_ (fun hHeld4 => ?_)
          · ((try dsimp only); first | go_keep | (trace_state; fail))
          clear hK K hHeld3
          (try simp only [Act.put, List.setIfInBounds_toArray, List.set_cons_zero, List.set_cons_succ])
          refine wpAnyH_done (by kernel_rfl) ?_ _
          go_wp2_with fail
          go_meet
          have KF := K4.new 42 (Plains.four (decide (p < 0)) X4 l4 q4 (decide (q < 0)) Y4 m4 r4)
          (try simp only [List.set, World.size_alloc, World.size_setCell] at KF)
          exact ⟨_, X4, l4, q4, Y4, m4, r4, rfl, KF.ints_ ⟨KF.ints.1, KF.ints.2.1, KF.ints.2.2.2.2.1, KF.ints.2.2.2.2.2.1, KF.ints.2.2.2.2.2.2.1, KF.ints.2.2.2.2.2.2.2.1, KF.ints.2.2.2.2.2.2.2.2.1, KF.ints.2.2.2.2.2.2.2.2.2.1, KF.ints.2.2.2.2.2.2.2.2.2.2.1, KF.ints.2.2.2.2.2.2.2.2.2.2.2.1, KF.ints.2.2.2.2.2.2.2.2.2.2.2.2.1, KF.ints.2.2.2.2.2.2.2.2.2.2.2.2.2.1, trivial⟩⟩
        refine AllReadyH.cons (o := ⟨some 9, _, _, _, _, _⟩) rfl (fun K hK => ?_) AllReadyH.nil
        go_simp
        have KA := K2.new 42 (Plains.four false none 0 0 false none 0 0)
        (try simp only [World.size_alloc] at KA)
        obtain ⟨⟨b0n2, b1n2, b2n2, b3n2⟩, _, _, ⟨p0c0n2, p0c1n2, p0c2n2, p0c3n2⟩, ⟨p1c0n2, p1c1n2, p1c2n2, p1c3n2⟩, ⟨p2c0n2, p2c1n2, p2c2n2, p2c3n2⟩, _⟩ := KA.facts
        obtain ⟨f0n2, f1n2, f2n2, f3n2⟩ := KA.free (i := 0) rfl
        obtain ⟨e0xn2, e0yn2⟩ := KA.ne 0 3 rfl rfl (by decide)
        obtain ⟨e1xn2, e1yn2⟩ := KA.ne 0 4 rfl rfl (by decide)
        obtain ⟨e2xn2, e2yn2⟩ := KA.ne 0 5 rfl rfl (by decide)
        refine hK.out _ _ ?_ (fun hHeld2 => ?_)
        · ((try dsimp only); first | go_keep | (trace_state; fail))
        clear hK K hHeld1
        (try simp only [Act.put, List.setIfInBounds_toArray, List.set_cons_zero, List.set_cons_succ])
        refine wpAnyH_ready (rs := [4]) (by kernel_rfl) (by simp) ?_
        refine AllReadyH.cons (o := ⟨some 36, _, _, _, _, _⟩) rfl (fun K hK => ?_) AllReadyH.nil
        go_simp
        have g4_0 := KA.ints.1.ci k_g
        have g4_1 := KA.ints.2.1.ci k_h
        have g4_2 := KA.ints.2.2.2.2.2.2.2.1.i
        have g4_3 := KA.ints.2.2.2.2.2.2.1.i
        (go_at_call_of 44 (Value.agg #[Value.bool x5, Value.slice A5 n5 c5, Value.bool x6, Value.slice A6 n6 c6]); (with_reducible refine (fadd_at g4_0 g4_1 g4_2 g4_3 z_g z_h z_e z_f).mono ?_); rw [HP.out.1, HP.out.2]; rintro ee w4 ⟨X4, l4, q4, Y4, m4, r4, rfl, d4, h4, v4⟩)
        (try go_wp2_with fail)
        have K4 := ((KA.call v4).add h4).add d4
        clear p0c0n1 p0c1n1 p0c2n1 p0c3n1 p1c0n1 p1c1n1 p1c2n1 p1c3n1 p2c0n1 p2c1n1 p2c2n1 p2c3n1 b0n2 b1n2 b2n2 b3n2 p0c0n2 p0c1n2 p0c2n2 p0c3n2 p1c0n2 p1c1n2 p1c2n2 p1c3n2 p2c0n2 p2c1n2 p2c2n2 p2c3n2 f0n2 f1n2 f2n2 f3n2 e0xn2 e0yn2 e1xn2 e1yn2 e2xn2 e2yn2
        obtain ⟨⟨b0n3, b1n3, b2n3, b3n3⟩, _, _, ⟨p0c0n3, p0c1n3, p0c2n3, p0c3n3⟩, ⟨p1c0n3, p1c1n3, p1c2n3, p1c3n3⟩, ⟨p2c0n3, p2c1n3, p2c2n3, p2c3n3⟩, _⟩ := K4.facts
        obtain ⟨f0n3, f1n3, f2n3, f3n3⟩ := K4.free (i := 0) rfl
        obtain ⟨e0xn3, e0yn3⟩ := K4.ne 0 3 rfl rfl (by decide)
        obtain ⟨e1xn3, e1yn3⟩ := K4.ne 0 4 rfl rfl (by decide)
        obtain ⟨e2xn3, e2yn3⟩ := K4.ne 0 5 rfl rfl (by decide)
        refine hK.out _ _ ?_ (fun hHeld3 => ?_)
        · ((try dsimp only); first | go_keep | (trace_state; fail))
        clear hK K hHeld2
        (try simp only [Act.put, List.setIfInBounds_toArray, List.set_cons_zero, List.set_cons_succ])
        refine wpAnyH_ready (rs := [6]) (by kernel_rfl) (by simp) ?_
        refine AllReadyH.cons (o := ⟨none, _, _, _, _, _⟩) rfl (fun K hK => ?_) AllReadyH.nil
        go_simp
        refine hK.out _ _ ?_ (fun hHeld4 => ?_)
        · ((try dsimp only); first | go_keep | (trace_state; fail))
        clear hK K hHeld3
        (try simp only [Act.put, List.setIfInBounds_toArray, List.set_cons_zero, List.set_cons_succ])
        refine wpAnyH_done (by kernel_rfl) ?_ _
        go_wp2_with fail
        go_meet
        have KF := K4.put4 0 rfl (decide (p < 0)) X4 l4 q4 (decide (q < 0)) Y4 m4 r4
        (try simp only [List.set, World.size_alloc, World.size_setCell] at KF)
        exact ⟨_, X4, l4, q4, Y4, m4, r4, rfl, KF.ints_ ⟨KF.ints.1, KF.ints.2.1, KF.ints.2.2.2.2.1, KF.ints.2.2.2.2.2.1, KF.ints.2.2.2.2.2.2.1, KF.ints.2.2.2.2.2.2.2.1, KF.ints.2.2.2.2.2.2.2.2.1, KF.ints.2.2.2.2.2.2.2.2.2.1, KF.ints.2.2.2.2.2.2.2.2.2.2.1, KF.ints.2.2.2.2.2.2.2.2.2.2.2.1, KF.ints.2.2.2.2.2.2.2.2.2.2.2.2.1, KF.ints.2.2.2.2.2.2.2.2.2.2.2.2.2.1, trivial⟩⟩
      refine AllReadyH.cons (o := ⟨some 9, _, _, _, _, _⟩) rfl (fun K hK => ?_) AllReadyH.nil
      go_simp
      have KA := KZ.new 42 (Plains.four false none 0 0 false none 0 0)
      (try simp only [World.size_alloc] at KA)
      obtain ⟨⟨b0n1, b1n1, b2n1, b3n1⟩, _, _, ⟨p0c0n1, p0c1n1, p0c2n1, p0c3n1⟩, ⟨p1c0n1, p1c1n1, p1c2n1, p1c3n1⟩, ⟨p2c0n1, p2c1n1, p2c2n1, p2c3n1⟩, _⟩ := KA.facts
      obtain ⟨f0n1, f1n1, f2n1, f3n1⟩ := KA.free (i := 0) rfl
      obtain ⟨e0xn1, e0yn1⟩ := KA.ne 0 3 rfl rfl (by decide)
      obtain ⟨e1xn1, e1yn1⟩ := KA.ne 0 4 rfl rfl (by decide)
      obtain ⟨e2xn1, e2yn1⟩ := KA.ne 0 5 rfl rfl (by decide)
      refine hK.out _ _ ?_ (fun hHeld1 => ?_)
      · ((try dsimp only); first | go_keep | (trace_state; fail))
      clear hK K hHeld0
      (try simp only [Act.put, List.setIfInBounds_toArray, List.set_cons_zero, List.set_cons_succ])
      refine wpAnyH_ready (rs := [2]) (by kernel_rfl) (by simp) ?_
      refine AllReadyH.cons (o := ⟨some 34, _, _, _, _, _⟩) rfl (fun K hK => ?_) AllReadyH.nil
      go_simp
      have g2_0 := KA.drew.ints.2.2.2.2.2.2.2.2.2.1.i
      have g2_1 := KA.drew.ints.2.2.2.2.2.2.2.2.1.i
      have g2_2 := KA.drew.ints.2.2.2.2.2.2.2.1.i
      have g2_3 := KA.drew.ints.2.2.2.2.2.2.1.i
      (go_at_call_of 44 (Value.agg #[Value.bool x3, Value.slice A3 n3 c3, Value.bool x4, Value.slice A4 n4 c4]); (with_reducible refine (fadd_at g2_0 g2_1 g2_2 g2_3 z_a z_b z_c z_d).mono ?_); rw [HS2.out.1, HS2.out.2]; rintro ee w2 ⟨X2, l2, q2, Y2, m2, r2, rfl, d2, h2, v2⟩)
      (try go_wp2_with fail)
      have K2 := ((KA.drew.call v2).add h2).add d2
      clear b0n1 b1n1 b2n1 b3n1 p0c0n1 p0c1n1 p0c2n1 p0c3n1 p1c0n1 p1c1n1 p1c2n1 p1c3n1 p2c0n1 p2c1n1 p2c2n1 p2c3n1 f0n1 f1n1 f2n1 f3n1 e0xn1 e0yn1 e1xn1 e1yn1 e2xn1 e2yn1
      obtain ⟨⟨b0n2, b1n2, b2n2, b3n2⟩, _, _, ⟨p0c0n2, p0c1n2, p0c2n2, p0c3n2⟩, ⟨p1c0n2, p1c1n2, p1c2n2, p1c3n2⟩, ⟨p2c0n2, p2c1n2, p2c2n2, p2c3n2⟩, _⟩ := K2.facts
      obtain ⟨f0n2, f1n2, f2n2, f3n2⟩ := K2.free (i := 0) rfl
      obtain ⟨e0xn2, e0yn2⟩ := K2.ne 0 3 rfl rfl (by decide)
      obtain ⟨e1xn2, e1yn2⟩ := K2.ne 0 4 rfl rfl (by decide)
      obtain ⟨e2xn2, e2yn2⟩ := K2.ne 0 5 rfl rfl (by decide)
      refine hK.out _ _ ?_ (fun hHeld2 => ?_)
      · ((try dsimp only); first | go_keep | (trace_state; fail))
      clear hK K hHeld1
      (try simp only [Act.put, List.setIfInBounds_toArray, List.set_cons_zero, List.set_cons_succ])
      refine wpAnyH_ready (rs := [4]) (by kernel_rfl) (by simp) ?_
      refine AllReadyH.cons (o := ⟨some 36, _, _, _, _, _⟩) rfl (fun K hK => ?_) AllReadyH.nil
      go_simp
      have g4_0 := K2.ints.1.ci k_g
      have g4_1 := K2.ints.2.1.ci k_h
      have g4_2 := K2.ints.2.2.2.2.2.2.2.1.i
      have g4_3 := K2.ints.2.2.2.2.2.2.1.i
      (go_at_call_of 44 (Value.agg #[Value.bool x5, Value.slice A5 n5 c5, Value.bool x6, Value.slice A6 n6 c6]); (with_reducible refine (fadd_at g4_0 g4_1 g4_2 g4_3 z_g z_h z_e z_f).mono ?_); rw [HP.out.1, HP.out.2]; rintro ee w4 ⟨X4, l4, q4, Y4, m4, r4, rfl, d4, h4, v4⟩)
      (try go_wp2_with fail)
      have K4 := ((K2.call v4).add h4).add d4
      clear b0n2 b1n2 b2n2 b3n2 p0c0n2 p0c1n2 p0c2n2 p0c3n2 p1c0n2 p1c1n2 p1c2n2 p1c3n2 p2c0n2 p2c1n2 p2c2n2 p2c3n2 f0n2 f1n2 f2n2 f3n2 e0xn2 e0yn2 e1xn2 e1yn2 e2xn2 e2yn2
      obtain ⟨⟨b0n3, b1n3, b2n3, b3n3⟩, _, _, ⟨p0c0n3, p0c1n3, p0c2n3, p0c3n3⟩, ⟨p1c0n3, p1c1n3, p1c2n3, p1c3n3⟩, ⟨p2c0n3, p2c1n3, p2c2n3, p2c3n3⟩, _⟩ := K4.facts
      obtain ⟨f0n3, f1n3, f2n3, f3n3⟩ := K4.free (i := 0) rfl
      obtain ⟨e0xn3, e0yn3⟩ := K4.ne 0 3 rfl rfl (by decide)
      obtain ⟨e1xn3, e1yn3⟩ := K4.ne 0 4 rfl rfl (by decide)
      obtain ⟨e2xn3, e2yn3⟩ := K4.ne 0 5 rfl rfl (by decide)
      refine hK.out _ _ ?_ (fun hHeld3 => ?_)
      · ((try dsimp only); first | go_keep | (trace_state; fail))
      clear hK K hHeld2
      (try simp only [Act.put, List.setIfInBounds_toArray, List.set_cons_zero, List.set_cons_succ])
      refine wpAnyH_ready (rs := [6]) (by kernel_rfl) (by simp) ?_
      refine AllReadyH.cons (o := ⟨none, _, _, _, _, _⟩) rfl (fun K hK => ?_) AllReadyH.nil
      go_simp
      refine hK.out _ _ ?_ (fun hHeld4 => ?_)
      · ((try dsimp only); first | go_keep | (trace_state; fail))
      clear hK K hHeld3
      (try simp only [Act.put, List.setIfInBounds_toArray, List.set_cons_zero, List.set_cons_succ])
      refine wpAnyH_done (by kernel_rfl) ?_ _
      go_wp2_with fail
      go_meet
      have KF := K4.put4 0 rfl (decide (p < 0)) X4 l4 q4 (decide (q < 0)) Y4 m4 r4
      (try simp only [List.set, World.size_alloc, World.size_setCell] at KF)
      exact ⟨_, X4, l4, q4, Y4, m4, r4, rfl, KF.ints_ ⟨KF.ints.1, KF.ints.2.1, KF.ints.2.2.2.2.1, KF.ints.2.2.2.2.2.1, KF.ints.2.2.2.2.2.2.1, KF.ints.2.2.2.2.2.2.2.1, KF.ints.2.2.2.2.2.2.2.2.1, KF.ints.2.2.2.2.2.2.2.2.2.1, KF.ints.2.2.2.2.2.2.2.2.2.2.1, KF.ints.2.2.2.2.2.2.2.2.2.2.2.1, KF.ints.2.2.2.2.2.2.2.2.2.2.2.2.1, KF.ints.2.2.2.2.2.2.2.2.2.2.2.2.2.1, trivial⟩⟩
    case rest =>
    clear KN8
    obtain ⟨h_9, X_9, l_9, q_9, Y_9, m_9, r_9, rfl, KN9⟩ := hcut
    go_upto_region 6 with fail
    go_cut [10] (fun vx wx => ∃ (h_10 : Nat) (X_10 : Option Addr) (l_10 q_10 : Nat) (Y_10 : Option Addr) (m_10 r_10 : Nat), vx = .pointer (some ⟨h_10, 0, none⟩) ∧ St w wx [vf h_10 (decide (p < 0)) X_10 l_10 q_10 (decide (q < 0)) Y_10 m_10 r_10, vf h_9 (decide (p < 0)) X_9 l_9 q_9 (decide (q < 0)) Y_9 m_9 r_9, vf h_8 (decide (x < 0)) X_8 l_8 q_8 (decide (y < 0)) Y_8 m_8 r_8, vf h_7 (decide (x < 0)) X_7 l_7 q_7 (decide (y < 0)) Y_7 m_7 r_7, vf (w.heap.size + 1 + 1) x5 A5 n5 c5 x6 A6 n6 c6, vf (w.heap.size + 1) x3 A3 n3 c3 x4 A4 n4 c4, vf w.heap.size x1 A1 n1 c1 x2 A2 n2 c2] [(decide (p < 0), X_10, l_10, q_10, p, true), (decide (q < 0), Y_10, m_10, r_10, q, true), (decide (p < 0), X_9, l_9, q_9, p, true), (decide (q < 0), Y_9, m_9, r_9, q, true), (decide (x < 0), X_8, l_8, q_8, x, true), (decide (y < 0), Y_8, m_8, r_8, y, true), (decide (x < 0), X_7, l_7, q_7, x, true), (decide (y < 0), Y_7, m_7, r_7, y, true), (x6, A6, n6, c6, f, false), (x5, A5, n5, c5, e, false), (x4, A4, n4, c4, d, false), (x3, A3, n3, c3, c, false), (x2, A2, n2, c2, b, false), (x1, A1, n1, c1, a, false)])
    case first =>
      have KZ := KN9
      clear KN9
      obtain ⟨_, _, _, ⟨o0, o1, o2, o3⟩, ⟨o4, o5, o6, o7⟩, ⟨o8, o9, oa, ob⟩, _⟩ := KZ.facts
      skip
      refine wp_region_held_drew (S := fun w' => w'.cell? ⟨w.heap.size + 1 + 1, 0, none⟩ = some (.bool x5) ∧ w'.cell? ⟨w.heap.size + 1 + 1, 1, none⟩ = some (.slice A5 n5 c5) ∧ w'.cell? ⟨w.heap.size + 1 + 1, 2, none⟩ = some (.bool x6) ∧ w'.cell? ⟨w.heap.size + 1 + 1, 3, none⟩ = some (.slice A6 n6 c6) ∧ w'.cell? ⟨w.heap.size + 1, 0, none⟩ = some (.bool x3) ∧ w'.cell? ⟨w.heap.size + 1, 1, none⟩ = some (.slice A3 n3 c3) ∧ w'.cell? ⟨w.heap.size + 1, 2, none⟩ = some (.bool x4) ∧ w'.cell? ⟨w.heap.size + 1, 3, none⟩ = some (.slice A4 n4 c4) ∧ w'.cell? ⟨w.heap.size, 0, none⟩ = some (.bool x1) ∧ w'.cell? ⟨w.heap.size, 1, none⟩ = some (.slice A1 n1 c1) ∧ w'.cell? ⟨w.heap.size, 2, none⟩ = some (.bool x2) ∧ w'.cell? ⟨w.heap.size, 3, none⟩ = some (.slice A2 n2 c2)) (by kernel_rfl) ?_ (fun hHeld0 => ?_)
      · ((try dsimp only); go_keep)
      refine wpAnyH_take (i := 0) (oi := ⟨some 37, _, _, _, _, _⟩) (v := ?_) rfl (by kernel_rfl) (by kernel_rfl) (by kernel_rfl) (fun _ _ _ h => h) (Or.inl ⟨by rfl, ?_⟩) (by assumption) ?_
      rotate_left
      · (intro w' hSw; (try dsimp only at hSw); go_simp; (try with_reducible rfl))
      (try simp only [Act.put, List.setIfInBounds_toArray, List.set_cons_zero, List.set_cons_succ])
      refine wpAnyH_take (i := 1) (oi := ⟨some 38, _, _, _, _, _⟩) (v := ?_) rfl (by kernel_rfl) (by kernel_rfl) (by kernel_rfl) (fun _ _ _ h => h) (Or.inl ⟨by rfl, ?_⟩) (by assumption) ?_
      rotate_left
      · (intro w' hSw; (try dsimp only at hSw); go_simp; (try with_reducible rfl))
      (try simp only [Act.put, List.setIfInBounds_toArray, List.set_cons_zero, List.set_cons_succ])
      refine wpAnyH_take (i := 2) (oi := ⟨some 39, _, _, _, _, _⟩) (v := ?_) rfl (by kernel_rfl) (by kernel_rfl) (by kernel_rfl) (fun _ _ _ h => h) (Or.inl ⟨by rfl, ?_⟩) (by assumption) ?_
      rotate_left
      · (intro w' hSw; (try dsimp only at hSw); go_simp; (try with_reducible rfl))
      (try simp only [Act.put, List.setIfInBounds_toArray, List.set_cons_zero, List.set_cons_succ])
      refine wpAnyH_ready (rs := [3, 5]) (by kernel_rfl) (by simp) ?_
      refine AllReadyH.cons (o := ⟨some 40, _, _, _, _, _⟩) rfl (fun K hK => ?_) ?_
      · skip
        go_simp
        have g3_0 := KZ.drew.ints.2.2.2.2.2.2.2.2.2.1.i
        have g3_1 := KZ.drew.ints.2.2.2.2.2.2.2.2.1.i
        have g3_2 := KZ.drew.ints.2.2.2.2.2.2.2.1.i
        have g3_3 := KZ.drew.ints.2.2.2.2.2.2.1.i
        (go_at_call_of 44 (Value.agg #[Value.bool x3, Value.slice A3 n3 c3, Value.bool x4, Value.slice A4 n4 c4]); (with_reducible refine (fadd_at g3_0 g3_1 g3_2 g3_3 z_c z_d z_e z_f).mono ?_); rw [HS1.out.1, HS1.out.2]; rintro ee w3 ⟨X3, l3, q3, Y3, m3, r3, rfl, d3, h3, v3⟩)
        (try go_wp2_with fail)
        have K3 := ((KZ.drew.call v3).add h3).add d3
        obtain ⟨_, _, _, ⟨p0c0n1, p0c1n1, p0c2n1, p0c3n1⟩, ⟨p1c0n1, p1c1n1, p1c2n1, p1c3n1⟩, ⟨p2c0n1, p2c1n1, p2c2n1, p2c3n1⟩, _⟩ := K3.facts
        refine hK.out _ _ ?_ (fun hHeld1 => ?_)
        · ((try dsimp only); first | go_keep | (trace_state; fail))
        clear hK K hHeld0
        (try simp only [Act.put, List.setIfInBounds_toArray, List.set_cons_zero, List.set_cons_succ])
        refine wpAnyH_ready (rs := [4, 5]) (by kernel_rfl) (by simp) ?_
        refine AllReadyH.cons (o := ⟨some 41, _, _, _, _, _⟩) rfl (fun K hK => ?_) ?_
        · skip
          go_simp
          have g4_0 := K3.ints.2.2.2.2.2.2.2.2.2.2.2.2.2.1.i
          have g4_1 := K3.ints.2.2.2.2.2.2.2.2.2.2.2.2.1.i
          have g4_2 := K3.ints.1.ci k_s
          have g4_3 := K3.ints.2.1.ci k_t
          (go_at_call_of 44 (Value.agg #[Value.bool x1, Value.slice A1 n1 c1, Value.bool x2, Value.slice A2 n2 c2]); (with_reducible refine (fadd_at g4_0 g4_1 g4_2 g4_3 z_a z_b z_s z_t).mono ?_); rw [HQ.out.1, HQ.out.2]; rintro ee w4 ⟨X4, l4, q4, Y4, m4, r4, rfl, d4, h4, v4⟩)
          (try go_wp2_with fail)
          have K4 := ((K3.call v4).add h4).add d4
          clear p0c0n1 p0c1n1 p0c2n1 p0c3n1 p1c0n1 p1c1n1 p1c2n1 p1c3n1 p2c0n1 p2c1n1 p2c2n1 p2c3n1
          obtain ⟨_, _, _, ⟨p0c0n2, p0c1n2, p0c2n2, p0c3n2⟩, ⟨p1c0n2, p1c1n2, p1c2n2, p1c3n2⟩, ⟨p2c0n2, p2c1n2, p2c2n2, p2c3n2⟩, _⟩ := K4.facts
          refine hK.out _ _ ?_ (fun hHeld2 => ?_)
          · ((try dsimp only); first | go_keep | (trace_state; fail))
          clear hK K hHeld1
          (try simp only [Act.put, List.setIfInBounds_toArray, List.set_cons_zero, List.set_cons_succ])
          refine wpAnyH_ready (rs := [5]) (by kernel_rfl) (by simp) ?_
          refine AllReadyH.cons (o := ⟨some 10, _, _, _, _, _⟩) rfl (fun K hK => ?_) AllReadyH.nil
          go_simp
          have KA := K4.new 42 (Plains.four false none 0 0 false none 0 0)
          (try simp only [World.size_alloc] at KA)
          obtain ⟨⟨b0n3, b1n3, b2n3, b3n3⟩, _, _, _, ⟨p0c0n3, p0c1n3, p0c2n3, p0c3n3⟩, ⟨p1c0n3, p1c1n3, p1c2n3, p1c3n3⟩, ⟨p2c0n3, p2c1n3, p2c2n3, p2c3n3⟩, _⟩ := KA.facts
          obtain ⟨f0n3, f1n3, f2n3, f3n3⟩ := KA.free (i := 0) rfl
          obtain ⟨e0xn3, e0yn3⟩ := KA.ne 0 4 rfl rfl (by decide)
          obtain ⟨e1xn3, e1yn3⟩ := KA.ne 0 5 rfl rfl (by decide)
          obtain ⟨e2xn3, e2yn3⟩ := KA.ne 0 6 rfl rfl (by decide)
          refine hK.out _ _ ?_ (fun hHeld3 => ?_)
          · ((try dsimp only); first | go_keep | (trace_state; fail))
          clear hK K hHeld2
          (try simp only [Act.put, List.setIfInBounds_toArray, List.set_cons_zero, List.set_cons_succ])
          refine wpAnyH_ready (rs := [6]) (by kernel_rfl) (by simp) ?_
          refine AllReadyH.cons (o := ⟨none, _, _, _, _, _⟩) rfl (fun K hK => ?_) AllReadyH.nil
          go_simp
          refine hK.out _ _ ?_ (fun hHeld4 => ?_)
          · ((try dsimp only); first | go_keep | (trace_state; fail))
          clear hK K hHeld3
          (try simp only [Act.put, List.setIfInBounds_toArray, List.set_cons_zero, List.set_cons_succ])
          refine wpAnyH_done (by kernel_rfl) ?_ _
          go_wp2_with fail
          go_meet
          have KF := K4.new 42 (Plains.four (decide (p < 0)) X4 l4 q4 (decide (q < 0)) Y4 m4 r4)
          (try simp only [List.set, World.size_alloc, World.size_setCell] at KF)
          exact ⟨_, X4, l4, q4, Y4, m4, r4, rfl, KF.ints_ ⟨KF.ints.1, KF.ints.2.1, KF.ints.2.2.2.2.1, KF.ints.2.2.2.2.2.1, KF.ints.2.2.2.2.2.2.1, KF.ints.2.2.2.2.2.2.2.1, KF.ints.2.2.2.2.2.2.2.2.1, KF.ints.2.2.2.2.2.2.2.2.2.1, KF.ints.2.2.2.2.2.2.2.2.2.2.1, KF.ints.2.2.2.2.2.2.2.2.2.2.2.1, KF.ints.2.2.2.2.2.2.2.2.2.2.2.2.1, KF.ints.2.2.2.2.2.2.2.2.2.2.2.2.2.1, KF.ints.2.2.2.2.2.2.2.2.2.2.2.2.2.2.1, KF.ints.2.2.2.2.2.2.2.2.2.2.2.2.2.2.2.1, trivial⟩⟩
        refine AllReadyH.cons (o := ⟨some 10, _, _, _, _, _⟩) rfl (fun K hK => ?_) AllReadyH.nil
        go_simp
        have KA := K3.new 42 (Plains.four false none 0 0 false none 0 0)
        (try simp only [World.size_alloc] at KA)
        obtain ⟨⟨b0n2, b1n2, b2n2, b3n2⟩, _, _, _, ⟨p0c0n2, p0c1n2, p0c2n2, p0c3n2⟩, ⟨p1c0n2, p1c1n2, p1c2n2, p1c3n2⟩, ⟨p2c0n2, p2c1n2, p2c2n2, p2c3n2⟩, _⟩ := KA.facts
        obtain ⟨f0n2, f1n2, f2n2, f3n2⟩ := KA.free (i := 0) rfl
        obtain ⟨e0xn2, e0yn2⟩ := KA.ne 0 4 rfl rfl (by decide)
        obtain ⟨e1xn2, e1yn2⟩ := KA.ne 0 5 rfl rfl (by decide)
        obtain ⟨e2xn2, e2yn2⟩ := KA.ne 0 6 rfl rfl (by decide)
        refine hK.out _ _ ?_ (fun hHeld2 => ?_)
        · ((try dsimp only); first | go_keep | (trace_state; fail))
        clear hK K hHeld1
        (try simp only [Act.put, List.setIfInBounds_toArray, List.set_cons_zero, List.set_cons_succ])
        refine wpAnyH_ready (rs := [4]) (by kernel_rfl) (by simp) ?_
        refine AllReadyH.cons (o := ⟨some 41, _, _, _, _, _⟩) rfl (fun K hK => ?_) AllReadyH.nil
        go_simp
        have g4_0 := KA.ints.2.2.2.2.2.2.2.2.2.2.2.2.2.1.i
        have g4_1 := KA.ints.2.2.2.2.2.2.2.2.2.2.2.2.1.i
        have g4_2 := KA.ints.1.ci k_s
        have g4_3 := KA.ints.2.1.ci k_t
        (go_at_call_of 44 (Value.agg #[Value.bool x1, Value.slice A1 n1 c1, Value.bool x2, Value.slice A2 n2 c2]); (with_reducible refine (fadd_at g4_0 g4_1 g4_2 g4_3 z_a z_b z_s z_t).mono ?_); rw [HQ.out.1, HQ.out.2]; rintro ee w4 ⟨X4, l4, q4, Y4, m4, r4, rfl, d4, h4, v4⟩)
        (try go_wp2_with fail)
        have K4 := ((KA.call v4).add h4).add d4
        clear p0c0n1 p0c1n1 p0c2n1 p0c3n1 p1c0n1 p1c1n1 p1c2n1 p1c3n1 p2c0n1 p2c1n1 p2c2n1 p2c3n1 b0n2 b1n2 b2n2 b3n2 p0c0n2 p0c1n2 p0c2n2 p0c3n2 p1c0n2 p1c1n2 p1c2n2 p1c3n2 p2c0n2 p2c1n2 p2c2n2 p2c3n2 f0n2 f1n2 f2n2 f3n2 e0xn2 e0yn2 e1xn2 e1yn2 e2xn2 e2yn2
        obtain ⟨⟨b0n3, b1n3, b2n3, b3n3⟩, _, _, _, ⟨p0c0n3, p0c1n3, p0c2n3, p0c3n3⟩, ⟨p1c0n3, p1c1n3, p1c2n3, p1c3n3⟩, ⟨p2c0n3, p2c1n3, p2c2n3, p2c3n3⟩, _⟩ := K4.facts
        obtain ⟨f0n3, f1n3, f2n3, f3n3⟩ := K4.free (i := 0) rfl
        obtain ⟨e0xn3, e0yn3⟩ := K4.ne 0 4 rfl rfl (by decide)
        obtain ⟨e1xn3, e1yn3⟩ := K4.ne 0 5 rfl rfl (by decide)
        obtain ⟨e2xn3, e2yn3⟩ := K4.ne 0 6 rfl rfl (by decide)
        refine hK.out _ _ ?_ (fun hHeld3 => ?_)
        · ((try dsimp only); first | go_keep | (trace_state; fail))
        clear hK K hHeld2
        (try simp only [Act.put, List.setIfInBounds_toArray, List.set_cons_zero, List.set_cons_succ])
        refine wpAnyH_ready (rs := [6]) (by kernel_rfl) (by simp) ?_
        refine AllReadyH.cons (o := ⟨none, _, _, _, _, _⟩) rfl (fun K hK => ?_) AllReadyH.nil
        go_simp
        refine hK.out _ _ ?_ (fun hHeld4 => ?_)
        · ((try dsimp only); first | go_keep | (trace_state; fail))
        clear hK K hHeld3
        (try simp only [Act.put, List.setIfInBounds_toArray, List.set_cons_zero, List.set_cons_succ])
        refine wpAnyH_done (by kernel_rfl) ?_ _
        go_wp2_with fail
        go_meet
        have KF := K4.put4 0 rfl (decide (p < 0)) X4 l4 q4 (decide (q < 0)) Y4 m4 r4
        (try simp only [List.set, World.size_alloc, World.size_setCell] at KF)
        exact ⟨_, X4, l4, q4, Y4, m4, r4, rfl, KF.ints_ ⟨KF.ints.1, KF.ints.2.1, KF.ints.2.2.2.2.1, KF.ints.2.2.2.2.2.1, KF.ints.2.2.2.2.2.2.1, KF.ints.2.2.2.2.2.2.2.1, KF.ints.2.2.2.2.2.2.2.2.1, KF.ints.2.2.2.2.2.2.2.2.2.1, KF.ints.2.2.2.2.2.2.2.2.2.2.1, KF.ints.2.2.2.2.2.2.2.2.2.2.2.1, KF.ints.2.2.2.2.2.2.2.2.2.2.2.2.1, KF.ints.2.2.2.2.2.2.2.2.2.2.2.2.2.1, KF.ints.2.2.2.2.2.2.2.2.2.2.2.2.2.2.1, KF.ints.2.2.2.2.2.2.2.2.2.2.2.2.2.2.2.1, trivial⟩⟩
      refine AllReadyH.cons (o := ⟨some 10, _, _, _, _, _⟩) rfl (fun K hK => ?_) AllReadyH.nil
      go_simp
      have KA := KZ.new 42 (Plains.four false none 0 0 false none 0 0)
      (try simp only [World.size_alloc] at KA)
      obtain ⟨⟨b0n1, b1n1, b2n1, b3n1⟩, _, _, _, ⟨p0c0n1, p0c1n1, p0c2n1, p0c3n1⟩, ⟨p1c0n1, p1c1n1, p1c2n1, p1c3n1⟩, ⟨p2c0n1, p2c1n1, p2c2n1, p2c3n1⟩, _⟩ := KA.facts
      obtain ⟨f0n1, f1n1, f2n1, f3n1⟩ := KA.free (i := 0) rfl
      obtain ⟨e0xn1, e0yn1⟩ := KA.ne 0 4 rfl rfl (by decide)
      obtain ⟨e1xn1, e1yn1⟩ := KA.ne 0 5 rfl rfl (by decide)
      obtain ⟨e2xn1, e2yn1⟩ := KA.ne 0 6 rfl rfl (by decide)
      refine hK.out _ _ ?_ (fun hHeld1 => ?_)
      · ((try dsimp only); first | go_keep | (trace_state; fail))
      clear hK K hHeld0
      (try simp only [Act.put, List.setIfInBounds_toArray, List.set_cons_zero, List.set_cons_succ])
      refine wpAnyH_ready (rs := [3]) (by kernel_rfl) (by simp) ?_
      refine AllReadyH.cons (o := ⟨some 40, _, _, _, _, _⟩) rfl (fun K hK => ?_) AllReadyH.nil
      go_simp
      have g3_0 := KA.drew.ints.2.2.2.2.2.2.2.2.2.1.i
      have g3_1 := KA.drew.ints.2.2.2.2.2.2.2.2.1.i
      have g3_2 := KA.drew.ints.2.2.2.2.2.2.2.1.i
      have g3_3 := KA.drew.ints.2.2.2.2.2.2.1.i
      (go_at_call_of 44 (Value.agg #[Value.bool x3, Value.slice A3 n3 c3, Value.bool x4, Value.slice A4 n4 c4]); (with_reducible refine (fadd_at g3_0 g3_1 g3_2 g3_3 z_c z_d z_e z_f).mono ?_); rw [HS1.out.1, HS1.out.2]; rintro ee w3 ⟨X3, l3, q3, Y3, m3, r3, rfl, d3, h3, v3⟩)
      (try go_wp2_with fail)
      have K3 := ((KA.drew.call v3).add h3).add d3
      clear b0n1 b1n1 b2n1 b3n1 p0c0n1 p0c1n1 p0c2n1 p0c3n1 p1c0n1 p1c1n1 p1c2n1 p1c3n1 p2c0n1 p2c1n1 p2c2n1 p2c3n1 f0n1 f1n1 f2n1 f3n1 e0xn1 e0yn1 e1xn1 e1yn1 e2xn1 e2yn1
      obtain ⟨⟨b0n2, b1n2, b2n2, b3n2⟩, _, _, _, ⟨p0c0n2, p0c1n2, p0c2n2, p0c3n2⟩, ⟨p1c0n2, p1c1n2, p1c2n2, p1c3n2⟩, ⟨p2c0n2, p2c1n2, p2c2n2, p2c3n2⟩, _⟩ := K3.facts
      obtain ⟨f0n2, f1n2, f2n2, f3n2⟩ := K3.free (i := 0) rfl
      obtain ⟨e0xn2, e0yn2⟩ := K3.ne 0 4 rfl rfl (by decide)
      obtain ⟨e1xn2, e1yn2⟩ := K3.ne 0 5 rfl rfl (by decide)
      obtain ⟨e2xn2, e2yn2⟩ := K3.ne 0 6 rfl rfl (by decide)
      refine hK.out _ _ ?_ (fun hHeld2 => ?_)
      · ((try dsimp only); first | go_keep | (trace_state; fail))
      clear hK K hHeld1
      (try simp only [Act.put, List.setIfInBounds_toArray, List.set_cons_zero, List.set_cons_succ])
      refine wpAnyH_ready (rs := [4]) (by kernel_rfl) (by simp) ?_
      refine AllReadyH.cons (o := ⟨some 41, _, _, _, _, _⟩) rfl (fun K hK => ?_) AllReadyH.nil
      go_simp
      have g4_0 := K3.ints.2.2.2.2.2.2.2.2.2.2.2.2.2.1.i
      have g4_1 := K3.ints.2.2.2.2.2.2.2.2.2.2.2.2.1.i
      have g4_2 := K3.ints.1.ci k_s
      have g4_3 := K3.ints.2.1.ci k_t
      (go_at_call_of 44 (Value.agg #[Value.bool x1, Value.slice A1 n1 c1, Value.bool x2, Value.slice A2 n2 c2]); (with_reducible refine (fadd_at g4_0 g4_1 g4_2 g4_3 z_a z_b z_s z_t).mono ?_); rw [HQ.out.1, HQ.out.2]; rintro ee w4 ⟨X4, l4, q4, Y4, m4, r4, rfl, d4, h4, v4⟩)
      (try go_wp2_with fail)
      have K4 := ((K3.call v4).add h4).add d4
      clear b0n2 b1n2 b2n2 b3n2 p0c0n2 p0c1n2 p0c2n2 p0c3n2 p1c0n2 p1c1n2 p1c2n2 p1c3n2 p2c0n2 p2c1n2 p2c2n2 p2c3n2 f0n2 f1n2 f2n2 f3n2 e0xn2 e0yn2 e1xn2 e1yn2 e2xn2 e2yn2
      obtain ⟨⟨b0n3, b1n3, b2n3, b3n3⟩, _, _, _, ⟨p0c0n3, p0c1n3, p0c2n3, p0c3n3⟩, ⟨p1c0n3, p1c1n3, p1c2n3, p1c3n3⟩, ⟨p2c0n3, p2c1n3, p2c2n3, p2c3n3⟩, _⟩ := K4.facts
      obtain ⟨f0n3, f1n3, f2n3, f3n3⟩ := K4.free (i := 0) rfl
      obtain ⟨e0xn3, e0yn3⟩ := K4.ne 0 4 rfl rfl (by decide)
      obtain ⟨e1xn3, e1yn3⟩ := K4.ne 0 5 rfl rfl (by decide)
      obtain ⟨e2xn3, e2yn3⟩ := K4.ne 0 6 rfl rfl (by decide)
      refine hK.out _ _ ?_ (fun hHeld3 => ?_)
      · ((try dsimp only); first | go_keep | (trace_state; fail))
      clear hK K hHeld2
      (try simp only [Act.put, List.setIfInBounds_toArray, List.set_cons_zero, List.set_cons_succ])
      refine wpAnyH_ready (rs := [6]) (by kernel_rfl) (by simp) ?_
      refine AllReadyH.cons (o := ⟨none, _, _, _, _, _⟩) rfl (fun K hK => ?_) AllReadyH.nil
      go_simp
      refine hK.out _ _ ?_ (fun hHeld4 => ?_)
      · ((try dsimp only); first | go_keep | (trace_state; fail))
      clear hK K hHeld3
      (try simp only [Act.put, List.setIfInBounds_toArray, List.set_cons_zero, List.set_cons_succ])
      refine wpAnyH_done (by kernel_rfl) ?_ _
      go_wp2_with fail
      go_meet
      have KF := K4.put4 0 rfl (decide (p < 0)) X4 l4 q4 (decide (q < 0)) Y4 m4 r4
      (try simp only [List.set, World.size_alloc, World.size_setCell] at KF)
      exact ⟨_, X4, l4, q4, Y4, m4, r4, rfl, KF.ints_ ⟨KF.ints.1, KF.ints.2.1, KF.ints.2.2.2.2.1, KF.ints.2.2.2.2.2.1, KF.ints.2.2.2.2.2.2.1, KF.ints.2.2.2.2.2.2.2.1, KF.ints.2.2.2.2.2.2.2.2.1, KF.ints.2.2.2.2.2.2.2.2.2.1, KF.ints.2.2.2.2.2.2.2.2.2.2.1, KF.ints.2.2.2.2.2.2.2.2.2.2.2.1, KF.ints.2.2.2.2.2.2.2.2.2.2.2.2.1, KF.ints.2.2.2.2.2.2.2.2.2.2.2.2.2.1, KF.ints.2.2.2.2.2.2.2.2.2.2.2.2.2.2.1, KF.ints.2.2.2.2.2.2.2.2.2.2.2.2.2.2.2.1, trivial⟩⟩
    case rest =>
    clear KN9
    obtain ⟨h_10, X_10, l_10, q_10, Y_10, m_10, r_10, rfl, KN10⟩ := hcut
    clear hlight
    go_upto_region 7 with fail
    have KL := KN10.drew
    clear KN10
    obtain ⟨⟨pA0, pA1, pA2, pA3⟩, ⟨pB0, pB1, pB2, pB3⟩, ⟨pC0, pC1, pC2, pC3⟩, ⟨pD0, pD1, pD2, pD3⟩, ⟨pE0, pE1, pE2, pE3⟩, ⟨pF0, pF1, pF2, pF3⟩, ⟨pG0, pG1, pG2, pG3⟩, _⟩ := KL.facts
    have If := KL.ints.2.2.2.2.2.2.2.2.1.i
    have Ie := KL.ints.2.2.2.2.2.2.2.2.2.1.i
    have Id := KL.ints.2.2.2.2.2.2.2.2.2.2.1.i
    have Ic := KL.ints.2.2.2.2.2.2.2.2.2.2.2.1.i
    have Ib := KL.ints.2.2.2.2.2.2.2.2.2.2.2.2.1.i
    have Ia := KL.ints.2.2.2.2.2.2.2.2.2.2.2.2.2.1.i
    have j1 := KL.ints.1.c
    have j2 := KL.ints.2.1.c
    have j3 := KL.ints.2.2.1.c
    have j4 := KL.ints.2.2.2.1.c
    have j5 := KL.ints.2.2.2.2.1.c
    have j6 := KL.ints.2.2.2.2.2.1.c
    have j7 := KL.ints.2.2.2.2.2.2.1.c
    have j8 := KL.ints.2.2.2.2.2.2.2.1.c
    go_region_held3 (fun w' => w'.cell? ⟨h_10, 0, none⟩ = some (.bool (decide (p < 0))) ∧ w'.cell? ⟨h_10, 1, none⟩ = some (.slice X_10 l_10 q_10) ∧ w'.cell? ⟨h_10, 2, none⟩ = some (.bool (decide (q < 0))) ∧ w'.cell? ⟨h_10, 3, none⟩ = some (.slice Y_10 m_10 r_10) ∧ w'.cell? ⟨h_9, 0, none⟩ = some (.bool (decide (p < 0))) ∧ w'.cell? ⟨h_9, 1, none⟩ = some (.slice X_9 l_9 q_9) ∧ w'.cell? ⟨h_9, 2, none⟩ = some (.bool (decide (q < 0))) ∧ w'.cell? ⟨h_9, 3, none⟩ = some (.slice Y_9 m_9 r_9) ∧ w'.cell? ⟨h_8, 0, none⟩ = some (.bool (decide (x < 0))) ∧ w'.cell? ⟨h_8, 1, none⟩ = some (.slice X_8 l_8 q_8) ∧ w'.cell? ⟨h_8, 2, none⟩ = some (.bool (decide (y < 0))) ∧ w'.cell? ⟨h_8, 3, none⟩ = some (.slice Y_8 m_8 r_8) ∧ w'.cell? ⟨h_7, 0, none⟩ = some (.bool (decide (x < 0))) ∧ w'.cell? ⟨h_7, 1, none⟩ = some (.slice X_7 l_7 q_7) ∧ w'.cell? ⟨h_7, 2, none⟩ = some (.bool (decide (y < 0))) ∧ w'.cell? ⟨h_7, 3, none⟩ = some (.slice Y_7 m_7 r_7) ∧ w'.cell? ⟨w.heap.size + 1 + 1, 0, none⟩ = some (.bool x5) ∧ w'.cell? ⟨w.heap.size + 1 + 1, 1, none⟩ = some (.slice A5 n5 c5) ∧ w'.cell? ⟨w.heap.size + 1 + 1, 2, none⟩ = some (.bool x6) ∧ w'.cell? ⟨w.heap.size + 1 + 1, 3, none⟩ = some (.slice A6 n6 c6) ∧ w'.cell? ⟨w.heap.size + 1, 0, none⟩ = some (.bool x3) ∧ w'.cell? ⟨w.heap.size + 1, 1, none⟩ = some (.slice A3 n3 c3) ∧ w'.cell? ⟨w.heap.size + 1, 2, none⟩ = some (.bool x4) ∧ w'.cell? ⟨w.heap.size + 1, 3, none⟩ = some (.slice A4 n4 c4) ∧ w'.cell? ⟨w.heap.size, 0, none⟩ = some (.bool x1) ∧ w'.cell? ⟨w.heap.size, 1, none⟩ = some (.slice A1 n1 c1) ∧ w'.cell? ⟨w.heap.size, 2, none⟩ = some (.bool x2) ∧ w'.cell? ⟨w.heap.size, 3, none⟩ = some (.slice A2 n2 c2))
      (go_keep)
      (first
        | (go_at_call_of 39 (Value.agg #[Value.bool (decide (x < 0)), Value.slice X_7 l_7 q_7, Value.bool (decide (y < 0)), Value.slice Y_7 m_7 r_7]); (with_reducible refine (same2_at j7 j8 j5 j6).mono ?_); rintro ee wn ⟨rfl, gn⟩; have KM := KL.call gn; clear KL; have KL := KM; clear KM; clear pA0 pA1 pA2 pA3 pB0 pB1 pB2 pB3 pC0 pC1 pC2 pC3 pD0 pD1 pD2 pD3 pE0 pE1 pE2 pE3 pF0 pF1 pF2 pF3 pG0 pG1 pG2 pG3; obtain ⟨⟨pA0, pA1, pA2, pA3⟩, ⟨pB0, pB1, pB2, pB3⟩, ⟨pC0, pC1, pC2, pC3⟩, ⟨pD0, pD1, pD2, pD3⟩, ⟨pE0, pE1, pE2, pE3⟩, ⟨pF0, pF1, pF2, pF3⟩, ⟨pG0, pG1, pG2, pG3⟩, _⟩ := KL.facts; replace If := If.call gn; replace Ie := Ie.call gn; replace Id := Id.call gn; replace Ic := Ic.call gn; replace Ib := Ib.call gn; replace Ia := Ia.call gn; replace j1 := j1.call gn; replace j2 := j2.call gn; replace j3 := j3.call gn; replace j4 := j4.call gn)
        | (go_at_call_of 39 (Value.agg #[Value.bool (decide (p < 0)), Value.slice X_9 l_9 q_9, Value.bool (decide (q < 0)), Value.slice Y_9 m_9 r_9]); (with_reducible refine (same2_at j3 j4 j1 j2).mono ?_); rintro ee wn ⟨rfl, gn⟩; have KM := KL.call gn; clear KL; have KL := KM; clear KM; clear pA0 pA1 pA2 pA3 pB0 pB1 pB2 pB3 pC0 pC1 pC2 pC3 pD0 pD1 pD2 pD3 pE0 pE1 pE2 pE3 pF0 pF1 pF2 pF3 pG0 pG1 pG2 pG3; obtain ⟨⟨pA0, pA1, pA2, pA3⟩, ⟨pB0, pB1, pB2, pB3⟩, ⟨pC0, pC1, pC2, pC3⟩, ⟨pD0, pD1, pD2, pD3⟩, ⟨pE0, pE1, pE2, pE3⟩, ⟨pF0, pF1, pF2, pF3⟩, ⟨pG0, pG1, pG2, pG3⟩, _⟩ := KL.facts; replace If := If.call gn; replace Ie := Ie.call gn; replace Id := Id.call gn; replace Ic := Ic.call gn; replace Ib := Ib.call gn; replace Ia := Ia.call gn)
        | (go_at_call_of 44 (Value.agg #[Value.bool x1, Value.slice A1 n1 c1, Value.bool x2, Value.slice A2 n2 c2]); (with_reducible refine (fadd_at Ia Ib Ie If z_a z_b z_e z_f).mono ?_); rw [HU.out.1, HU.out.2]; rintro ee wn ⟨E1, l1, k1, E2, l2, k2, rfl, e1, e2, gn⟩; have KM := KL.call gn; clear KL; have KL := KM; clear KM; clear pA0 pA1 pA2 pA3 pB0 pB1 pB2 pB3 pC0 pC1 pC2 pC3 pD0 pD1 pD2 pD3 pE0 pE1 pE2 pE3 pF0 pF1 pF2 pF3 pG0 pG1 pG2 pG3; obtain ⟨⟨pA0, pA1, pA2, pA3⟩, ⟨pB0, pB1, pB2, pB3⟩, ⟨pC0, pC1, pC2, pC3⟩, ⟨pD0, pD1, pD2, pD3⟩, ⟨pE0, pE1, pE2, pE3⟩, ⟨pF0, pF1, pF2, pF3⟩, ⟨pG0, pG1, pG2, pG3⟩, _⟩ := KL.facts; replace If := If.call gn; replace Ie := Ie.call gn; replace Id := Id.call gn; replace Ic := Ic.call gn; replace Ib := Ib.call gn; replace Ia := Ia.call gn)
        | (go_at_call_of 44 (Value.agg #[Value.bool x3, Value.slice A3 n3 c3, Value.bool x4, Value.slice A4 n4 c4]); (with_reducible refine (fadd_at Ic Id Ie If z_c z_d z_e z_f).mono ?_); rw [HS1.out.1, HS1.out.2]; rintro ee wn ⟨E3, l3, k3, E4, l4, k4, rfl, e3, e4, gn⟩; have KM := KL.call gn; clear KL; have KL := KM; clear KM; clear pA0 pA1 pA2 pA3 pB0 pB1 pB2 pB3 pC0 pC1 pC2 pC3 pD0 pD1 pD2 pD3 pE0 pE1 pE2 pE3 pF0 pF1 pF2 pF3 pG0 pG1 pG2 pG3; obtain ⟨⟨pA0, pA1, pA2, pA3⟩, ⟨pB0, pB1, pB2, pB3⟩, ⟨pC0, pC1, pC2, pC3⟩, ⟨pD0, pD1, pD2, pD3⟩, ⟨pE0, pE1, pE2, pE3⟩, ⟨pF0, pF1, pF2, pF3⟩, ⟨pG0, pG1, pG2, pG3⟩, _⟩ := KL.facts; replace If := If.call gn; replace Ie := Ie.call gn; replace Id := Id.call gn; replace Ic := Ic.call gn; replace Ib := Ib.call gn; replace Ia := Ia.call gn; replace e1 := e1.call gn; replace e2 := e2.call gn; have t1 := e1.at_ k_u; have t2 := e2.at_ k_v; have t3 := e3.at_ k_s; have t4 := e4.at_ k_t)
        | (go_at_call_of 35 (Value.agg #[Value.bool x1, Value.slice A1 n1 c1, Value.bool x2, Value.slice A2 n2 c2]); (with_reducible refine (fcompare_at Ia Ib Ic Id zb_a zb_b zb_c zb_d).mono ?_); rw [HC.out]; rintro ee wn ⟨rfl, gn⟩; have KM := KL.call gn; clear KL; have KL := KM; clear KM; clear pA0 pA1 pA2 pA3 pB0 pB1 pB2 pB3 pC0 pC1 pC2 pC3 pD0 pD1 pD2 pD3 pE0 pE1 pE2 pE3 pF0 pF1 pF2 pF3 pG0 pG1 pG2 pG3; obtain ⟨⟨pA0, pA1, pA2, pA3⟩, ⟨pB0, pB1, pB2, pB3⟩, ⟨pC0, pC1, pC2, pC3⟩, ⟨pD0, pD1, pD2, pD3⟩, ⟨pE0, pE1, pE2, pE3⟩, ⟨pF0, pF1, pF2, pF3⟩, ⟨pG0, pG1, pG2, pG3⟩, _⟩ := KL.facts; replace If := If.call gn; replace Ie := Ie.call gn; replace Id := Id.call gn; replace Ic := Ic.call gn; replace Ib := Ib.call gn; replace Ia := Ia.call gn)
        | (go_at_call 35; (with_reducible refine (fcompare_at t1 t2 t3 t4 zb_u zb_v zb_s zb_t).mono ?_); rw [HO.out]; rintro ee wn ⟨rfl, gn⟩; have KM := KL.call gn; clear KL; have KL := KM; clear KM; clear pA0 pA1 pA2 pA3 pB0 pB1 pB2 pB3 pC0 pC1 pC2 pC3 pD0 pD1 pD2 pD3 pE0 pE1 pE2 pE3 pF0 pF1 pF2 pF3 pG0 pG1 pG2 pG3; obtain ⟨⟨pA0, pA1, pA2, pA3⟩, ⟨pB0, pB1, pB2, pB3⟩, ⟨pC0, pC1, pC2, pC3⟩, ⟨pD0, pD1, pD2, pD3⟩, ⟨pE0, pE1, pE2, pE3⟩, ⟨pF0, pF1, pF2, pF3⟩, ⟨pG0, pG1, pG2, pG3⟩, _⟩ := KL.facts; replace If := If.call gn; replace Ie := Ie.call gn; replace Id := Id.call gn; replace Ic := Ic.call gn; replace Ib := Ib.call gn; replace Ia := Ia.call gn)
        | fail)
    obtain ⟨sg, HSG⟩ : ∃ v, Hid (sgn c * sgn d = v) := ⟨_, rfl⟩
    by_cases hcd : c = 0 ∨ d = 0
    · have hsg : Hid (sg = 0) := by unfold Hid; rw [← HSG.out]; rcases hcd with h | h <;> rw [sgn_eq_zero.2 h] <;> simp
      clear hcd
      go_wp2_with (first
        | (go_at_call 37; (with_reducible refine (fsign_at Ic Id).mono ?_); rw [HSG.out, hsg.out]; rintro ee wn ⟨rfl, gn⟩; have KM := KL.call gn; clear KL; have KL := KM; clear KM; clear pA0 pA1 pA2 pA3 pB0 pB1 pB2 pB3 pC0 pC1 pC2 pC3 pD0 pD1 pD2 pD3 pE0 pE1 pE2 pE3 pF0 pF1 pF2 pF3 pG0 pG1 pG2 pG3; obtain ⟨⟨pA0, pA1, pA2, pA3⟩, ⟨pB0, pB1, pB2, pB3⟩, ⟨pC0, pC1, pC2, pC3⟩, ⟨pD0, pD1, pD2, pD3⟩, ⟨pE0, pE1, pE2, pE3⟩, ⟨pF0, pF1, pF2, pF3⟩, ⟨pG0, pG1, pG2, pG3⟩, _⟩ := KL.facts; replace If := If.call gn; replace Ie := Ie.call gn; replace Id := Id.call gn; replace Ic := Ic.call gn; replace Ib := Ib.call gn; replace Ia := Ia.call gn)
        | (go_at_call 32; (with_reducible refine (awake2_any _).mono ?_); rintro ee wn ⟨rfl, gn⟩; have KM := KL.call gn; clear KL; have KL := KM; clear KM; clear pA0 pA1 pA2 pA3 pB0 pB1 pB2 pB3 pC0 pC1 pC2 pC3 pD0 pD1 pD2 pD3 pE0 pE1 pE2 pE3 pF0 pF1 pF2 pF3 pG0 pG1 pG2 pG3; obtain ⟨⟨pA0, pA1, pA2, pA3⟩, ⟨pB0, pB1, pB2, pB3⟩, ⟨pC0, pC1, pC2, pC3⟩, ⟨pD0, pD1, pD2, pD3⟩, ⟨pE0, pE1, pE2, pE3⟩, ⟨pF0, pF1, pF2, pF3⟩, ⟨pG0, pG1, pG2, pG3⟩, _⟩ := KL.facts; replace If := If.call gn; replace Ie := Ie.call gn; replace Id := Id.call gn; replace Ic := Ic.call gn; replace Ib := Ib.call gn; replace Ia := Ia.call gn)
        | fail)
      go_ret
      exact ⟨rfl, KL.below⟩
    · have hsg : ((sg : Int) != 0) = true := by
        rw [← HSG.out]
        have : sgn c * sgn d ≠ 0 := mul_ne (fun h => hcd (Or.inl (sgn_eq_zero.1 h))) (fun h => hcd (Or.inr (sgn_eq_zero.1 h)))
        simpa using this
      have hsg2 : ((sg : Int) == 0) = false := by
        rw [← HSG.out]
        have : sgn c * sgn d ≠ 0 := mul_ne (fun h => hcd (Or.inl (sgn_eq_zero.1 h))) (fun h => hcd (Or.inr (sgn_eq_zero.1 h)))
        simpa using this
      have hsg3 : ¬ sg = 0 := by simpa using hsg
      obtain ⟨o, HOn⟩ : ∃ v, Hid (rn (a * d) (b * c) = v) := ⟨_, rfl⟩
      obtain ⟨r, HOd⟩ : ∃ v, Hid (rd (a * d) (b * c) = v) := ⟨_, rfl⟩
      obtain ⟨vn, HVn⟩ : ∃ v, Hid (rn (o * c) (r * d) = v) := ⟨_, rfl⟩
      obtain ⟨vd, HVd⟩ : ∃ v, Hid (rd (o * c) (r * d) = v) := ⟨_, rfl⟩
      have HDV : Hid (dvN a b c d = o ∧ dvD a b c d = r ∧ dvE c d = 0) := by unfold Hid dvN dvD dvE; rw [if_neg hcd, if_neg hcd, if_neg hcd]; exact ⟨HOn.out, HOd.out, rfl⟩
      have HFD : Hid (cmpI (un vn vd * ud a b) (un a b * ud vn vd) = 0) := by
        unfold Hid; rw [← HVn.out, ← HVd.out, ← HOn.out, ← HOd.out]; exact fld_div a b c d (fun h => hcd (Or.inl h)) (fun h => hcd (Or.inr h))
      have zor := sz_rm yall.1 yall.2.1 yall.2.2.2 yall.2.2.1 (by decide)
      rw [HOn.out, HOd.out] at zor
      have z_o : Sz o 900 := zor.1.mono (by decide)
      have z_r : Sz r 900 := zor.2.mono (by decide)
      have zvv := sz_rm zor.1 zor.2 yall.2.2.1 yall.2.2.2 (by decide)
      rw [HVn.out, HVd.out] at zvv
      have zb_vn : Sz vn 2000 := zvv.1.mono (by decide)
      have zb_vd : Sz vd 2000 := zvv.2.mono (by decide)
      have k_o := z_o.ok
      have k_r := z_r.ok
      have k_vn := zb_vn.ok
      have k_vd := zb_vd.ok
      clear hcd zor zvv
      go_upto_region 11 with (first
        | (go_at_call 37; (with_reducible refine (fsign_at Ic Id).mono ?_); rw [HSG.out]; rintro ee wn ⟨rfl, gn⟩; have KM := KL.call gn; clear KL; have KL := KM; clear KM; clear pA0 pA1 pA2 pA3 pB0 pB1 pB2 pB3 pC0 pC1 pC2 pC3 pD0 pD1 pD2 pD3 pE0 pE1 pE2 pE3 pF0 pF1 pF2 pF3 pG0 pG1 pG2 pG3; obtain ⟨⟨pA0, pA1, pA2, pA3⟩, ⟨pB0, pB1, pB2, pB3⟩, ⟨pC0, pC1, pC2, pC3⟩, ⟨pD0, pD1, pD2, pD3⟩, ⟨pE0, pE1, pE2, pE3⟩, ⟨pF0, pF1, pF2, pF3⟩, ⟨pG0, pG1, pG2, pG3⟩, _⟩ := KL.facts; replace If := If.call gn; replace Ie := Ie.call gn; replace Id := Id.call gn; replace Ic := Ic.call gn; replace Ib := Ib.call gn; replace Ia := Ia.call gn)
        | (go_at_call 33; (with_reducible refine (fdiv_at Ia Ib Ic Id z_a z_b z_c z_d).mono ?_); rw [HDV.out.1, HDV.out.2.1, HDV.out.2.2]; rintro ee wn ⟨D1, o1, r1, D2, o2, r2, rfl, e1, e2, gn⟩; have KM := KL.call gn; clear KL; have KL := KM; clear KM; clear pA0 pA1 pA2 pA3 pB0 pB1 pB2 pB3 pC0 pC1 pC2 pC3 pD0 pD1 pD2 pD3 pE0 pE1 pE2 pE3 pF0 pF1 pF2 pF3 pG0 pG1 pG2 pG3; obtain ⟨⟨pA0, pA1, pA2, pA3⟩, ⟨pB0, pB1, pB2, pB3⟩, ⟨pC0, pC1, pC2, pC3⟩, ⟨pD0, pD1, pD2, pD3⟩, ⟨pE0, pE1, pE2, pE3⟩, ⟨pF0, pF1, pF2, pF3⟩, ⟨pG0, pG1, pG2, pG3⟩, _⟩ := KL.facts; replace If := If.call gn; replace Ie := Ie.call gn; replace Id := Id.call gn; replace Ic := Ic.call gn; replace Ib := Ib.call gn; replace Ia := Ia.call gn; have KM := ((KL.add e2).add e1).new 42 (Plains.four (decide (o < 0)) D1 o1 r1 (decide (r < 0)) D2 o2 r2))
        | fail)
      clear KL Ia Ib Ic Id Ie If pA0 pA1 pA2 pA3 pB0 pB1 pB2 pB3 pC0 pC1 pC2 pC3 pD0 pD1 pD2 pD3 pE0 pE1 pE2 pE3 pF0 pF1 pF2 pF3 pG0 pG1 pG2 pG3 e1 e2 gn
      generalize wn.alloc (.cells #[.bool (decide (o < 0)), .slice D1 o1 r1, .bool (decide (r < 0)), .slice D2 o2 r2] 42) = WN at KM ⊢
      generalize wn.heap.size = h11 at KM ⊢
      have KD := KM.drew
      clear KM
      obtain ⟨⟨b0, b1, b2, b3⟩, _, _, _, _, _, ⟨p4, p5, p6, p7⟩, ⟨p0, p1, p2, p3⟩, _⟩ := KD.facts
      have jo := KD.ints.1.ci k_o
      have jr := KD.ints.2.1.ci k_r
      have jc := KD.ints.2.2.2.2.2.2.2.2.2.2.2.2.2.1.i
      have jd := KD.ints.2.2.2.2.2.2.2.2.2.2.2.2.1.i
      go_region_held3 (fun w' => w'.cell? ⟨h11, 0, none⟩ = some (.bool (decide (o < 0))) ∧ w'.cell? ⟨h11, 1, none⟩ = some (.slice D1 o1 r1) ∧ w'.cell? ⟨h11, 2, none⟩ = some (.bool (decide (r < 0))) ∧ w'.cell? ⟨h11, 3, none⟩ = some (.slice D2 o2 r2) ∧ w'.cell? ⟨w.heap.size + 1, 0, none⟩ = some (.bool x3) ∧ w'.cell? ⟨w.heap.size + 1, 1, none⟩ = some (.slice A3 n3 c3) ∧ w'.cell? ⟨w.heap.size + 1, 2, none⟩ = some (.bool x4) ∧ w'.cell? ⟨w.heap.size + 1, 3, none⟩ = some (.slice A4 n4 c4) ∧ w'.cell? ⟨w.heap.size, 0, none⟩ = some (.bool x1) ∧ w'.cell? ⟨w.heap.size, 1, none⟩ = some (.slice A1 n1 c1) ∧ w'.cell? ⟨w.heap.size, 2, none⟩ = some (.bool x2) ∧ w'.cell? ⟨w.heap.size, 3, none⟩ = some (.slice A2 n2 c2))
        (go_keep)
        (first
          | (go_at_call 48; (with_reducible refine (fmul_at jo jr jc jd z_o z_r z_c z_d).mono ?_); rw [HVn.out, HVd.out]; rintro ee wm ⟨E1, l1, k1, E2, l2, k2, rfl, e1, e2, gm⟩; have KE := ((KD.call gm).add e2).add e1; clear b0 b1 b2 b3 p0 p1 p2 p3 p4 p5 p6 p7; obtain ⟨⟨b0, b1, b2, b3⟩, _, _, _, _, _, ⟨p4, p5, p6, p7⟩, ⟨p0, p1, p2, p3⟩, _⟩ := KE.facts; have t1 := e1.at_ k_vn; have t2 := e2.at_ k_vd; have ja := KE.ints.2.2.2.2.2.2.2.2.2.2.2.2.2.2.2.2.2.1.i; have jb := KE.ints.2.2.2.2.2.2.2.2.2.2.2.2.2.2.2.2.1.i)
          | (go_at_call 35; (with_reducible refine (fcompare_at t1 t2 ja jb zb_vn zb_vd zb_a zb_b).mono ?_); rw [HFD.out]; rintro ee wm ⟨rfl, gm⟩; have KF := KE.call gm; clear b0 b1 b2 b3 p0 p1 p2 p3 p4 p5 p6 p7; obtain ⟨⟨b0, b1, b2, b3⟩, _, _, _, _, _, ⟨p4, p5, p6, p7⟩, ⟨p0, p1, p2, p3⟩, _⟩ := KF.facts)
          | fail)
      go_wp2_with (first
        | (go_at_call 32; (with_reducible refine (awake2_any _).mono ?_); rintro ee wm ⟨rfl, gm⟩; have KG := KF.call gm)
        | fail)
      go_ret
      exact ⟨rfl, KG.below⟩
  · have hlight := hlight false (by simpa using hl)
    go_enter Try.func10, Try.ntmps10
    go_wp2_with (first
      | (go_at_call 31; (with_reducible refine hlight.mono ?_); rintro e w0 ⟨rfl, g0⟩)
      | (go_at_call 32; (with_reducible refine (awake2_any _).mono ?_); rintro e w1 ⟨rfl, hb1⟩))
    go_ret
    exact ⟨rfl, bcall (bcall hb3 g0) hb1⟩
end Go.Proofs.Ytplmfdgdbolcaaa
