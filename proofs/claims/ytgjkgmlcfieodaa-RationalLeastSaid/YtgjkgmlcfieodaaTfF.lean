/-
  The program's fromTerms.
-/
import Derived.Test.YtgjkgmlcfieodaaTfE
import Derived.Test.YtgjkgmlcfieodaaFrcC
set_option linter.unusedVariables false
set_option linter.unusedSimpArgs false
set_option warningAsError false
namespace Go.Proofs.Ytgjkgmlcfieodaa
open Go.RowKit

/-- The head of the loop of fromTerms, k terms being left. -/
def FtI (w wr : World) (h3 h4 : Nat) (zs : List Int) (k : Nat) : Prop :=
  ∃ (P Q : Int) (B : Option Addr) (m e : Nat) (C : Option Addr) (o f : Nat), P = (cfrac (zs.drop k)).1 ∧ Q = (cfrac (zs.drop k)).2 ∧
    St w wr [vi h4 (decide (Q < 0)) C o f, vi h3 (decide (P < 0)) B m e, vf w.heap.size false none 0 0 false none 0 0] [(decide (P < 0), B, m, e, P, true), (decide (Q < 0), C, o, f, Q, true)]
theorem sz_in {x M : Int} {k : Nat} (h0 : 0 ≤ x) (h1 : x ≤ M) (h : Sz M k) : Sz x k := h.le (by omega)

set_option maxHeartbeats 8000000 in
set_option maxRecDepth 100000 in
theorem fromTerms_at {w : World} {A : Option Addr} {c : Nat} {l : List TE} (hT : TL w A l) (hn : ∀ t ∈ l.map TE.z, 0 ≤ t) (hS : ∀ e ∈ l, Sz e.z 100) {M : Int} (hM1 : 1 ≤ M) (hM : Sz M 100) (h1 : (cfrac (l.map TE.z)).1 ≤ M) (h2 : (cfrac (l.map TE.z)).2 ≤ M) (hl : l.length ≤ 10000) :
    Calls Try.prog 22 #[.slice A l.length c] w (RetFr w (cfrac (l.map TE.z)).1 (cfrac (l.map TE.z)).2) := by
  have HT := Lib.hid hT
  have HS := Lib.hid hS
  obtain ⟨L, HL⟩ : ∃ v, Hid (l.length = v) := ⟨_, rfl⟩
  obtain ⟨zs, HZ⟩ : ∃ v, Hid (l.map TE.z = v) := ⟨_, rfl⟩
  rw [HZ.out] at hn h1 h2 ⊢
  rw [HL.out] at hl ⊢
  have hdr := fun k => cf_drop k zs M hn hM1 h1 h2
  have hnn := fun k => cf_nn (zs.drop k) (fun t ht => hn t (List.mem_of_mem_drop ht))
  have hrec := fun k t (hk : zs[k]? = some t) => cf_term (k := k) hn hM1 h1 h2 hk
  have HD := Lib.hid hdr
  have HN := Lib.hid hnn
  have HR := Lib.hid hrec
  have H0 := (St.start w).new 26 (Plains.four false none 0 0 false none 0 0)
  have HH := Lib.hid H0
  have hzl : zs.length = L := by rw [← HZ.out, List.length_map]; exact HL.out
  have HZL := Lib.hid hzl
  clear H0 hT hS hn h1 h2 hdr hnn hrec hzl
  obtain ⟨X, HX⟩ : ∃ v, Hid ((cfrac zs).1 = v) := ⟨_, rfl⟩
  obtain ⟨Y, HY⟩ : ∃ v, Hid ((cfrac zs).2 = v) := ⟨_, rfl⟩
  rw [HX.out, HY.out]
  go_enter Try.func22, Try.ntmps22
  go_wp2_with (first
    | (go_at_call 12; have K := HH.out; clear HH; (with_reducible refine (fromInt64_at 1 (by decide) (by decide) _).mono ?_); rintro e w3 ⟨A3, n3, c3, rfl, d3, u3, v3, g3⟩; have K3 := ((((K.call g3).add (CanAt.zero_ _)).add (show CanAt w3 false A3 n3 c3 1 from CanAt.mk_ d3 u3 v3)).new 24 (Plains.two false A3 n3 c3)).new 24 (Plains.two false none 0 0))
    | fail)
  simp only [World.size_alloc] at K3
  clear d3 g3
  generalize (w3.alloc (.cells #[.bool false, .slice A3 n3 c3] 24)).alloc (.cells #[.bool false, .slice none 0 0] 24) = W3 at K3 ⊢
  generalize w3.heap.size = h3 at K3 ⊢
  have HS0 : FtI w W3 h3 (h3 + 1) zs L := by
    refine ⟨1, 0, A3, n3, c3, none, 0, 0, ?_, ?_, K3⟩ <;> rw [List.drop_of_length_le (by rw [HZL.out]; exact Nat.le_refl _)] <;> rfl
  clear K3 K
  go_loopg [5] L (fun k i wr => i = .int .i64 ((k : Int) - 1) ∧ k ≤ L ∧ FtI w wr h3 (h3 + 1) zs k)
  case atStart => exact ⟨rfl, Nat.le_refl _, HS0⟩
  case round =>
    clear HS0
    obtain ⟨rfl, hk, P, Q, B, m, e, C, o, f, hP, hQ, K⟩ := hrel
    have HP := Lib.hid hP
    have HQ := Lib.hid hQ
    clear hP hQ
    by_cases h0 : gk = 0
    · subst h0
      have hX : P = X := by rw [HP.out, ← HX.out]; rfl
      have hY : Q = Y := by rw [HQ.out, ← HY.out]; rfl
      subst hX hY
      have i3 : ¬ (0 : Int) ≤ ((0 : Nat) : Int) - 1 := by omega
      obtain ⟨⟨p0, p1⟩, ⟨p2, p3⟩, ⟨o0, o1, o2, o3⟩, _⟩ := K.facts
      obtain ⟨f0, f1, f2, f3⟩ := K.free (i := 2) rfl
      have K2 := K.put4 2 rfl (decide (P < 0)) B m e (decide (Q < 0)) C o f
      simp only [List.set] at K2
      obtain ⟨_, _, ⟨r0, r1, r2, r3⟩, _⟩ := K2.facts
      go_wp2_with fail
      refine bodyPost_ret (v := .agg #[.bool (decide (P < 0)), .slice B m e, .bool (decide (Q < 0)), .slice C o f]) (by simp [results, Try.results22, go_sem, r0, r1, r2, r3]) rfl ?_
      exact RetFr.of_st K2
    · obtain ⟨j, rfl⟩ : ∃ j, gk = j + 1 := ⟨gk - 1, by omega⟩
      have i3 : (0 : Int) ≤ ((j + 1 : Nat) : Int) - 1 := by omega
      have i4 : ((j + 1 : Nat) : Int) - 1 = (j : Int) := by omega
      have i5 : (0 : Int) ≤ (j : Int) := by omega
      have i6 : (j : Int) < (L : Int) := by omega
      have i7 : (j : Int).toNat = j := by omega
      obtain ⟨z, hz⟩ : ∃ z, l[j]? = some z := ⟨l[j]'(by rw [HL.out]; omega), List.getElem?_eq_getElem _⟩
      obtain ⟨g, oo, hA, hg, hcell⟩ := HT.out.2 (by rw [HL.out]; omega)
      have hcz := hcell j z hz
      have hat := CanAt.call (HT.out.1 z (List.mem_of_getElem? hz)) K.below
      have hsz := HS.out z (List.mem_of_getElem? hz)
      have hzz : zs[j]? = some z.z := by rw [← HZ.out, List.getElem?_map, hz]; rfl
      obtain ⟨zs_, zA, zn, zc, t⟩ := z
      simp only at hat hsz hzz
      have hat : CanAt wr zs_ zA zn zc t := hat
      have hre := HR.out j t hzz
      obtain ⟨R, HRr⟩ : ∃ v, Hid (t * P = v) := ⟨_, rfl⟩
      obtain ⟨N, HNn⟩ : ∃ v, Hid (R + Q = v) := ⟨_, rfl⟩
      have hN1 : N = (cfrac (zs.drop j)).1 := by rw [hre, ← HNn.out, ← HRr.out, HP.out, HQ.out]
      have hN2 : P = (cfrac (zs.drop j)).2 := by rw [hre, HP.out]
      have zP : Sz P 100 := by rw [HP.out]; exact sz_in (HN.out _).1 (HD.out _).1 hM
      have zQ : Sz Q 100 := by rw [HQ.out]; exact sz_in (HN.out _).2 (HD.out _).2 hM
      have zR : Sz R 200 := by rw [← HRr.out]; exact hsz.mul zP
      have kP := zP.ok
      have kQ := zQ.ok
      have kt := hsz.ok
      have kR := zR.ok
      have HN1 := Lib.hid hN1
      have HN2 := Lib.hid hN2
      clear hcell hz hzz hre hN1 hN2
      subst hA
      have K := K.add hat
      go_upto_region 5 with fail
      have KZ := K
      clear K
      have Kd := KZ.drew
      obtain ⟨⟨y2, y3⟩, ⟨y0, y1⟩, _⟩ := KZ.facts
      obtain ⟨⟨p2, p3⟩, ⟨p0, p1⟩, _⟩ := Kd.facts
      obtain ⟨f2, f3⟩ := Kd.free (i := 0) rfl
      obtain ⟨f0, f1⟩ := Kd.free (i := 1) rfl
      obtain ⟨z1, z2⟩ := Kd.ne 0 1 rfl rfl (by decide)
      obtain ⟨x0, x1⟩ := hcz.call hg KZ.below
      obtain ⟨c0, c1⟩ := hcz.call hg Kd.below
      simp only at c0 c1 x0 x1
      have ng1 : ¬ g = h3 := by
        intro e1; have := Vars.ge Kd.1 (vi h3 (decide (P < 0)) B m e) (List.mem_cons_of_mem _ List.mem_cons_self); have : w.heap.size ≤ h3 := this; omega
      have ng2 : ¬ g = h3 + 1 := by
        intro e1; have := Vars.ge Kd.1 (vi (h3 + 1) (decide (Q < 0)) C o f) List.mem_cons_self; have : w.heap.size ≤ h3 + 1 := this; omega
      have ng3 : ¬ h3 = g := fun e1 => ng1 e1.symm
      have ng4 : ¬ h3 + 1 = g := fun e1 => ng2 e1.symm
      have HC := Lib.hid hcz
      clear hcz
      simp only [i4]
      skip
      refine wp_region_held_drew (S := fun w' => w'.cell? ⟨g, oo + j * 2, none⟩ = some (.bool zs_) ∧ w'.cell? ⟨g, oo + j * 2 + 1, none⟩ = some (.slice zA zn zc)) (by kernel_rfl) ?_ (fun hHeld0 => ?_)
      · ((try dsimp only); go_keep)
      refine wpAnyH_take (i := 0) (oi := ⟨some 15, _, _, _, _, _⟩) (v := ?_) rfl (by kernel_rfl) (by kernel_rfl) (by kernel_rfl) (fun _ _ _ h => h) (Or.inl ⟨by rfl, ?_⟩) (by assumption) ?_
      rotate_left
      · (intro w' hSw; (try dsimp only at hSw); go_simp; (try with_reducible rfl))
      (try simp only [Act.put, List.setIfInBounds_toArray, List.set_cons_zero, List.set_cons_succ])
      refine wpAnyH_take (i := 1) (oi := ⟨some 16, _, _, _, _, _⟩) (v := ?_) rfl (by kernel_rfl) (by kernel_rfl) (by kernel_rfl) (fun _ _ _ h => h) (Or.inl ⟨by rfl, ?_⟩) (by assumption) ?_
      rotate_left
      · (intro w' hSw; (try dsimp only at hSw); go_simp; (try with_reducible rfl))
      (try simp only [Act.put, List.setIfInBounds_toArray, List.set_cons_zero, List.set_cons_succ])
      refine wpAnyH_take (i := 2) (oi := ⟨some 17, _, _, _, _, _⟩) (v := ?_) rfl (by kernel_rfl) (by kernel_rfl) (by kernel_rfl) (fun _ _ _ h => h) (Or.inl ⟨by rfl, ?_⟩) (by assumption) ?_
      rotate_left
      · (intro w' hSw; (try dsimp only at hSw); go_simp; (try with_reducible rfl))
      (try simp only [Act.put, List.setIfInBounds_toArray, List.set_cons_zero, List.set_cons_succ])
      refine wpAnyH_take (i := 3) (oi := ⟨some 18, _, _, _, _, _⟩) (v := ?_) rfl (by kernel_rfl) (by kernel_rfl) (by kernel_rfl) (fun _ _ _ h => h) (Or.inl ⟨by rfl, ?_⟩) (by assumption) ?_
      rotate_left
      · (intro w' hSw; (try dsimp only at hSw); go_simp; (try with_reducible rfl))
      (try simp only [Act.put, List.setIfInBounds_toArray, List.set_cons_zero, List.set_cons_succ])
      refine wpAnyH_ready (rs := [4, 6, 8]) (by kernel_rfl) (by simp) ?_
      refine AllReadyH.cons (o := ⟨some 19, _, _, _, _, _⟩) rfl (fun K hK => ?_) ?_
      · skip
        go_simp
        refine hK.out _ _ ?_ (fun hHeld1 => ?_)
        · ((try dsimp only); first | go_keep | (trace_state; fail))
        clear hK K hHeld0
        (try simp only [Act.put, List.setIfInBounds_toArray, List.set_cons_zero, List.set_cons_succ])
        refine wpAnyH_ready (rs := [5, 6, 8]) (by kernel_rfl) (by simp) ?_
        refine AllReadyH.cons (o := ⟨some 20, _, _, _, _, _⟩) rfl (fun K hK => ?_) ?_
        · skip
          go_simp
          have j1 := Kd.ints.1.ci kt
          have j2 := Kd.ints.2.1.ci kP
          (go_at_call 34; (with_reducible refine (mul_at j1 j2).mono ?_); rw [HRr.out]; rintro ee wa ⟨D1, o1, r1, rfl, d1, u1, v1, ga⟩)
          (try go_wp2_with fail)
          have Ka := (Kd.call ga).add (CanAt.mk_ d1 u1 v1)
          clear p0 p1 p2 p3 c0 c1 f0 f1 f2 f3
          obtain ⟨⟨p2, p3⟩, ⟨p0, p1⟩, _⟩ := Ka.facts
          obtain ⟨f2, f3⟩ := Ka.free (i := 0) rfl
          obtain ⟨f0, f1⟩ := Ka.free (i := 1) rfl
          obtain ⟨c0, c1⟩ := HC.out.call hg Ka.below
          (try dsimp only at c0 c1)
          refine hK.out _ _ ?_ (fun hHeld2 => ?_)
          · ((try dsimp only); first | go_keep | (trace_state; fail))
          clear hK K hHeld1
          (try simp only [Act.put, List.setIfInBounds_toArray, List.set_cons_zero, List.set_cons_succ])
          refine wpAnyH_ready (rs := [6, 8]) (by kernel_rfl) (by simp) ?_
          refine AllReadyH.cons (o := ⟨some 21, _, _, _, _, _⟩) rfl (fun K hK => ?_) ?_
          · skip
            go_simp
            refine hK.out _ _ ?_ (fun hHeld3 => ?_)
            · ((try dsimp only); first | go_keep | (trace_state; fail))
            clear hK K hHeld2
            (try simp only [Act.put, List.setIfInBounds_toArray, List.set_cons_zero, List.set_cons_succ])
            refine wpAnyH_ready (rs := [7, 8]) (by kernel_rfl) (by simp) ?_
            refine AllReadyH.cons (o := ⟨some 22, _, _, _, _, _⟩) rfl (fun K hK => ?_) ?_
            · skip
              go_simp
              have jR := Ka.ints.1.ci kR
              have jQ := Ka.ints.2.2.2.1.ci kQ
              (go_at_call 46; (with_reducible refine (add_at jR jQ).mono ?_); rw [HNn.out]; rintro ee wb ⟨D2, o2, r2, rfl, d2, u2, v2, gb⟩)
              (try go_wp2_with fail)
              have Kb := (Ka.call gb).add (CanAt.mk_ d2 u2 v2)
              clear p0 p1 p2 p3 c0 c1 f0 f1 f2 f3
              obtain ⟨⟨p2, p3⟩, ⟨p0, p1⟩, _⟩ := Kb.facts
              obtain ⟨f2, f3⟩ := Kb.free (i := 0) rfl
              obtain ⟨f0, f1⟩ := Kb.free (i := 1) rfl
              obtain ⟨c0, c1⟩ := HC.out.call hg Kb.below
              (try dsimp only at c0 c1)
              refine hK.out _ _ ?_ (fun hHeld4 => ?_)
              · ((try dsimp only); first | go_keep | (trace_state; fail))
              clear hK K hHeld3
              (try simp only [Act.put, List.setIfInBounds_toArray, List.set_cons_zero, List.set_cons_succ])
              refine wpAnyH_ready (rs := [8]) (by kernel_rfl) (by simp) ?_
              refine AllReadyH.cons (o := ⟨some 23, _, _, _, _, _⟩) rfl (fun K hK => ?_) AllReadyH.nil
              go_simp
              refine hK.out _ _ ?_ (fun hHeld5 => ?_)
              · ((try dsimp only); first | go_keep | (trace_state; fail))
              clear hK K hHeld4
              (try simp only [Act.put, List.setIfInBounds_toArray, List.set_cons_zero, List.set_cons_succ])
              refine wpAnyH_ready (rs := [9]) (by kernel_rfl) (by simp) ?_
              refine AllReadyH.cons (o := ⟨none, _, _, _, _, _⟩) rfl (fun K hK => ?_) AllReadyH.nil
              go_simp
              refine hK.out _ _ ?_ (fun hHeld6 => ?_)
              · ((try dsimp only); first | go_keep | (trace_state; fail))
              clear hK K hHeld5
              (try simp only [Act.put, List.setIfInBounds_toArray, List.set_cons_zero, List.set_cons_succ])
              refine wpAnyH_ready (rs := [10]) (by kernel_rfl) (by simp) ?_
              refine AllReadyH.cons (o := ⟨none, _, _, _, _, _⟩) rfl (fun K hK => ?_) AllReadyH.nil
              go_simp
              refine hK.out _ _ ?_ (fun hHeld7 => ?_)
              · ((try dsimp only); first | go_keep | (trace_state; fail))
              clear hK K hHeld6
              (try simp only [Act.put, List.setIfInBounds_toArray, List.set_cons_zero, List.set_cons_succ])
              refine wpAnyH_done (by kernel_rfl) ?_ _
              have K4 := Kb.put 1 rfl (decide (N < 0)) D2 o2 r2
              simp only [List.set] at K4
              have K5 := K4.put 0 rfl (decide (P < 0)) B m e
              simp only [List.set] at K5
              go_wp2_with fail
              (try simp only [i4])
              go_roundg j
              case rel => exact ⟨rfl, by omega, N, P, D2, o2, r2, B, m, e, HN1.out, HN2.out, K5.ints_ ⟨K5.ints.1, K5.ints.2.2.2.1, trivial⟩⟩
              case measure => omega
            refine AllReadyH.cons (o := ⟨some 23, _, _, _, _, _⟩) rfl (fun K hK => ?_) AllReadyH.nil
            go_simp
            refine hK.out _ _ ?_ (fun hHeld4 => ?_)
            · ((try dsimp only); first | go_keep | (trace_state; fail))
            clear hK K hHeld3
            (try simp only [Act.put, List.setIfInBounds_toArray, List.set_cons_zero, List.set_cons_succ])
            refine wpAnyH_ready (rs := [7]) (by kernel_rfl) (by simp) ?_
            refine AllReadyH.cons (o := ⟨some 22, _, _, _, _, _⟩) rfl (fun K hK => ?_) AllReadyH.nil
            go_simp
            have jR := Ka.ints.1.ci kR
            have jQ := Ka.ints.2.2.2.1.ci kQ
            (go_at_call 46; (with_reducible refine (add_at jR jQ).mono ?_); rw [HNn.out]; rintro ee wb ⟨D2, o2, r2, rfl, d2, u2, v2, gb⟩)
            (try go_wp2_with fail)
            have Kb := (Ka.call gb).add (CanAt.mk_ d2 u2 v2)
            clear p0 p1 p2 p3 c0 c1 f0 f1 f2 f3
            obtain ⟨⟨p2, p3⟩, ⟨p0, p1⟩, _⟩ := Kb.facts
            obtain ⟨f2, f3⟩ := Kb.free (i := 0) rfl
            obtain ⟨f0, f1⟩ := Kb.free (i := 1) rfl
            obtain ⟨c0, c1⟩ := HC.out.call hg Kb.below
            (try dsimp only at c0 c1)
            refine hK.out _ _ ?_ (fun hHeld5 => ?_)
            · ((try dsimp only); first | go_keep | (trace_state; fail))
            clear hK K hHeld4
            (try simp only [Act.put, List.setIfInBounds_toArray, List.set_cons_zero, List.set_cons_succ])
            refine wpAnyH_ready (rs := [9]) (by kernel_rfl) (by simp) ?_
            refine AllReadyH.cons (o := ⟨none, _, _, _, _, _⟩) rfl (fun K hK => ?_) AllReadyH.nil
            go_simp
            refine hK.out _ _ ?_ (fun hHeld6 => ?_)
            · ((try dsimp only); first | go_keep | (trace_state; fail))
            clear hK K hHeld5
            (try simp only [Act.put, List.setIfInBounds_toArray, List.set_cons_zero, List.set_cons_succ])
            refine wpAnyH_ready (rs := [10]) (by kernel_rfl) (by simp) ?_
            refine AllReadyH.cons (o := ⟨none, _, _, _, _, _⟩) rfl (fun K hK => ?_) AllReadyH.nil
            go_simp
            refine hK.out _ _ ?_ (fun hHeld7 => ?_)
            · ((try dsimp only); first | go_keep | (trace_state; fail))
            clear hK K hHeld6
            (try simp only [Act.put, List.setIfInBounds_toArray, List.set_cons_zero, List.set_cons_succ])
            refine wpAnyH_done (by kernel_rfl) ?_ _
            have K4 := Kb.put 1 rfl (decide (N < 0)) D2 o2 r2
            simp only [List.set] at K4
            have K5 := K4.put 0 rfl (decide (P < 0)) B m e
            simp only [List.set] at K5
            go_wp2_with fail
            (try simp only [i4])
            go_roundg j
            case rel => exact ⟨rfl, by omega, N, P, D2, o2, r2, B, m, e, HN1.out, HN2.out, K5.ints_ ⟨K5.ints.1, K5.ints.2.2.2.1, trivial⟩⟩
            case measure => omega
          refine AllReadyH.cons (o := ⟨some 23, _, _, _, _, _⟩) rfl (fun K hK => ?_) AllReadyH.nil
          go_simp
          refine hK.out _ _ ?_ (fun hHeld3 => ?_)
          · ((try dsimp only); first | go_keep | (trace_state; fail))
          clear hK K hHeld2
          (try simp only [Act.put, List.setIfInBounds_toArray, List.set_cons_zero, List.set_cons_succ])
          refine wpAnyH_ready (rs := [6]) (by kernel_rfl) (by simp) ?_
          refine AllReadyH.cons (o := ⟨some 21, _, _, _, _, _⟩) rfl (fun K hK => ?_) AllReadyH.nil
          go_simp
          refine hK.out _ _ ?_ (fun hHeld4 => ?_)
          · ((try dsimp only); first | go_keep | (trace_state; fail))
          clear hK K hHeld3
          (try simp only [Act.put, List.setIfInBounds_toArray, List.set_cons_zero, List.set_cons_succ])
          refine wpAnyH_ready (rs := [7]) (by kernel_rfl) (by simp) ?_
          refine AllReadyH.cons (o := ⟨some 22, _, _, _, _, _⟩) rfl (fun K hK => ?_) AllReadyH.nil
          go_simp
          have jR := Ka.ints.1.ci kR
          have jQ := Ka.ints.2.2.2.1.ci kQ
          (go_at_call 46; (with_reducible refine (add_at jR jQ).mono ?_); rw [HNn.out]; rintro ee wb ⟨D2, o2, r2, rfl, d2, u2, v2, gb⟩)
          (try go_wp2_with fail)
          have Kb := (Ka.call gb).add (CanAt.mk_ d2 u2 v2)
          clear p0 p1 p2 p3 c0 c1 f0 f1 f2 f3
          obtain ⟨⟨p2, p3⟩, ⟨p0, p1⟩, _⟩ := Kb.facts
          obtain ⟨f2, f3⟩ := Kb.free (i := 0) rfl
          obtain ⟨f0, f1⟩ := Kb.free (i := 1) rfl
          obtain ⟨c0, c1⟩ := HC.out.call hg Kb.below
          (try dsimp only at c0 c1)
          refine hK.out _ _ ?_ (fun hHeld5 => ?_)
          · ((try dsimp only); first | go_keep | (trace_state; fail))
          clear hK K hHeld4
          (try simp only [Act.put, List.setIfInBounds_toArray, List.set_cons_zero, List.set_cons_succ])
          refine wpAnyH_ready (rs := [9]) (by kernel_rfl) (by simp) ?_
          refine AllReadyH.cons (o := ⟨none, _, _, _, _, _⟩) rfl (fun K hK => ?_) AllReadyH.nil
          go_simp
          refine hK.out _ _ ?_ (fun hHeld6 => ?_)
          · ((try dsimp only); first | go_keep | (trace_state; fail))
          clear hK K hHeld5
          (try simp only [Act.put, List.setIfInBounds_toArray, List.set_cons_zero, List.set_cons_succ])
          refine wpAnyH_ready (rs := [10]) (by kernel_rfl) (by simp) ?_
          refine AllReadyH.cons (o := ⟨none, _, _, _, _, _⟩) rfl (fun K hK => ?_) AllReadyH.nil
          go_simp
          refine hK.out _ _ ?_ (fun hHeld7 => ?_)
          · ((try dsimp only); first | go_keep | (trace_state; fail))
          clear hK K hHeld6
          (try simp only [Act.put, List.setIfInBounds_toArray, List.set_cons_zero, List.set_cons_succ])
          refine wpAnyH_done (by kernel_rfl) ?_ _
          have K4 := Kb.put 1 rfl (decide (N < 0)) D2 o2 r2
          simp only [List.set] at K4
          have K5 := K4.put 0 rfl (decide (P < 0)) B m e
          simp only [List.set] at K5
          go_wp2_with fail
          (try simp only [i4])
          go_roundg j
          case rel => exact ⟨rfl, by omega, N, P, D2, o2, r2, B, m, e, HN1.out, HN2.out, K5.ints_ ⟨K5.ints.1, K5.ints.2.2.2.1, trivial⟩⟩
          case measure => omega
        refine AllReadyH.cons (o := ⟨some 21, _, _, _, _, _⟩) rfl (fun K hK => ?_) ?_
        · skip
          go_simp
          refine hK.out _ _ ?_ (fun hHeld2 => ?_)
          · ((try dsimp only); first | go_keep | (trace_state; fail))
          clear hK K hHeld1
          (try simp only [Act.put, List.setIfInBounds_toArray, List.set_cons_zero, List.set_cons_succ])
          refine wpAnyH_ready (rs := [5, 8]) (by kernel_rfl) (by simp) ?_
          refine AllReadyH.cons (o := ⟨some 20, _, _, _, _, _⟩) rfl (fun K hK => ?_) ?_
          · skip
            go_simp
            have j1 := Kd.ints.1.ci kt
            have j2 := Kd.ints.2.1.ci kP
            (go_at_call 34; (with_reducible refine (mul_at j1 j2).mono ?_); rw [HRr.out]; rintro ee wa ⟨D1, o1, r1, rfl, d1, u1, v1, ga⟩)
            (try go_wp2_with fail)
            have Ka := (Kd.call ga).add (CanAt.mk_ d1 u1 v1)
            clear p0 p1 p2 p3 c0 c1 f0 f1 f2 f3
            obtain ⟨⟨p2, p3⟩, ⟨p0, p1⟩, _⟩ := Ka.facts
            obtain ⟨f2, f3⟩ := Ka.free (i := 0) rfl
            obtain ⟨f0, f1⟩ := Ka.free (i := 1) rfl
            obtain ⟨c0, c1⟩ := HC.out.call hg Ka.below
            (try dsimp only at c0 c1)
            refine hK.out _ _ ?_ (fun hHeld3 => ?_)
            · ((try dsimp only); first | go_keep | (trace_state; fail))
            clear hK K hHeld2
            (try simp only [Act.put, List.setIfInBounds_toArray, List.set_cons_zero, List.set_cons_succ])
            refine wpAnyH_ready (rs := [7, 8]) (by kernel_rfl) (by simp) ?_
            refine AllReadyH.cons (o := ⟨some 22, _, _, _, _, _⟩) rfl (fun K hK => ?_) ?_
            · skip
              go_simp
              have jR := Ka.ints.1.ci kR
              have jQ := Ka.ints.2.2.2.1.ci kQ
              (go_at_call 46; (with_reducible refine (add_at jR jQ).mono ?_); rw [HNn.out]; rintro ee wb ⟨D2, o2, r2, rfl, d2, u2, v2, gb⟩)
              (try go_wp2_with fail)
              have Kb := (Ka.call gb).add (CanAt.mk_ d2 u2 v2)
              clear p0 p1 p2 p3 c0 c1 f0 f1 f2 f3
              obtain ⟨⟨p2, p3⟩, ⟨p0, p1⟩, _⟩ := Kb.facts
              obtain ⟨f2, f3⟩ := Kb.free (i := 0) rfl
              obtain ⟨f0, f1⟩ := Kb.free (i := 1) rfl
              obtain ⟨c0, c1⟩ := HC.out.call hg Kb.below
              (try dsimp only at c0 c1)
              refine hK.out _ _ ?_ (fun hHeld4 => ?_)
              · ((try dsimp only); first | go_keep | (trace_state; fail))
              clear hK K hHeld3
              (try simp only [Act.put, List.setIfInBounds_toArray, List.set_cons_zero, List.set_cons_succ])
              refine wpAnyH_ready (rs := [8]) (by kernel_rfl) (by simp) ?_
              refine AllReadyH.cons (o := ⟨some 23, _, _, _, _, _⟩) rfl (fun K hK => ?_) AllReadyH.nil
              go_simp
              refine hK.out _ _ ?_ (fun hHeld5 => ?_)
              · ((try dsimp only); first | go_keep | (trace_state; fail))
              clear hK K hHeld4
              (try simp only [Act.put, List.setIfInBounds_toArray, List.set_cons_zero, List.set_cons_succ])
              refine wpAnyH_ready (rs := [9]) (by kernel_rfl) (by simp) ?_
              refine AllReadyH.cons (o := ⟨none, _, _, _, _, _⟩) rfl (fun K hK => ?_) AllReadyH.nil
              go_simp
              refine hK.out _ _ ?_ (fun hHeld6 => ?_)
              · ((try dsimp only); first | go_keep | (trace_state; fail))
              clear hK K hHeld5
              (try simp only [Act.put, List.setIfInBounds_toArray, List.set_cons_zero, List.set_cons_succ])
              refine wpAnyH_ready (rs := [10]) (by kernel_rfl) (by simp) ?_
              refine AllReadyH.cons (o := ⟨none, _, _, _, _, _⟩) rfl (fun K hK => ?_) AllReadyH.nil
              go_simp
              refine hK.out _ _ ?_ (fun hHeld7 => ?_)
              · ((try dsimp only); first | go_keep | (trace_state; fail))
              clear hK K hHeld6
              (try simp only [Act.put, List.setIfInBounds_toArray, List.set_cons_zero, List.set_cons_succ])
              refine wpAnyH_done (by kernel_rfl) ?_ _
              have K4 := Kb.put 1 rfl (decide (N < 0)) D2 o2 r2
              simp only [List.set] at K4
              have K5 := K4.put 0 rfl (decide (P < 0)) B m e
              simp only [List.set] at K5
              go_wp2_with fail
              (try simp only [i4])
              go_roundg j
              case rel => exact ⟨rfl, by omega, N, P, D2, o2, r2, B, m, e, HN1.out, HN2.out, K5.ints_ ⟨K5.ints.1, K5.ints.2.2.2.1, trivial⟩⟩
              case measure => omega
            refine AllReadyH.cons (o := ⟨some 23, _, _, _, _, _⟩) rfl (fun K hK => ?_) AllReadyH.nil
            go_simp
            refine hK.out _ _ ?_ (fun hHeld4 => ?_)
            · ((try dsimp only); first | go_keep | (trace_state; fail))
            clear hK K hHeld3
            (try simp only [Act.put, List.setIfInBounds_toArray, List.set_cons_zero, List.set_cons_succ])
            refine wpAnyH_ready (rs := [7]) (by kernel_rfl) (by simp) ?_
            refine AllReadyH.cons (o := ⟨some 22, _, _, _, _, _⟩) rfl (fun K hK => ?_) AllReadyH.nil
            go_simp
            have jR := Ka.ints.1.ci kR
            have jQ := Ka.ints.2.2.2.1.ci kQ
            (go_at_call 46; (with_reducible refine (add_at jR jQ).mono ?_); rw [HNn.out]; rintro ee wb ⟨D2, o2, r2, rfl, d2, u2, v2, gb⟩)
            (try go_wp2_with fail)
            have Kb := (Ka.call gb).add (CanAt.mk_ d2 u2 v2)
            clear p0 p1 p2 p3 c0 c1 f0 f1 f2 f3
            obtain ⟨⟨p2, p3⟩, ⟨p0, p1⟩, _⟩ := Kb.facts
            obtain ⟨f2, f3⟩ := Kb.free (i := 0) rfl
            obtain ⟨f0, f1⟩ := Kb.free (i := 1) rfl
            obtain ⟨c0, c1⟩ := HC.out.call hg Kb.below
            (try dsimp only at c0 c1)
            refine hK.out _ _ ?_ (fun hHeld5 => ?_)
            · ((try dsimp only); first | go_keep | (trace_state; fail))
            clear hK K hHeld4
            (try simp only [Act.put, List.setIfInBounds_toArray, List.set_cons_zero, List.set_cons_succ])
            refine wpAnyH_ready (rs := [9]) (by kernel_rfl) (by simp) ?_
            refine AllReadyH.cons (o := ⟨none, _, _, _, _, _⟩) rfl (fun K hK => ?_) AllReadyH.nil
            go_simp
            refine hK.out _ _ ?_ (fun hHeld6 => ?_)
            · ((try dsimp only); first | go_keep | (trace_state; fail))
            clear hK K hHeld5
            (try simp only [Act.put, List.setIfInBounds_toArray, List.set_cons_zero, List.set_cons_succ])
            refine wpAnyH_ready (rs := [10]) (by kernel_rfl) (by simp) ?_
            refine AllReadyH.cons (o := ⟨none, _, _, _, _, _⟩) rfl (fun K hK => ?_) AllReadyH.nil
            go_simp
            refine hK.out _ _ ?_ (fun hHeld7 => ?_)
            · ((try dsimp only); first | go_keep | (trace_state; fail))
            clear hK K hHeld6
            (try simp only [Act.put, List.setIfInBounds_toArray, List.set_cons_zero, List.set_cons_succ])
            refine wpAnyH_done (by kernel_rfl) ?_ _
            have K4 := Kb.put 1 rfl (decide (N < 0)) D2 o2 r2
            simp only [List.set] at K4
            have K5 := K4.put 0 rfl (decide (P < 0)) B m e
            simp only [List.set] at K5
            go_wp2_with fail
            (try simp only [i4])
            go_roundg j
            case rel => exact ⟨rfl, by omega, N, P, D2, o2, r2, B, m, e, HN1.out, HN2.out, K5.ints_ ⟨K5.ints.1, K5.ints.2.2.2.1, trivial⟩⟩
            case measure => omega
          refine AllReadyH.cons (o := ⟨some 23, _, _, _, _, _⟩) rfl (fun K hK => ?_) AllReadyH.nil
          go_simp
          refine hK.out _ _ ?_ (fun hHeld3 => ?_)
          · ((try dsimp only); first | go_keep | (trace_state; fail))
          clear hK K hHeld2
          (try simp only [Act.put, List.setIfInBounds_toArray, List.set_cons_zero, List.set_cons_succ])
          refine wpAnyH_ready (rs := [5]) (by kernel_rfl) (by simp) ?_
          refine AllReadyH.cons (o := ⟨some 20, _, _, _, _, _⟩) rfl (fun K hK => ?_) AllReadyH.nil
          go_simp
          have j1 := Kd.ints.1.ci kt
          have j2 := Kd.ints.2.1.ci kP
          (go_at_call 34; (with_reducible refine (mul_at j1 j2).mono ?_); rw [HRr.out]; rintro ee wa ⟨D1, o1, r1, rfl, d1, u1, v1, ga⟩)
          (try go_wp2_with fail)
          have Ka := (Kd.call ga).add (CanAt.mk_ d1 u1 v1)
          clear p0 p1 p2 p3 c0 c1 f0 f1 f2 f3
          obtain ⟨⟨p2, p3⟩, ⟨p0, p1⟩, _⟩ := Ka.facts
          obtain ⟨f2, f3⟩ := Ka.free (i := 0) rfl
          obtain ⟨f0, f1⟩ := Ka.free (i := 1) rfl
          obtain ⟨c0, c1⟩ := HC.out.call hg Ka.below
          (try dsimp only at c0 c1)
          refine hK.out _ _ ?_ (fun hHeld4 => ?_)
          · ((try dsimp only); first | go_keep | (trace_state; fail))
          clear hK K hHeld3
          (try simp only [Act.put, List.setIfInBounds_toArray, List.set_cons_zero, List.set_cons_succ])
          refine wpAnyH_ready (rs := [7]) (by kernel_rfl) (by simp) ?_
          refine AllReadyH.cons (o := ⟨some 22, _, _, _, _, _⟩) rfl (fun K hK => ?_) AllReadyH.nil
          go_simp
          have jR := Ka.ints.1.ci kR
          have jQ := Ka.ints.2.2.2.1.ci kQ
          (go_at_call 46; (with_reducible refine (add_at jR jQ).mono ?_); rw [HNn.out]; rintro ee wb ⟨D2, o2, r2, rfl, d2, u2, v2, gb⟩)
          (try go_wp2_with fail)
          have Kb := (Ka.call gb).add (CanAt.mk_ d2 u2 v2)
          clear p0 p1 p2 p3 c0 c1 f0 f1 f2 f3
          obtain ⟨⟨p2, p3⟩, ⟨p0, p1⟩, _⟩ := Kb.facts
          obtain ⟨f2, f3⟩ := Kb.free (i := 0) rfl
          obtain ⟨f0, f1⟩ := Kb.free (i := 1) rfl
          obtain ⟨c0, c1⟩ := HC.out.call hg Kb.below
          (try dsimp only at c0 c1)
          refine hK.out _ _ ?_ (fun hHeld5 => ?_)
          · ((try dsimp only); first | go_keep | (trace_state; fail))
          clear hK K hHeld4
          (try simp only [Act.put, List.setIfInBounds_toArray, List.set_cons_zero, List.set_cons_succ])
          refine wpAnyH_ready (rs := [9]) (by kernel_rfl) (by simp) ?_
          refine AllReadyH.cons (o := ⟨none, _, _, _, _, _⟩) rfl (fun K hK => ?_) AllReadyH.nil
          go_simp
          refine hK.out _ _ ?_ (fun hHeld6 => ?_)
          · ((try dsimp only); first | go_keep | (trace_state; fail))
          clear hK K hHeld5
          (try simp only [Act.put, List.setIfInBounds_toArray, List.set_cons_zero, List.set_cons_succ])
          refine wpAnyH_ready (rs := [10]) (by kernel_rfl) (by simp) ?_
          refine AllReadyH.cons (o := ⟨none, _, _, _, _, _⟩) rfl (fun K hK => ?_) AllReadyH.nil
          go_simp
          refine hK.out _ _ ?_ (fun hHeld7 => ?_)
          · ((try dsimp only); first | go_keep | (trace_state; fail))
          clear hK K hHeld6
          (try simp only [Act.put, List.setIfInBounds_toArray, List.set_cons_zero, List.set_cons_succ])
          refine wpAnyH_done (by kernel_rfl) ?_ _
          have K4 := Kb.put 1 rfl (decide (N < 0)) D2 o2 r2
          simp only [List.set] at K4
          have K5 := K4.put 0 rfl (decide (P < 0)) B m e
          simp only [List.set] at K5
          go_wp2_with fail
          (try simp only [i4])
          go_roundg j
          case rel => exact ⟨rfl, by omega, N, P, D2, o2, r2, B, m, e, HN1.out, HN2.out, K5.ints_ ⟨K5.ints.1, K5.ints.2.2.2.1, trivial⟩⟩
          case measure => omega
        refine AllReadyH.cons (o := ⟨some 23, _, _, _, _, _⟩) rfl (fun K hK => ?_) AllReadyH.nil
        go_simp
        refine hK.out _ _ ?_ (fun hHeld2 => ?_)
        · ((try dsimp only); first | go_keep | (trace_state; fail))
        clear hK K hHeld1
        (try simp only [Act.put, List.setIfInBounds_toArray, List.set_cons_zero, List.set_cons_succ])
        refine wpAnyH_ready (rs := [5, 6]) (by kernel_rfl) (by simp) ?_
        refine AllReadyH.cons (o := ⟨some 20, _, _, _, _, _⟩) rfl (fun K hK => ?_) ?_
        · skip
          go_simp
          have j1 := Kd.ints.1.ci kt
          have j2 := Kd.ints.2.1.ci kP
          (go_at_call 34; (with_reducible refine (mul_at j1 j2).mono ?_); rw [HRr.out]; rintro ee wa ⟨D1, o1, r1, rfl, d1, u1, v1, ga⟩)
          (try go_wp2_with fail)
          have Ka := (Kd.call ga).add (CanAt.mk_ d1 u1 v1)
          clear p0 p1 p2 p3 c0 c1 f0 f1 f2 f3
          obtain ⟨⟨p2, p3⟩, ⟨p0, p1⟩, _⟩ := Ka.facts
          obtain ⟨f2, f3⟩ := Ka.free (i := 0) rfl
          obtain ⟨f0, f1⟩ := Ka.free (i := 1) rfl
          obtain ⟨c0, c1⟩ := HC.out.call hg Ka.below
          (try dsimp only at c0 c1)
          refine hK.out _ _ ?_ (fun hHeld3 => ?_)
          · ((try dsimp only); first | go_keep | (trace_state; fail))
          clear hK K hHeld2
          (try simp only [Act.put, List.setIfInBounds_toArray, List.set_cons_zero, List.set_cons_succ])
          refine wpAnyH_ready (rs := [6]) (by kernel_rfl) (by simp) ?_
          refine AllReadyH.cons (o := ⟨some 21, _, _, _, _, _⟩) rfl (fun K hK => ?_) AllReadyH.nil
          go_simp
          refine hK.out _ _ ?_ (fun hHeld4 => ?_)
          · ((try dsimp only); first | go_keep | (trace_state; fail))
          clear hK K hHeld3
          (try simp only [Act.put, List.setIfInBounds_toArray, List.set_cons_zero, List.set_cons_succ])
          refine wpAnyH_ready (rs := [7]) (by kernel_rfl) (by simp) ?_
          refine AllReadyH.cons (o := ⟨some 22, _, _, _, _, _⟩) rfl (fun K hK => ?_) AllReadyH.nil
          go_simp
          have jR := Ka.ints.1.ci kR
          have jQ := Ka.ints.2.2.2.1.ci kQ
          (go_at_call 46; (with_reducible refine (add_at jR jQ).mono ?_); rw [HNn.out]; rintro ee wb ⟨D2, o2, r2, rfl, d2, u2, v2, gb⟩)
          (try go_wp2_with fail)
          have Kb := (Ka.call gb).add (CanAt.mk_ d2 u2 v2)
          clear p0 p1 p2 p3 c0 c1 f0 f1 f2 f3
          obtain ⟨⟨p2, p3⟩, ⟨p0, p1⟩, _⟩ := Kb.facts
          obtain ⟨f2, f3⟩ := Kb.free (i := 0) rfl
          obtain ⟨f0, f1⟩ := Kb.free (i := 1) rfl
          obtain ⟨c0, c1⟩ := HC.out.call hg Kb.below
          (try dsimp only at c0 c1)
          refine hK.out _ _ ?_ (fun hHeld5 => ?_)
          · ((try dsimp only); first | go_keep | (trace_state; fail))
          clear hK K hHeld4
          (try simp only [Act.put, List.setIfInBounds_toArray, List.set_cons_zero, List.set_cons_succ])
          refine wpAnyH_ready (rs := [9]) (by kernel_rfl) (by simp) ?_
          refine AllReadyH.cons (o := ⟨none, _, _, _, _, _⟩) rfl (fun K hK => ?_) AllReadyH.nil
          go_simp
          refine hK.out _ _ ?_ (fun hHeld6 => ?_)
          · ((try dsimp only); first | go_keep | (trace_state; fail))
          clear hK K hHeld5
          (try simp only [Act.put, List.setIfInBounds_toArray, List.set_cons_zero, List.set_cons_succ])
          refine wpAnyH_ready (rs := [10]) (by kernel_rfl) (by simp) ?_
          refine AllReadyH.cons (o := ⟨none, _, _, _, _, _⟩) rfl (fun K hK => ?_) AllReadyH.nil
          go_simp
          refine hK.out _ _ ?_ (fun hHeld7 => ?_)
          · ((try dsimp only); first | go_keep | (trace_state; fail))
          clear hK K hHeld6
          (try simp only [Act.put, List.setIfInBounds_toArray, List.set_cons_zero, List.set_cons_succ])
          refine wpAnyH_done (by kernel_rfl) ?_ _
          have K4 := Kb.put 1 rfl (decide (N < 0)) D2 o2 r2
          simp only [List.set] at K4
          have K5 := K4.put 0 rfl (decide (P < 0)) B m e
          simp only [List.set] at K5
          go_wp2_with fail
          (try simp only [i4])
          go_roundg j
          case rel => exact ⟨rfl, by omega, N, P, D2, o2, r2, B, m, e, HN1.out, HN2.out, K5.ints_ ⟨K5.ints.1, K5.ints.2.2.2.1, trivial⟩⟩
          case measure => omega
        refine AllReadyH.cons (o := ⟨some 21, _, _, _, _, _⟩) rfl (fun K hK => ?_) AllReadyH.nil
        go_simp
        refine hK.out _ _ ?_ (fun hHeld3 => ?_)
        · ((try dsimp only); first | go_keep | (trace_state; fail))
        clear hK K hHeld2
        (try simp only [Act.put, List.setIfInBounds_toArray, List.set_cons_zero, List.set_cons_succ])
        refine wpAnyH_ready (rs := [5]) (by kernel_rfl) (by simp) ?_
        refine AllReadyH.cons (o := ⟨some 20, _, _, _, _, _⟩) rfl (fun K hK => ?_) AllReadyH.nil
        go_simp
        have j1 := Kd.ints.1.ci kt
        have j2 := Kd.ints.2.1.ci kP
        (go_at_call 34; (with_reducible refine (mul_at j1 j2).mono ?_); rw [HRr.out]; rintro ee wa ⟨D1, o1, r1, rfl, d1, u1, v1, ga⟩)
        (try go_wp2_with fail)
        have Ka := (Kd.call ga).add (CanAt.mk_ d1 u1 v1)
        clear p0 p1 p2 p3 c0 c1 f0 f1 f2 f3
        obtain ⟨⟨p2, p3⟩, ⟨p0, p1⟩, _⟩ := Ka.facts
        obtain ⟨f2, f3⟩ := Ka.free (i := 0) rfl
        obtain ⟨f0, f1⟩ := Ka.free (i := 1) rfl
        obtain ⟨c0, c1⟩ := HC.out.call hg Ka.below
        (try dsimp only at c0 c1)
        refine hK.out _ _ ?_ (fun hHeld4 => ?_)
        · ((try dsimp only); first | go_keep | (trace_state; fail))
        clear hK K hHeld3
        (try simp only [Act.put, List.setIfInBounds_toArray, List.set_cons_zero, List.set_cons_succ])
        refine wpAnyH_ready (rs := [7]) (by kernel_rfl) (by simp) ?_
        refine AllReadyH.cons (o := ⟨some 22, _, _, _, _, _⟩) rfl (fun K hK => ?_) AllReadyH.nil
        go_simp
        have jR := Ka.ints.1.ci kR
        have jQ := Ka.ints.2.2.2.1.ci kQ
        (go_at_call 46; (with_reducible refine (add_at jR jQ).mono ?_); rw [HNn.out]; rintro ee wb ⟨D2, o2, r2, rfl, d2, u2, v2, gb⟩)
        (try go_wp2_with fail)
        have Kb := (Ka.call gb).add (CanAt.mk_ d2 u2 v2)
        clear p0 p1 p2 p3 c0 c1 f0 f1 f2 f3
        obtain ⟨⟨p2, p3⟩, ⟨p0, p1⟩, _⟩ := Kb.facts
        obtain ⟨f2, f3⟩ := Kb.free (i := 0) rfl
        obtain ⟨f0, f1⟩ := Kb.free (i := 1) rfl
        obtain ⟨c0, c1⟩ := HC.out.call hg Kb.below
        (try dsimp only at c0 c1)
        refine hK.out _ _ ?_ (fun hHeld5 => ?_)
        · ((try dsimp only); first | go_keep | (trace_state; fail))
        clear hK K hHeld4
        (try simp only [Act.put, List.setIfInBounds_toArray, List.set_cons_zero, List.set_cons_succ])
        refine wpAnyH_ready (rs := [9]) (by kernel_rfl) (by simp) ?_
        refine AllReadyH.cons (o := ⟨none, _, _, _, _, _⟩) rfl (fun K hK => ?_) AllReadyH.nil
        go_simp
        refine hK.out _ _ ?_ (fun hHeld6 => ?_)
        · ((try dsimp only); first | go_keep | (trace_state; fail))
        clear hK K hHeld5
        (try simp only [Act.put, List.setIfInBounds_toArray, List.set_cons_zero, List.set_cons_succ])
        refine wpAnyH_ready (rs := [10]) (by kernel_rfl) (by simp) ?_
        refine AllReadyH.cons (o := ⟨none, _, _, _, _, _⟩) rfl (fun K hK => ?_) AllReadyH.nil
        go_simp
        refine hK.out _ _ ?_ (fun hHeld7 => ?_)
        · ((try dsimp only); first | go_keep | (trace_state; fail))
        clear hK K hHeld6
        (try simp only [Act.put, List.setIfInBounds_toArray, List.set_cons_zero, List.set_cons_succ])
        refine wpAnyH_done (by kernel_rfl) ?_ _
        have K4 := Kb.put 1 rfl (decide (N < 0)) D2 o2 r2
        simp only [List.set] at K4
        have K5 := K4.put 0 rfl (decide (P < 0)) B m e
        simp only [List.set] at K5
        go_wp2_with fail
        (try simp only [i4])
        go_roundg j
        case rel => exact ⟨rfl, by omega, N, P, D2, o2, r2, B, m, e, HN1.out, HN2.out, K5.ints_ ⟨K5.ints.1, K5.ints.2.2.2.1, trivial⟩⟩
        case measure => omega
      refine AllReadyH.cons (o := ⟨some 21, _, _, _, _, _⟩) rfl (fun K hK => ?_) ?_
      · skip
        go_simp
        refine hK.out _ _ ?_ (fun hHeld1 => ?_)
        · ((try dsimp only); first | go_keep | (trace_state; fail))
        clear hK K hHeld0
        (try simp only [Act.put, List.setIfInBounds_toArray, List.set_cons_zero, List.set_cons_succ])
        refine wpAnyH_ready (rs := [4, 8]) (by kernel_rfl) (by simp) ?_
        refine AllReadyH.cons (o := ⟨some 19, _, _, _, _, _⟩) rfl (fun K hK => ?_) ?_
        · skip
          go_simp
          refine hK.out _ _ ?_ (fun hHeld2 => ?_)
          · ((try dsimp only); first | go_keep | (trace_state; fail))
          clear hK K hHeld1
          (try simp only [Act.put, List.setIfInBounds_toArray, List.set_cons_zero, List.set_cons_succ])
          refine wpAnyH_ready (rs := [5, 8]) (by kernel_rfl) (by simp) ?_
          refine AllReadyH.cons (o := ⟨some 20, _, _, _, _, _⟩) rfl (fun K hK => ?_) ?_
          · skip
            go_simp
            have j1 := Kd.ints.1.ci kt
            have j2 := Kd.ints.2.1.ci kP
            (go_at_call 34; (with_reducible refine (mul_at j1 j2).mono ?_); rw [HRr.out]; rintro ee wa ⟨D1, o1, r1, rfl, d1, u1, v1, ga⟩)
            (try go_wp2_with fail)
            have Ka := (Kd.call ga).add (CanAt.mk_ d1 u1 v1)
            clear p0 p1 p2 p3 c0 c1 f0 f1 f2 f3
            obtain ⟨⟨p2, p3⟩, ⟨p0, p1⟩, _⟩ := Ka.facts
            obtain ⟨f2, f3⟩ := Ka.free (i := 0) rfl
            obtain ⟨f0, f1⟩ := Ka.free (i := 1) rfl
            obtain ⟨c0, c1⟩ := HC.out.call hg Ka.below
            (try dsimp only at c0 c1)
            refine hK.out _ _ ?_ (fun hHeld3 => ?_)
            · ((try dsimp only); first | go_keep | (trace_state; fail))
            clear hK K hHeld2
            (try simp only [Act.put, List.setIfInBounds_toArray, List.set_cons_zero, List.set_cons_succ])
            refine wpAnyH_ready (rs := [7, 8]) (by kernel_rfl) (by simp) ?_
            refine AllReadyH.cons (o := ⟨some 22, _, _, _, _, _⟩) rfl (fun K hK => ?_) ?_
            · skip
              go_simp
              have jR := Ka.ints.1.ci kR
              have jQ := Ka.ints.2.2.2.1.ci kQ
              (go_at_call 46; (with_reducible refine (add_at jR jQ).mono ?_); rw [HNn.out]; rintro ee wb ⟨D2, o2, r2, rfl, d2, u2, v2, gb⟩)
              (try go_wp2_with fail)
              have Kb := (Ka.call gb).add (CanAt.mk_ d2 u2 v2)
              clear p0 p1 p2 p3 c0 c1 f0 f1 f2 f3
              obtain ⟨⟨p2, p3⟩, ⟨p0, p1⟩, _⟩ := Kb.facts
              obtain ⟨f2, f3⟩ := Kb.free (i := 0) rfl
              obtain ⟨f0, f1⟩ := Kb.free (i := 1) rfl
              obtain ⟨c0, c1⟩ := HC.out.call hg Kb.below
              (try dsimp only at c0 c1)
              refine hK.out _ _ ?_ (fun hHeld4 => ?_)
              · ((try dsimp only); first | go_keep | (trace_state; fail))
              clear hK K hHeld3
              (try simp only [Act.put, List.setIfInBounds_toArray, List.set_cons_zero, List.set_cons_succ])
              refine wpAnyH_ready (rs := [8]) (by kernel_rfl) (by simp) ?_
              refine AllReadyH.cons (o := ⟨some 23, _, _, _, _, _⟩) rfl (fun K hK => ?_) AllReadyH.nil
              go_simp
              refine hK.out _ _ ?_ (fun hHeld5 => ?_)
              · ((try dsimp only); first | go_keep | (trace_state; fail))
              clear hK K hHeld4
              (try simp only [Act.put, List.setIfInBounds_toArray, List.set_cons_zero, List.set_cons_succ])
              refine wpAnyH_ready (rs := [9]) (by kernel_rfl) (by simp) ?_
              refine AllReadyH.cons (o := ⟨none, _, _, _, _, _⟩) rfl (fun K hK => ?_) AllReadyH.nil
              go_simp
              refine hK.out _ _ ?_ (fun hHeld6 => ?_)
              · ((try dsimp only); first | go_keep | (trace_state; fail))
              clear hK K hHeld5
              (try simp only [Act.put, List.setIfInBounds_toArray, List.set_cons_zero, List.set_cons_succ])
              refine wpAnyH_ready (rs := [10]) (by kernel_rfl) (by simp) ?_
              refine AllReadyH.cons (o := ⟨none, _, _, _, _, _⟩) rfl (fun K hK => ?_) AllReadyH.nil
              go_simp
              refine hK.out _ _ ?_ (fun hHeld7 => ?_)
              · ((try dsimp only); first | go_keep | (trace_state; fail))
              clear hK K hHeld6
              (try simp only [Act.put, List.setIfInBounds_toArray, List.set_cons_zero, List.set_cons_succ])
              refine wpAnyH_done (by kernel_rfl) ?_ _
              have K4 := Kb.put 1 rfl (decide (N < 0)) D2 o2 r2
              simp only [List.set] at K4
              have K5 := K4.put 0 rfl (decide (P < 0)) B m e
              simp only [List.set] at K5
              go_wp2_with fail
              (try simp only [i4])
              go_roundg j
              case rel => exact ⟨rfl, by omega, N, P, D2, o2, r2, B, m, e, HN1.out, HN2.out, K5.ints_ ⟨K5.ints.1, K5.ints.2.2.2.1, trivial⟩⟩
              case measure => omega
            refine AllReadyH.cons (o := ⟨some 23, _, _, _, _, _⟩) rfl (fun K hK => ?_) AllReadyH.nil
            go_simp
            refine hK.out _ _ ?_ (fun hHeld4 => ?_)
            · ((try dsimp only); first | go_keep | (trace_state; fail))
            clear hK K hHeld3
            (try simp only [Act.put, List.setIfInBounds_toArray, List.set_cons_zero, List.set_cons_succ])
            refine wpAnyH_ready (rs := [7]) (by kernel_rfl) (by simp) ?_
            refine AllReadyH.cons (o := ⟨some 22, _, _, _, _, _⟩) rfl (fun K hK => ?_) AllReadyH.nil
            go_simp
            have jR := Ka.ints.1.ci kR
            have jQ := Ka.ints.2.2.2.1.ci kQ
            (go_at_call 46; (with_reducible refine (add_at jR jQ).mono ?_); rw [HNn.out]; rintro ee wb ⟨D2, o2, r2, rfl, d2, u2, v2, gb⟩)
            (try go_wp2_with fail)
            have Kb := (Ka.call gb).add (CanAt.mk_ d2 u2 v2)
            clear p0 p1 p2 p3 c0 c1 f0 f1 f2 f3
            obtain ⟨⟨p2, p3⟩, ⟨p0, p1⟩, _⟩ := Kb.facts
            obtain ⟨f2, f3⟩ := Kb.free (i := 0) rfl
            obtain ⟨f0, f1⟩ := Kb.free (i := 1) rfl
            obtain ⟨c0, c1⟩ := HC.out.call hg Kb.below
            (try dsimp only at c0 c1)
            refine hK.out _ _ ?_ (fun hHeld5 => ?_)
            · ((try dsimp only); first | go_keep | (trace_state; fail))
            clear hK K hHeld4
            (try simp only [Act.put, List.setIfInBounds_toArray, List.set_cons_zero, List.set_cons_succ])
            refine wpAnyH_ready (rs := [9]) (by kernel_rfl) (by simp) ?_
            refine AllReadyH.cons (o := ⟨none, _, _, _, _, _⟩) rfl (fun K hK => ?_) AllReadyH.nil
            go_simp
            refine hK.out _ _ ?_ (fun hHeld6 => ?_)
            · ((try dsimp only); first | go_keep | (trace_state; fail))
            clear hK K hHeld5
            (try simp only [Act.put, List.setIfInBounds_toArray, List.set_cons_zero, List.set_cons_succ])
            refine wpAnyH_ready (rs := [10]) (by kernel_rfl) (by simp) ?_
            refine AllReadyH.cons (o := ⟨none, _, _, _, _, _⟩) rfl (fun K hK => ?_) AllReadyH.nil
            go_simp
            refine hK.out _ _ ?_ (fun hHeld7 => ?_)
            · ((try dsimp only); first | go_keep | (trace_state; fail))
            clear hK K hHeld6
            (try simp only [Act.put, List.setIfInBounds_toArray, List.set_cons_zero, List.set_cons_succ])
            refine wpAnyH_done (by kernel_rfl) ?_ _
            have K4 := Kb.put 1 rfl (decide (N < 0)) D2 o2 r2
            simp only [List.set] at K4
            have K5 := K4.put 0 rfl (decide (P < 0)) B m e
            simp only [List.set] at K5
            go_wp2_with fail
            (try simp only [i4])
            go_roundg j
            case rel => exact ⟨rfl, by omega, N, P, D2, o2, r2, B, m, e, HN1.out, HN2.out, K5.ints_ ⟨K5.ints.1, K5.ints.2.2.2.1, trivial⟩⟩
            case measure => omega
          refine AllReadyH.cons (o := ⟨some 23, _, _, _, _, _⟩) rfl (fun K hK => ?_) AllReadyH.nil
          go_simp
          refine hK.out _ _ ?_ (fun hHeld3 => ?_)
          · ((try dsimp only); first | go_keep | (trace_state; fail))
          clear hK K hHeld2
          (try simp only [Act.put, List.setIfInBounds_toArray, List.set_cons_zero, List.set_cons_succ])
          refine wpAnyH_ready (rs := [5]) (by kernel_rfl) (by simp) ?_
          refine AllReadyH.cons (o := ⟨some 20, _, _, _, _, _⟩) rfl (fun K hK => ?_) AllReadyH.nil
          go_simp
          have j1 := Kd.ints.1.ci kt
          have j2 := Kd.ints.2.1.ci kP
          (go_at_call 34; (with_reducible refine (mul_at j1 j2).mono ?_); rw [HRr.out]; rintro ee wa ⟨D1, o1, r1, rfl, d1, u1, v1, ga⟩)
          (try go_wp2_with fail)
          have Ka := (Kd.call ga).add (CanAt.mk_ d1 u1 v1)
          clear p0 p1 p2 p3 c0 c1 f0 f1 f2 f3
          obtain ⟨⟨p2, p3⟩, ⟨p0, p1⟩, _⟩ := Ka.facts
          obtain ⟨f2, f3⟩ := Ka.free (i := 0) rfl
          obtain ⟨f0, f1⟩ := Ka.free (i := 1) rfl
          obtain ⟨c0, c1⟩ := HC.out.call hg Ka.below
          (try dsimp only at c0 c1)
          refine hK.out _ _ ?_ (fun hHeld4 => ?_)
          · ((try dsimp only); first | go_keep | (trace_state; fail))
          clear hK K hHeld3
          (try simp only [Act.put, List.setIfInBounds_toArray, List.set_cons_zero, List.set_cons_succ])
          refine wpAnyH_ready (rs := [7]) (by kernel_rfl) (by simp) ?_
          refine AllReadyH.cons (o := ⟨some 22, _, _, _, _, _⟩) rfl (fun K hK => ?_) AllReadyH.nil
          go_simp
          have jR := Ka.ints.1.ci kR
          have jQ := Ka.ints.2.2.2.1.ci kQ
          (go_at_call 46; (with_reducible refine (add_at jR jQ).mono ?_); rw [HNn.out]; rintro ee wb ⟨D2, o2, r2, rfl, d2, u2, v2, gb⟩)
          (try go_wp2_with fail)
          have Kb := (Ka.call gb).add (CanAt.mk_ d2 u2 v2)
          clear p0 p1 p2 p3 c0 c1 f0 f1 f2 f3
          obtain ⟨⟨p2, p3⟩, ⟨p0, p1⟩, _⟩ := Kb.facts
          obtain ⟨f2, f3⟩ := Kb.free (i := 0) rfl
          obtain ⟨f0, f1⟩ := Kb.free (i := 1) rfl
          obtain ⟨c0, c1⟩ := HC.out.call hg Kb.below
          (try dsimp only at c0 c1)
          refine hK.out _ _ ?_ (fun hHeld5 => ?_)
          · ((try dsimp only); first | go_keep | (trace_state; fail))
          clear hK K hHeld4
          (try simp only [Act.put, List.setIfInBounds_toArray, List.set_cons_zero, List.set_cons_succ])
          refine wpAnyH_ready (rs := [9]) (by kernel_rfl) (by simp) ?_
          refine AllReadyH.cons (o := ⟨none, _, _, _, _, _⟩) rfl (fun K hK => ?_) AllReadyH.nil
          go_simp
          refine hK.out _ _ ?_ (fun hHeld6 => ?_)
          · ((try dsimp only); first | go_keep | (trace_state; fail))
          clear hK K hHeld5
          (try simp only [Act.put, List.setIfInBounds_toArray, List.set_cons_zero, List.set_cons_succ])
          refine wpAnyH_ready (rs := [10]) (by kernel_rfl) (by simp) ?_
          refine AllReadyH.cons (o := ⟨none, _, _, _, _, _⟩) rfl (fun K hK => ?_) AllReadyH.nil
          go_simp
          refine hK.out _ _ ?_ (fun hHeld7 => ?_)
          · ((try dsimp only); first | go_keep | (trace_state; fail))
          clear hK K hHeld6
          (try simp only [Act.put, List.setIfInBounds_toArray, List.set_cons_zero, List.set_cons_succ])
          refine wpAnyH_done (by kernel_rfl) ?_ _
          have K4 := Kb.put 1 rfl (decide (N < 0)) D2 o2 r2
          simp only [List.set] at K4
          have K5 := K4.put 0 rfl (decide (P < 0)) B m e
          simp only [List.set] at K5
          go_wp2_with fail
          (try simp only [i4])
          go_roundg j
          case rel => exact ⟨rfl, by omega, N, P, D2, o2, r2, B, m, e, HN1.out, HN2.out, K5.ints_ ⟨K5.ints.1, K5.ints.2.2.2.1, trivial⟩⟩
          case measure => omega
        refine AllReadyH.cons (o := ⟨some 23, _, _, _, _, _⟩) rfl (fun K hK => ?_) AllReadyH.nil
        go_simp
        refine hK.out _ _ ?_ (fun hHeld2 => ?_)
        · ((try dsimp only); first | go_keep | (trace_state; fail))
        clear hK K hHeld1
        (try simp only [Act.put, List.setIfInBounds_toArray, List.set_cons_zero, List.set_cons_succ])
        refine wpAnyH_ready (rs := [4]) (by kernel_rfl) (by simp) ?_
        refine AllReadyH.cons (o := ⟨some 19, _, _, _, _, _⟩) rfl (fun K hK => ?_) AllReadyH.nil
        go_simp
        refine hK.out _ _ ?_ (fun hHeld3 => ?_)
        · ((try dsimp only); first | go_keep | (trace_state; fail))
        clear hK K hHeld2
        (try simp only [Act.put, List.setIfInBounds_toArray, List.set_cons_zero, List.set_cons_succ])
        refine wpAnyH_ready (rs := [5]) (by kernel_rfl) (by simp) ?_
        refine AllReadyH.cons (o := ⟨some 20, _, _, _, _, _⟩) rfl (fun K hK => ?_) AllReadyH.nil
        go_simp
        have j1 := Kd.ints.1.ci kt
        have j2 := Kd.ints.2.1.ci kP
        (go_at_call 34; (with_reducible refine (mul_at j1 j2).mono ?_); rw [HRr.out]; rintro ee wa ⟨D1, o1, r1, rfl, d1, u1, v1, ga⟩)
        (try go_wp2_with fail)
        have Ka := (Kd.call ga).add (CanAt.mk_ d1 u1 v1)
        clear p0 p1 p2 p3 c0 c1 f0 f1 f2 f3
        obtain ⟨⟨p2, p3⟩, ⟨p0, p1⟩, _⟩ := Ka.facts
        obtain ⟨f2, f3⟩ := Ka.free (i := 0) rfl
        obtain ⟨f0, f1⟩ := Ka.free (i := 1) rfl
        obtain ⟨c0, c1⟩ := HC.out.call hg Ka.below
        (try dsimp only at c0 c1)
        refine hK.out _ _ ?_ (fun hHeld4 => ?_)
        · ((try dsimp only); first | go_keep | (trace_state; fail))
        clear hK K hHeld3
        (try simp only [Act.put, List.setIfInBounds_toArray, List.set_cons_zero, List.set_cons_succ])
        refine wpAnyH_ready (rs := [7]) (by kernel_rfl) (by simp) ?_
        refine AllReadyH.cons (o := ⟨some 22, _, _, _, _, _⟩) rfl (fun K hK => ?_) AllReadyH.nil
        go_simp
        have jR := Ka.ints.1.ci kR
        have jQ := Ka.ints.2.2.2.1.ci kQ
        (go_at_call 46; (with_reducible refine (add_at jR jQ).mono ?_); rw [HNn.out]; rintro ee wb ⟨D2, o2, r2, rfl, d2, u2, v2, gb⟩)
        (try go_wp2_with fail)
        have Kb := (Ka.call gb).add (CanAt.mk_ d2 u2 v2)
        clear p0 p1 p2 p3 c0 c1 f0 f1 f2 f3
        obtain ⟨⟨p2, p3⟩, ⟨p0, p1⟩, _⟩ := Kb.facts
        obtain ⟨f2, f3⟩ := Kb.free (i := 0) rfl
        obtain ⟨f0, f1⟩ := Kb.free (i := 1) rfl
        obtain ⟨c0, c1⟩ := HC.out.call hg Kb.below
        (try dsimp only at c0 c1)
        refine hK.out _ _ ?_ (fun hHeld5 => ?_)
        · ((try dsimp only); first | go_keep | (trace_state; fail))
        clear hK K hHeld4
        (try simp only [Act.put, List.setIfInBounds_toArray, List.set_cons_zero, List.set_cons_succ])
        refine wpAnyH_ready (rs := [9]) (by kernel_rfl) (by simp) ?_
        refine AllReadyH.cons (o := ⟨none, _, _, _, _, _⟩) rfl (fun K hK => ?_) AllReadyH.nil
        go_simp
        refine hK.out _ _ ?_ (fun hHeld6 => ?_)
        · ((try dsimp only); first | go_keep | (trace_state; fail))
        clear hK K hHeld5
        (try simp only [Act.put, List.setIfInBounds_toArray, List.set_cons_zero, List.set_cons_succ])
        refine wpAnyH_ready (rs := [10]) (by kernel_rfl) (by simp) ?_
        refine AllReadyH.cons (o := ⟨none, _, _, _, _, _⟩) rfl (fun K hK => ?_) AllReadyH.nil
        go_simp
        refine hK.out _ _ ?_ (fun hHeld7 => ?_)
        · ((try dsimp only); first | go_keep | (trace_state; fail))
        clear hK K hHeld6
        (try simp only [Act.put, List.setIfInBounds_toArray, List.set_cons_zero, List.set_cons_succ])
        refine wpAnyH_done (by kernel_rfl) ?_ _
        have K4 := Kb.put 1 rfl (decide (N < 0)) D2 o2 r2
        simp only [List.set] at K4
        have K5 := K4.put 0 rfl (decide (P < 0)) B m e
        simp only [List.set] at K5
        go_wp2_with fail
        (try simp only [i4])
        go_roundg j
        case rel => exact ⟨rfl, by omega, N, P, D2, o2, r2, B, m, e, HN1.out, HN2.out, K5.ints_ ⟨K5.ints.1, K5.ints.2.2.2.1, trivial⟩⟩
        case measure => omega
      refine AllReadyH.cons (o := ⟨some 23, _, _, _, _, _⟩) rfl (fun K hK => ?_) AllReadyH.nil
      go_simp
      refine hK.out _ _ ?_ (fun hHeld1 => ?_)
      · ((try dsimp only); first | go_keep | (trace_state; fail))
      clear hK K hHeld0
      (try simp only [Act.put, List.setIfInBounds_toArray, List.set_cons_zero, List.set_cons_succ])
      refine wpAnyH_ready (rs := [4, 6]) (by kernel_rfl) (by simp) ?_
      refine AllReadyH.cons (o := ⟨some 19, _, _, _, _, _⟩) rfl (fun K hK => ?_) ?_
      · skip
        go_simp
        refine hK.out _ _ ?_ (fun hHeld2 => ?_)
        · ((try dsimp only); first | go_keep | (trace_state; fail))
        clear hK K hHeld1
        (try simp only [Act.put, List.setIfInBounds_toArray, List.set_cons_zero, List.set_cons_succ])
        refine wpAnyH_ready (rs := [5, 6]) (by kernel_rfl) (by simp) ?_
        refine AllReadyH.cons (o := ⟨some 20, _, _, _, _, _⟩) rfl (fun K hK => ?_) ?_
        · skip
          go_simp
          have j1 := Kd.ints.1.ci kt
          have j2 := Kd.ints.2.1.ci kP
          (go_at_call 34; (with_reducible refine (mul_at j1 j2).mono ?_); rw [HRr.out]; rintro ee wa ⟨D1, o1, r1, rfl, d1, u1, v1, ga⟩)
          (try go_wp2_with fail)
          have Ka := (Kd.call ga).add (CanAt.mk_ d1 u1 v1)
          clear p0 p1 p2 p3 c0 c1 f0 f1 f2 f3
          obtain ⟨⟨p2, p3⟩, ⟨p0, p1⟩, _⟩ := Ka.facts
          obtain ⟨f2, f3⟩ := Ka.free (i := 0) rfl
          obtain ⟨f0, f1⟩ := Ka.free (i := 1) rfl
          obtain ⟨c0, c1⟩ := HC.out.call hg Ka.below
          (try dsimp only at c0 c1)
          refine hK.out _ _ ?_ (fun hHeld3 => ?_)
          · ((try dsimp only); first | go_keep | (trace_state; fail))
          clear hK K hHeld2
          (try simp only [Act.put, List.setIfInBounds_toArray, List.set_cons_zero, List.set_cons_succ])
          refine wpAnyH_ready (rs := [6]) (by kernel_rfl) (by simp) ?_
          refine AllReadyH.cons (o := ⟨some 21, _, _, _, _, _⟩) rfl (fun K hK => ?_) AllReadyH.nil
          go_simp
          refine hK.out _ _ ?_ (fun hHeld4 => ?_)
          · ((try dsimp only); first | go_keep | (trace_state; fail))
          clear hK K hHeld3
          (try simp only [Act.put, List.setIfInBounds_toArray, List.set_cons_zero, List.set_cons_succ])
          refine wpAnyH_ready (rs := [7]) (by kernel_rfl) (by simp) ?_
          refine AllReadyH.cons (o := ⟨some 22, _, _, _, _, _⟩) rfl (fun K hK => ?_) AllReadyH.nil
          go_simp
          have jR := Ka.ints.1.ci kR
          have jQ := Ka.ints.2.2.2.1.ci kQ
          (go_at_call 46; (with_reducible refine (add_at jR jQ).mono ?_); rw [HNn.out]; rintro ee wb ⟨D2, o2, r2, rfl, d2, u2, v2, gb⟩)
          (try go_wp2_with fail)
          have Kb := (Ka.call gb).add (CanAt.mk_ d2 u2 v2)
          clear p0 p1 p2 p3 c0 c1 f0 f1 f2 f3
          obtain ⟨⟨p2, p3⟩, ⟨p0, p1⟩, _⟩ := Kb.facts
          obtain ⟨f2, f3⟩ := Kb.free (i := 0) rfl
          obtain ⟨f0, f1⟩ := Kb.free (i := 1) rfl
          obtain ⟨c0, c1⟩ := HC.out.call hg Kb.below
          (try dsimp only at c0 c1)
          refine hK.out _ _ ?_ (fun hHeld5 => ?_)
          · ((try dsimp only); first | go_keep | (trace_state; fail))
          clear hK K hHeld4
          (try simp only [Act.put, List.setIfInBounds_toArray, List.set_cons_zero, List.set_cons_succ])
          refine wpAnyH_ready (rs := [9]) (by kernel_rfl) (by simp) ?_
          refine AllReadyH.cons (o := ⟨none, _, _, _, _, _⟩) rfl (fun K hK => ?_) AllReadyH.nil
          go_simp
          refine hK.out _ _ ?_ (fun hHeld6 => ?_)
          · ((try dsimp only); first | go_keep | (trace_state; fail))
          clear hK K hHeld5
          (try simp only [Act.put, List.setIfInBounds_toArray, List.set_cons_zero, List.set_cons_succ])
          refine wpAnyH_ready (rs := [10]) (by kernel_rfl) (by simp) ?_
          refine AllReadyH.cons (o := ⟨none, _, _, _, _, _⟩) rfl (fun K hK => ?_) AllReadyH.nil
          go_simp
          refine hK.out _ _ ?_ (fun hHeld7 => ?_)
          · ((try dsimp only); first | go_keep | (trace_state; fail))
          clear hK K hHeld6
          (try simp only [Act.put, List.setIfInBounds_toArray, List.set_cons_zero, List.set_cons_succ])
          refine wpAnyH_done (by kernel_rfl) ?_ _
          have K4 := Kb.put 1 rfl (decide (N < 0)) D2 o2 r2
          simp only [List.set] at K4
          have K5 := K4.put 0 rfl (decide (P < 0)) B m e
          simp only [List.set] at K5
          go_wp2_with fail
          (try simp only [i4])
          go_roundg j
          case rel => exact ⟨rfl, by omega, N, P, D2, o2, r2, B, m, e, HN1.out, HN2.out, K5.ints_ ⟨K5.ints.1, K5.ints.2.2.2.1, trivial⟩⟩
          case measure => omega
        refine AllReadyH.cons (o := ⟨some 21, _, _, _, _, _⟩) rfl (fun K hK => ?_) AllReadyH.nil
        go_simp
        refine hK.out _ _ ?_ (fun hHeld3 => ?_)
        · ((try dsimp only); first | go_keep | (trace_state; fail))
        clear hK K hHeld2
        (try simp only [Act.put, List.setIfInBounds_toArray, List.set_cons_zero, List.set_cons_succ])
        refine wpAnyH_ready (rs := [5]) (by kernel_rfl) (by simp) ?_
        refine AllReadyH.cons (o := ⟨some 20, _, _, _, _, _⟩) rfl (fun K hK => ?_) AllReadyH.nil
        go_simp
        have j1 := Kd.ints.1.ci kt
        have j2 := Kd.ints.2.1.ci kP
        (go_at_call 34; (with_reducible refine (mul_at j1 j2).mono ?_); rw [HRr.out]; rintro ee wa ⟨D1, o1, r1, rfl, d1, u1, v1, ga⟩)
        (try go_wp2_with fail)
        have Ka := (Kd.call ga).add (CanAt.mk_ d1 u1 v1)
        clear p0 p1 p2 p3 c0 c1 f0 f1 f2 f3
        obtain ⟨⟨p2, p3⟩, ⟨p0, p1⟩, _⟩ := Ka.facts
        obtain ⟨f2, f3⟩ := Ka.free (i := 0) rfl
        obtain ⟨f0, f1⟩ := Ka.free (i := 1) rfl
        obtain ⟨c0, c1⟩ := HC.out.call hg Ka.below
        (try dsimp only at c0 c1)
        refine hK.out _ _ ?_ (fun hHeld4 => ?_)
        · ((try dsimp only); first | go_keep | (trace_state; fail))
        clear hK K hHeld3
        (try simp only [Act.put, List.setIfInBounds_toArray, List.set_cons_zero, List.set_cons_succ])
        refine wpAnyH_ready (rs := [7]) (by kernel_rfl) (by simp) ?_
        refine AllReadyH.cons (o := ⟨some 22, _, _, _, _, _⟩) rfl (fun K hK => ?_) AllReadyH.nil
        go_simp
        have jR := Ka.ints.1.ci kR
        have jQ := Ka.ints.2.2.2.1.ci kQ
        (go_at_call 46; (with_reducible refine (add_at jR jQ).mono ?_); rw [HNn.out]; rintro ee wb ⟨D2, o2, r2, rfl, d2, u2, v2, gb⟩)
        (try go_wp2_with fail)
        have Kb := (Ka.call gb).add (CanAt.mk_ d2 u2 v2)
        clear p0 p1 p2 p3 c0 c1 f0 f1 f2 f3
        obtain ⟨⟨p2, p3⟩, ⟨p0, p1⟩, _⟩ := Kb.facts
        obtain ⟨f2, f3⟩ := Kb.free (i := 0) rfl
        obtain ⟨f0, f1⟩ := Kb.free (i := 1) rfl
        obtain ⟨c0, c1⟩ := HC.out.call hg Kb.below
        (try dsimp only at c0 c1)
        refine hK.out _ _ ?_ (fun hHeld5 => ?_)
        · ((try dsimp only); first | go_keep | (trace_state; fail))
        clear hK K hHeld4
        (try simp only [Act.put, List.setIfInBounds_toArray, List.set_cons_zero, List.set_cons_succ])
        refine wpAnyH_ready (rs := [9]) (by kernel_rfl) (by simp) ?_
        refine AllReadyH.cons (o := ⟨none, _, _, _, _, _⟩) rfl (fun K hK => ?_) AllReadyH.nil
        go_simp
        refine hK.out _ _ ?_ (fun hHeld6 => ?_)
        · ((try dsimp only); first | go_keep | (trace_state; fail))
        clear hK K hHeld5
        (try simp only [Act.put, List.setIfInBounds_toArray, List.set_cons_zero, List.set_cons_succ])
        refine wpAnyH_ready (rs := [10]) (by kernel_rfl) (by simp) ?_
        refine AllReadyH.cons (o := ⟨none, _, _, _, _, _⟩) rfl (fun K hK => ?_) AllReadyH.nil
        go_simp
        refine hK.out _ _ ?_ (fun hHeld7 => ?_)
        · ((try dsimp only); first | go_keep | (trace_state; fail))
        clear hK K hHeld6
        (try simp only [Act.put, List.setIfInBounds_toArray, List.set_cons_zero, List.set_cons_succ])
        refine wpAnyH_done (by kernel_rfl) ?_ _
        have K4 := Kb.put 1 rfl (decide (N < 0)) D2 o2 r2
        simp only [List.set] at K4
        have K5 := K4.put 0 rfl (decide (P < 0)) B m e
        simp only [List.set] at K5
        go_wp2_with fail
        (try simp only [i4])
        go_roundg j
        case rel => exact ⟨rfl, by omega, N, P, D2, o2, r2, B, m, e, HN1.out, HN2.out, K5.ints_ ⟨K5.ints.1, K5.ints.2.2.2.1, trivial⟩⟩
        case measure => omega
      refine AllReadyH.cons (o := ⟨some 21, _, _, _, _, _⟩) rfl (fun K hK => ?_) AllReadyH.nil
      go_simp
      refine hK.out _ _ ?_ (fun hHeld2 => ?_)
      · ((try dsimp only); first | go_keep | (trace_state; fail))
      clear hK K hHeld1
      (try simp only [Act.put, List.setIfInBounds_toArray, List.set_cons_zero, List.set_cons_succ])
      refine wpAnyH_ready (rs := [4]) (by kernel_rfl) (by simp) ?_
      refine AllReadyH.cons (o := ⟨some 19, _, _, _, _, _⟩) rfl (fun K hK => ?_) AllReadyH.nil
      go_simp
      refine hK.out _ _ ?_ (fun hHeld3 => ?_)
      · ((try dsimp only); first | go_keep | (trace_state; fail))
      clear hK K hHeld2
      (try simp only [Act.put, List.setIfInBounds_toArray, List.set_cons_zero, List.set_cons_succ])
      refine wpAnyH_ready (rs := [5]) (by kernel_rfl) (by simp) ?_
      refine AllReadyH.cons (o := ⟨some 20, _, _, _, _, _⟩) rfl (fun K hK => ?_) AllReadyH.nil
      go_simp
      have j1 := Kd.ints.1.ci kt
      have j2 := Kd.ints.2.1.ci kP
      (go_at_call 34; (with_reducible refine (mul_at j1 j2).mono ?_); rw [HRr.out]; rintro ee wa ⟨D1, o1, r1, rfl, d1, u1, v1, ga⟩)
      (try go_wp2_with fail)
      have Ka := (Kd.call ga).add (CanAt.mk_ d1 u1 v1)
      clear p0 p1 p2 p3 c0 c1 f0 f1 f2 f3
      obtain ⟨⟨p2, p3⟩, ⟨p0, p1⟩, _⟩ := Ka.facts
      obtain ⟨f2, f3⟩ := Ka.free (i := 0) rfl
      obtain ⟨f0, f1⟩ := Ka.free (i := 1) rfl
      obtain ⟨c0, c1⟩ := HC.out.call hg Ka.below
      (try dsimp only at c0 c1)
      refine hK.out _ _ ?_ (fun hHeld4 => ?_)
      · ((try dsimp only); first | go_keep | (trace_state; fail))
      clear hK K hHeld3
      (try simp only [Act.put, List.setIfInBounds_toArray, List.set_cons_zero, List.set_cons_succ])
      refine wpAnyH_ready (rs := [7]) (by kernel_rfl) (by simp) ?_
      refine AllReadyH.cons (o := ⟨some 22, _, _, _, _, _⟩) rfl (fun K hK => ?_) AllReadyH.nil
      go_simp
      have jR := Ka.ints.1.ci kR
      have jQ := Ka.ints.2.2.2.1.ci kQ
      (go_at_call 46; (with_reducible refine (add_at jR jQ).mono ?_); rw [HNn.out]; rintro ee wb ⟨D2, o2, r2, rfl, d2, u2, v2, gb⟩)
      (try go_wp2_with fail)
      have Kb := (Ka.call gb).add (CanAt.mk_ d2 u2 v2)
      clear p0 p1 p2 p3 c0 c1 f0 f1 f2 f3
      obtain ⟨⟨p2, p3⟩, ⟨p0, p1⟩, _⟩ := Kb.facts
      obtain ⟨f2, f3⟩ := Kb.free (i := 0) rfl
      obtain ⟨f0, f1⟩ := Kb.free (i := 1) rfl
      obtain ⟨c0, c1⟩ := HC.out.call hg Kb.below
      (try dsimp only at c0 c1)
      refine hK.out _ _ ?_ (fun hHeld5 => ?_)
      · ((try dsimp only); first | go_keep | (trace_state; fail))
      clear hK K hHeld4
      (try simp only [Act.put, List.setIfInBounds_toArray, List.set_cons_zero, List.set_cons_succ])
      refine wpAnyH_ready (rs := [9]) (by kernel_rfl) (by simp) ?_
      refine AllReadyH.cons (o := ⟨none, _, _, _, _, _⟩) rfl (fun K hK => ?_) AllReadyH.nil
      go_simp
      refine hK.out _ _ ?_ (fun hHeld6 => ?_)
      · ((try dsimp only); first | go_keep | (trace_state; fail))
      clear hK K hHeld5
      (try simp only [Act.put, List.setIfInBounds_toArray, List.set_cons_zero, List.set_cons_succ])
      refine wpAnyH_ready (rs := [10]) (by kernel_rfl) (by simp) ?_
      refine AllReadyH.cons (o := ⟨none, _, _, _, _, _⟩) rfl (fun K hK => ?_) AllReadyH.nil
      go_simp
      refine hK.out _ _ ?_ (fun hHeld7 => ?_)
      · ((try dsimp only); first | go_keep | (trace_state; fail))
      clear hK K hHeld6
      (try simp only [Act.put, List.setIfInBounds_toArray, List.set_cons_zero, List.set_cons_succ])
      refine wpAnyH_done (by kernel_rfl) ?_ _
      have K4 := Kb.put 1 rfl (decide (N < 0)) D2 o2 r2
      simp only [List.set] at K4
      have K5 := K4.put 0 rfl (decide (P < 0)) B m e
      simp only [List.set] at K5
      go_wp2_with fail
      (try simp only [i4])
      go_roundg j
      case rel => exact ⟨rfl, by omega, N, P, D2, o2, r2, B, m, e, HN1.out, HN2.out, K5.ints_ ⟨K5.ints.1, K5.ints.2.2.2.1, trivial⟩⟩
      case measure => omega
end Go.Proofs.Ytgjkgmlcfieodaa

