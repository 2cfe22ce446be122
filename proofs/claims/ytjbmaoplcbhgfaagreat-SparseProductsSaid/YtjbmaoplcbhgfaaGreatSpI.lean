/-
  The reference's Dot.
-/
import Derived.Test.YtjbmaoplcbhgfaaGreatRatN
import Derived.Deep.RegionHeld3
set_option linter.unusedVariables false
set_option linter.unusedSimpArgs false
namespace Go.Proofs.YtjbmaoplcbhgfaaGreat
open Go.RowKit

set_option maxHeartbeats 32000000 in
set_option maxRecDepth 100000 in
theorem rdot_at {w : World} {A B : Option Addr} {c d : Nat} {l m : List VE} {n : Int} (hA : VL w A l) (hB : VL w B m) (h1 : valid l n = 0) (h2 : valid m n = 0) (hSa : ∀ x ∈ l, FE.S 12 x.e) (hSb : ∀ x ∈ m, FE.S 12 x.e) (hN : ∀ x ∈ l, LtE x)
    (hl : l.length + m.length ≤ 60) :
    Calls Tryz.prog 10 #[.slice A l.length c, .slice B m.length d, .int .i64 n] w (RetFE w (dotQ n.toNat (l.map VE.q) (m.map VE.q)).num ((dotQ n.toNat (l.map VE.q) (m.map VE.q)).den : Int) 0) := by
  obtain ⟨hn0, hn1, hr1⟩ := valid_zero h1
  obtain ⟨_, _, hr2⟩ := valid_zero h2
  have o1 := ok_q.1 hr1
  have o2 := ok_q.1 hr2
  have hv1 := fun w' (hb : Below w.heap.size w w') => rvalid_at (w := w') (c := c) (n := n) (hA.call hb) (fun e he => (hSa e he).mono (by decide)) (by omega) (by omega) (by omega)
  have hv2 := fun w' (hb : Below w.heap.size w w') => rvalid_at (w := w') (c := d) (n := n) (hB.call hb) (fun e he => (hSb e he).mono (by decide)) (by omega) (by omega) (by omega)
  have hat := fun w' (i : Int) (hb : Below w.heap.size w w') => rat_at (w := w') (c := d) (i := i) (hB.call hb) (fun e he => (hSb e he).mono (by decide)) (by omega)
  simp only [h1] at hv1
  simp only [h2] at hv2
  obtain ⟨N, rfl⟩ : ∃ N : Nat, n = N := ⟨n.toNat, by omega⟩
  rw [Int.toNat_natCast]
  obtain ⟨QA, EA⟩ : ∃ q, q = l.map VE.q := ⟨_, rfl⟩
  obtain ⟨QB, EB⟩ : ∃ q, q = m.map VE.q := ⟨_, rfl⟩
  have lenA : QA.length = l.length := by rw [EA, List.length_map]
  have lenB : QB.length = m.length := by rw [EB, List.length_map]
  have qna := ve_qn hSa
  have qnb := ve_qn hSb
  rw [← EA] at o1 qna
  rw [← EB] at o2 qnb
  have HSZ : Hid (∀ k, SzQ (dotQ N (QA.take k) QB) 872) := fun k => dotQ_size2 (okQ_take o1 k) o2 (fun x hx => qna x (List.mem_of_mem_take hx)) qnb (by decide) (fun k' h1 h2 => by rw [List.length_take] at h1; omega)
  have HSTEP : Hid (∀ k x, l[k]? = some x → dotQ N (QA.take (k + 1)) QB = dotQ N (QA.take k) QB + qv x.e.a x.e.b * atQ QB x.k) := fun k x hx => by
    have : QA[k]? = some (VE.q x) := by rw [EA, List.getElem?_map, hx]; rfl
    exact dotQ_take o1 this
  have HATQ : Hid (∀ i, atV m i = ((atQ QB i).num, ((atQ QB i).den : Int))) := fun i => by rw [EB]; exact atV_q m i
  have HATS : Hid (∀ i, SzQ (atQ QB i) 14) := fun i => by
    have h3 : ∀ (q : QV), (∀ y ∈ q, QN 12 y.2) → SzQ (atQ q i) 14 := by
      intro q
      induction q with
      | nil => intro _; exact ⟨Sz.zero _, (sz_i64 (x := 1) (by decide) (by decide)).mono (by decide)⟩
      | cons y q ih =>
        intro h
        unfold atQ
        split
        · obtain ⟨a, b, z1, z2, e⟩ := h y (by simp)
          rw [e]
          exact SzQ.of z1 z2 (by decide)
        · exact ih fun z hz => h z (by simp [hz])
    exact h3 QB qnb
  have HQ0 : Hid ((dotQ N (QA.take 0) QB).num = 0 ∧ ((dotQ N (QA.take 0) QB).den : Int) = 1) := by
    unfold Hid
    rw [List.take_zero, dotQ_nil]
    exact ⟨rfl, rfl⟩
  have HQL : Hid (QA.take l.length = QA) := List.take_of_length_le (by rw [lenA]; exact Nat.le_refl _)
  rw [← EA, ← EB]
  clear h1 h2 hr1 hr2 o1 o2 qna qnb lenA lenB EA EB
  have HF := Lib.hid hA
  have HSA := Lib.hid hSa
  have HNN := Lib.hid hN
  clear hA hB hSa hSb hN
  obtain ⟨L, HL⟩ : ∃ v, Hid (l.length = v) := ⟨_, rfl⟩
  obtain ⟨M, HM⟩ : ∃ v, Hid (m.length = v) := ⟨_, rfl⟩
  have hL60 : L ≤ 60 := by rw [← HL.out]; omega
  simp only [HL.out, HM.out] at hv1 hv2 hat HQL ⊢
  clear hl
  have HH := Lib.hid ((St.start w).new 28 (Plains.four false none 0 0 false none 0 0))
  go_enter Tryz.func10, Tryz.ntmps10
  go_upto_region 7 with (first
    | (go_at_call 26; (with_reducible refine (hv1 _ HH.out.below).mono ?_); clear hv1; rintro e w1 ⟨rfl, g1⟩; have K1 := HH.out.call g1)
    | (go_at_call 26; (with_reducible refine (hv2 _ K1.below).mono ?_); clear hv2; rintro e w2 ⟨rfl, g2⟩; have K2 := K1.call g2)
    | fail)
  clear HH K1 g1 g2
  obtain ⟨u0, HU0⟩ : ∃ v, Hid ((dotQ N (QA.take 0) QB).num = v) := ⟨_, rfl⟩
  obtain ⟨v0, HV0⟩ : ∃ v, Hid (((dotQ N (QA.take 0) QB).den : Int) = v) := ⟨_, rfl⟩
  have hz : ∀ w', Calls Tryz.prog 23 #[.int .i64 0] w' (RetFr w' u0 v0) := fun w' => by
    rw [← HU0.out, ← HV0.out, HQ0.out.1, HQ0.out.2]; exact rzero_any w'
  go_upto_region 9 with (first
    | (go_at_call 23; (with_reducible refine (hz _).mono ?_); clear hz; rintro e w3 ⟨B1, m1, k1, B2, m2, k2, rfl, d1, d2, g3⟩; have K3 := (((K2.call g3).add d2).add d1).new 28 (Plains.four (decide (u0 < 0)) B1 m1 k1 (decide (v0 < 0)) B2 m2 k2))
    | fail)
  clear K2 d1 d2 g3
  generalize w3.alloc (.cells #[.bool (decide (u0 < 0)), .slice B1 m1 k1, .bool (decide (v0 < 0)), .slice B2 m2 k2] 28) = W3 at K3 ⊢
  generalize w3.heap.size = h3 at K3 ⊢
  have HI : SuI w W3 h3 (dotQ N (QA.take 0) QB).num ((dotQ N (QA.take 0) QB).den : Int) := by rw [HU0.out, HV0.out]; exact ⟨B1, m1, k1, B2, m2, k2, K3⟩
  clear K3
  go_loopg [11] L (fun r i wr => ∃ k : Nat, k + r = L ∧ i = .int .i64 k ∧ SuI w wr h3 (dotQ N (QA.take k) QB).num ((dotQ N (QA.take k) QB).den : Int))
  case atStart => exact ⟨0, by omega, rfl, HI⟩
  case round =>
    clear HI
    obtain ⟨k, hk, rfl, hI⟩ := hrel
    have hz := HSZ.out k
    obtain ⟨x, HX⟩ : ∃ v, Hid ((dotQ N (QA.take k) QB).num = v) := ⟨_, rfl⟩
    obtain ⟨y, HY⟩ : ∃ v, Hid (((dotQ N (QA.take k) QB).den : Int) = v) := ⟨_, rfl⟩
    unfold SzQ at hz
    rw [HX.out, HY.out] at hI hz
    obtain ⟨C1, n1, t1, C2, n2, t2, K⟩ := hI
    by_cases hlt : k < L
    · obtain ⟨z, hzz⟩ : ∃ z, l[k]? = some z := ⟨l[k]'(by rw [HL.out]; exact hlt), List.getElem?_eq_getElem _⟩
      have hmem : z ∈ l := List.mem_of_getElem? hzz
      obtain ⟨g, o, hAA, hg, hcell⟩ := HF.out.2 (by rw [HL.out]; omega)
      have hin := (hcell k z hzz).call hg K.below
      have hgw : g < wr.heap.size := Nat.lt_of_lt_of_le hg K.below.size
      have hfat := HF.out.1 z hmem
      have hsm := HSA.out z hmem
      have hn12 := HNN.out z hmem
      have hst := HSTEP.out k z hzz
      have hav := HATQ.out z.k
      have has := HATS.out z.k
      have hatz := fun w' hb => hat w' z.k hb
      obtain ⟨u, HU⟩ : ∃ v, Hid ((dotQ N (QA.take (k + 1)) QB).num = v) := ⟨_, rfl⟩
      obtain ⟨v, HV⟩ : ∃ v, Hid (((dotQ N (QA.take (k + 1)) QB).den : Int) = v) := ⟨_, rfl⟩
      obtain ⟨p, HP⟩ : ∃ v, Hid ((atQ QB z.k).num = v) := ⟨_, rfl⟩
      obtain ⟨q, HQ⟩ : ∃ v, Hid (((atQ QB z.k).den : Int) = v) := ⟨_, rfl⟩
      obtain ⟨e, HE⟩ : ∃ v, Hid ((qv z.e.a z.e.b * atQ QB z.k).num = v) := ⟨_, rfl⟩
      obtain ⟨f, HFf⟩ : ∃ v, Hid (((qv z.e.a z.e.b * atQ QB z.k).den : Int) = v) := ⟨_, rfl⟩
      have HMUL : Hid (rn (z.e.a * p) (z.e.b * q) = e ∧ rd (z.e.a * p) (z.e.b * q) = f) := by
        have := mul_q z.e.a z.e.b p q
        rw [show qv p q = atQ QB z.k by rw [← HP.out, ← HQ.out, qv_nd]] at this
        unfold Hid
        rw [← HE.out, ← HFf.out]
        exact this
      have HADD : Hid (aN x y e f = u ∧ aD x y e f = v) := by
        have := aN_q x y e f
        rw [show qv x y = dotQ N (QA.take k) QB by rw [← HX.out, ← HY.out, qv_nd], show qv e f = qv z.e.a z.e.b * atQ QB z.k by rw [← HE.out, ← HFf.out, qv_nd], ← hst] at this
        unfold Hid
        rw [← HU.out, ← HV.out]
        exact this
      rw [HP.out, HQ.out] at hav
      simp only [hav] at hatz
      unfold SzQ at has
      rw [HP.out, HQ.out] at has
      clear hst hav hcell hzz hmem
      obtain ⟨zk, s, P, pn, pc, s', P', qn, qc, a, b⟩ := z
      obtain ⟨ck, c0, c1, c2, c3⟩ := hin
      simp only at ck c0 c1 c2 c3 HMUL hatz
      obtain ⟨za, zb⟩ := hsm
      simp only at za zb
      have za9 : Sz a 900 := za.mono (by decide)
      have zb9 : Sz b 900 := zb.mono (by decide)
      have zp9 : Sz p 900 := has.1.mono (by decide)
      have zq9 : Sz q 900 := has.2.mono (by decide)
      have zx9 : Sz x 910 := hz.1.mono (by decide)
      have zy9 : Sz y 910 := hz.2.mono (by decide)
      have HZM : Hid (Sz e 910 ∧ Sz f 910) := by
        unfold Hid
        rw [← HMUL.out.1, ← HMUL.out.2]
        exact ⟨(sz_rn (za.mul has.1)).mono (by decide), (sz_rd (zb.mul has.2) (by decide)).mono (by decide)⟩
      have HFA := Lib.hid hfat
      have HHN := Lib.hid hn12
      subst hAA
      have HK := Lib.hid hk
      have HLT := Lib.hid hlt
      have j0 : (0 : Int) ≤ (k : Int) := by omega
      have j1 : (k : Int) < (L : Int) := by omega
      have HGG := Lib.hid hgw
      have HG0 := Lib.hid hg
      have HGD := Lib.hid (show g < wr.drew.heap.size from hgw)
      have hb := K.below.size
      have hlt3 := K.lt (i := 0) rfl
      clear hk hz hfat hn12
      go_upto_region 11 with fail
      have KD := K.drew
      obtain ⟨⟨p0, p1, p2, p3⟩, _⟩ := K.facts
      have HNE : Hid (¬ h3 = g) := by have h9 := K.1.1.2.2.1; have h8 := HG0.out; unfold Hid; omega
      clear K
      refine wp_region_held_drew (S := fun w' => w'.cell? ⟨g, o + k * 5, none⟩ = some (.int .i64 zk) ∧ w'.cell? ⟨g, o + k * 5 + 1, none⟩ = some (.bool s) ∧ w'.cell? ⟨g, o + k * 5 + 1 + 1, none⟩ = some (.slice P pn pc) ∧ w'.cell? ⟨g, o + k * 5 + 1 + 2, none⟩ = some (.bool s') ∧ w'.cell? ⟨g, o + k * 5 + 1 + 3, none⟩ = some (.slice P' qn qc)) (by kernel_rfl) ?_ (fun hHeld0 => ?_)
      · ((try dsimp only); first | exact ⟨ck, c0, c1, c2, c3⟩ | go_keep | (trace_state; fail))
      refine wpAnyH_take (i := 1) (oi := ⟨some 34, _, _, _, _, _⟩) (v := ?_) rfl (by kernel_rfl) (by kernel_rfl) (by kernel_rfl) (fun _ _ _ h => h) (Or.inl ⟨by rfl, ?_⟩) (by assumption) ?_
      rotate_left
      · (intro w' hSw; (try dsimp only at hSw); go_simp; (try with_reducible rfl))
      (try simp only [Act.put, List.setIfInBounds_toArray, List.set_cons_zero, List.set_cons_succ])
      refine wpAnyH_take (i := 2) (oi := ⟨some 35, _, _, _, _, _⟩) (v := ?_) rfl (by kernel_rfl) (by kernel_rfl) (by kernel_rfl) (fun _ _ _ h => h) (Or.inl ⟨by rfl, ?_⟩) (by assumption) ?_
      rotate_left
      · (intro w' hSw; (try dsimp only at hSw); go_simp; (try with_reducible rfl))
      (try simp only [Act.put, List.setIfInBounds_toArray, List.set_cons_zero, List.set_cons_succ])
      refine wpAnyH_take (i := 3) (oi := ⟨some 36, _, _, _, _, _⟩) (v := ?_) rfl (by kernel_rfl) (by kernel_rfl) (by kernel_rfl) (fun _ _ _ h => h) (Or.inl ⟨by rfl, ?_⟩) (by assumption) ?_
      rotate_left
      · (intro w' hSw; (try dsimp only at hSw); go_simp; (try with_reducible rfl))
      (try simp only [Act.put, List.setIfInBounds_toArray, List.set_cons_zero, List.set_cons_succ])
      refine wpAnyH_take (i := 4) (oi := ⟨some 37, _, _, _, _, _⟩) (v := ?_) rfl (by kernel_rfl) (by kernel_rfl) (by kernel_rfl) (fun _ _ _ h => h) (Or.inl ⟨by rfl, ?_⟩) (by assumption) ?_
      rotate_left
      · (intro w' hSw; (try dsimp only at hSw); go_simp; (try with_reducible rfl))
      (try simp only [Act.put, List.setIfInBounds_toArray, List.set_cons_zero, List.set_cons_succ])
      refine wpAnyH_take (i := 5) (oi := ⟨some 38, _, _, _, _, _⟩) (v := ?_) rfl (by kernel_rfl) (by kernel_rfl) (by kernel_rfl) (fun _ _ _ h => h) (Or.inl ⟨by rfl, ?_⟩) (by assumption) ?_
      rotate_left
      · (intro w' hSw; (try dsimp only at hSw); go_simp; (try with_reducible rfl))
      (try simp only [Act.put, List.setIfInBounds_toArray, List.set_cons_zero, List.set_cons_succ])
      refine wpAnyH_take (i := 6) (oi := ⟨some 39, _, _, _, _, _⟩) (v := ?_) rfl (by kernel_rfl) (by kernel_rfl) (by kernel_rfl) (fun _ _ _ h => h) (Or.inl ⟨by rfl, ?_⟩) (by assumption) ?_
      rotate_left
      · (intro w' hSw; (try dsimp only at hSw); go_simp; (try with_reducible rfl))
      (try simp only [Act.put, List.setIfInBounds_toArray, List.set_cons_zero, List.set_cons_succ])
      refine wpAnyH_take (i := 7) (oi := ⟨some 40, _, _, _, _, _⟩) (v := ?_) rfl (by kernel_rfl) (by kernel_rfl) (by kernel_rfl) (fun _ _ _ h => h) (Or.inl ⟨by rfl, ?_⟩) (by assumption) ?_
      rotate_left
      · (intro w' hSw; (try dsimp only at hSw); go_simp; (try with_reducible rfl))
      (try simp only [Act.put, List.setIfInBounds_toArray, List.set_cons_zero, List.set_cons_succ])
      refine wpAnyH_take (i := 8) (oi := ⟨some 41, _, _, _, _, _⟩) (v := ?_) rfl (by kernel_rfl) (by kernel_rfl) (by kernel_rfl) (fun _ _ _ h => h) (Or.inl ⟨by rfl, ?_⟩) (by assumption) ?_
      rotate_left
      · (intro w' hSw; (try dsimp only at hSw); go_simp; (try with_reducible rfl))
      (try simp only [Act.put, List.setIfInBounds_toArray, List.set_cons_zero, List.set_cons_succ])
      refine wpAnyH_take (i := 9) (oi := ⟨some 42, _, _, _, _, _⟩) (v := ?_) rfl (by kernel_rfl) (by kernel_rfl) (by kernel_rfl) (fun _ _ _ h => h) (Or.inl ⟨by rfl, ?_⟩) (by assumption) ?_
      rotate_left
      · (intro w' hSw; (try dsimp only at hSw); go_simp; (try with_reducible rfl))
      (try simp only [Act.put, List.setIfInBounds_toArray, List.set_cons_zero, List.set_cons_succ])
      refine wpAnyH_take (i := 10) (oi := ⟨some 43, _, _, _, _, _⟩) (v := ?_) rfl (by kernel_rfl) (by kernel_rfl) (by kernel_rfl) (fun _ _ _ h => h) (Or.inl ⟨by rfl, ?_⟩) (by assumption) ?_
      rotate_left
      · (intro w' hSw; (try dsimp only at hSw); go_simp; (try with_reducible rfl))
      (try simp only [Act.put, List.setIfInBounds_toArray, List.set_cons_zero, List.set_cons_succ])
      refine wpAnyH_take (i := 11) (oi := ⟨some 44, _, _, _, _, _⟩) (v := ?_) rfl (by kernel_rfl) (by kernel_rfl) (by kernel_rfl) (fun _ _ _ h => h) (Or.inl ⟨by rfl, ?_⟩) (by assumption) ?_
      rotate_left
      · (intro w' hSw; (try dsimp only at hSw); go_simp; (try with_reducible rfl))
      (try simp only [Act.put, List.setIfInBounds_toArray, List.set_cons_zero, List.set_cons_succ])
      refine wpAnyH_ready (rs := [0, 12]) (by kernel_rfl) (by simp) ?_
      refine AllReadyH.cons (o := ⟨some 33, _, _, _, _, _⟩) rfl (fun K hK => ?_) ?_
      · skip
        go_simp
        refine hK.out _ _ ?_ (fun hHeld1 => ?_)
        · ((try dsimp only); first | exact ⟨ck, c0, c1, c2, c3⟩ | go_keep | (trace_state; fail))
        clear hK K hHeld0
        (try simp only [Act.put, List.setIfInBounds_toArray, List.set_cons_zero, List.set_cons_succ])
        refine wpAnyH_ready (rs := [12]) (by kernel_rfl) (by simp) ?_
        refine AllReadyH.cons (o := ⟨some 45, _, _, _, _, _⟩) rfl (fun K hK => ?_) AllReadyH.nil
        go_simp
        (go_at_call 29; (with_reducible refine (hatz _ (KD).below).mono ?_); rintro ee w4 ⟨D1, o1, r1, D2, o2, r2, rfl, i1, i2, g4⟩)
        (try go_wp2_with fail)
        have K4 := (((KD).call g4).add i2).add i1
        have HG4 := Lib.hid (Nat.lt_of_lt_of_le HGD.out g4.size)
        have dck := ((bcell g4).1 g _ HGD.out).trans ck
        have dc0 := ((bcell g4).1 g _ HGD.out).trans c0
        have dc1 := ((bcell g4).1 g _ HGD.out).trans c1
        have dc2 := ((bcell g4).1 g _ HGD.out).trans c2
        have dc3 := ((bcell g4).1 g _ HGD.out).trans c3
        refine hK.out _ _ ?_ (fun hHeld2 => ?_)
        · ((try dsimp only); first | exact ⟨dck, dc0, dc1, dc2, dc3⟩ | go_keep | (trace_state; fail))
        clear hK K hHeld1
        (try simp only [Act.put, List.setIfInBounds_toArray, List.set_cons_zero, List.set_cons_succ])
        refine wpAnyH_ready (rs := [13]) (by kernel_rfl) (by simp) ?_
        refine AllReadyH.cons (o := ⟨some 46, _, _, _, _, _⟩) rfl (fun K hK => ?_) AllReadyH.nil
        go_simp
        have a1 := HFA.out.1.call K4.below
        have a2 := HFA.out.2.call K4.below
        have a3 := (K4.ints.1.c).at_ zp9.ok
        have a4 := (K4.ints.2.1.c).at_ zq9.ok
        have l3 := (K4.ints.1.c).n_le zp9
        have l4 := (K4.ints.2.1.c).n_le zq9
        have l12 := HHN.out
        unfold LtE at l12
        simp only at a1 a2 l12
        (go_at_call 28; (with_reducible refine (rmulF_at a1 a2 a3 a4 za9 zb9 zp9 zq9 (by omega) (by omega) (by omega) (by omega)).mono ?_); rw [HMUL.out.1, HMUL.out.2]; rintro ee w5 ⟨D3, o3, r3, D4, o4, r4, rfl, i3, i4, g5⟩)
        (try go_wp2_with fail)
        have K5 := ((K4.call g5).add i4).add i3
        have HG5 := Lib.hid (Nat.lt_of_lt_of_le HG4.out g5.size)
        clear a1 a2 a3 a4 l3 l4 l12
        have eck := ((bcell g5).1 g _ HG4.out).trans dck
        have ec0 := ((bcell g5).1 g _ HG4.out).trans dc0
        have ec1 := ((bcell g5).1 g _ HG4.out).trans dc1
        have ec2 := ((bcell g5).1 g _ HG4.out).trans dc2
        have ec3 := ((bcell g5).1 g _ HG4.out).trans dc3
        refine hK.out _ _ ?_ (fun hHeld3 => ?_)
        · ((try dsimp only); first | exact ⟨eck, ec0, ec1, ec2, ec3⟩ | go_keep | (trace_state; fail))
        clear hK K hHeld2
        (try simp only [Act.put, List.setIfInBounds_toArray, List.set_cons_zero, List.set_cons_succ])
        refine wpAnyH_ready (rs := [14]) (by kernel_rfl) (by simp) ?_
        refine AllReadyH.cons (o := ⟨some 47, _, _, _, _, _⟩) rfl (fun K hK => ?_) AllReadyH.nil
        go_simp
        have b1 := (K5.ints.1.c).at_ HZM.out.1.ok
        have b2 := (K5.ints.2.1.c).at_ HZM.out.2.ok
        have b3 := (K5.ints.2.2.2.2.1.c).at_ zx9.ok
        have b4 := (K5.ints.2.2.2.2.2.1.c).at_ zy9.ok
        (go_at_call 27; (with_reducible refine (raddF_at b3 b4 b1 b2 zx9 zy9 HZM.out.1 HZM.out.2).mono ?_); rw [HADD.out.1, HADD.out.2]; rintro ee w6 ⟨D5, o5, r5, D6, o6, r6, rfl, i5, i6, g6⟩)
        (try go_wp2_with fail)
        have K6 := ((K5.call g6).add i6).add i5
        clear b1 b2 b3 b4
        have fck := ((bcell g6).1 g _ HG5.out).trans eck
        have fc0 := ((bcell g6).1 g _ HG5.out).trans ec0
        have fc1 := ((bcell g6).1 g _ HG5.out).trans ec1
        have fc2 := ((bcell g6).1 g _ HG5.out).trans ec2
        have fc3 := ((bcell g6).1 g _ HG5.out).trans ec3
        obtain ⟨⟨z0, z1, z2, z3⟩, _⟩ := K6.facts
        obtain ⟨y0, y1, y2, y3⟩ := K6.free (i := 0) rfl
        have ne1 : ¬ h3 = g := HNE.out
        have ne2 : ¬ g = h3 := fun h => HNE.out h.symm
        refine hK.out _ _ ?_ (fun hHeld4 => ?_)
        · ((try dsimp only); first | exact ⟨fck, fc0, fc1, fc2, fc3⟩ | go_keep | (trace_state; fail))
        clear hK K hHeld3
        (try simp only [Act.put, List.setIfInBounds_toArray, List.set_cons_zero, List.set_cons_succ])
        refine wpAnyH_ready (rs := [15]) (by kernel_rfl) (by simp) ?_
        refine AllReadyH.cons (o := ⟨none, _, _, _, _, _⟩) rfl (fun K hK => ?_) AllReadyH.nil
        go_simp
        refine hK.out _ _ ?_ (fun hHeld5 => ?_)
        · ((try dsimp only); first | exact ⟨fck, fc0, fc1, fc2, fc3⟩ | go_keep | (trace_state; fail))
        clear hK K hHeld4
        (try simp only [Act.put, List.setIfInBounds_toArray, List.set_cons_zero, List.set_cons_succ])
        refine wpAnyH_done (by kernel_rfl) ?_ _
        have K7 := K6.put4 0 rfl (decide (u < 0)) D5 o5 r5 (decide (v < 0)) D6 o6 r6
        simp only [List.set] at K7
        go_wp2_with fail
        go_roundg (gk - 1)
        case rel => exact ⟨k + 1, by have := HK.out; have := HLT.out; omega, by go_num, by rw [HU.out, HV.out]; exact ⟨D5, o5, r5, D6, o6, r6, K7.ints_ ⟨K7.ints.1, K7.ints.2.1, trivial⟩⟩⟩
        case measure => have := HK.out; have := HLT.out; omega
      refine AllReadyH.cons (o := ⟨some 45, _, _, _, _, _⟩) rfl (fun K hK => ?_) AllReadyH.nil
      go_simp
      (go_at_call 29; (with_reducible refine (hatz _ (KD).below).mono ?_); rintro ee w4 ⟨D1, o1, r1, D2, o2, r2, rfl, i1, i2, g4⟩)
      (try go_wp2_with fail)
      have K4 := (((KD).call g4).add i2).add i1
      have HG4 := Lib.hid (Nat.lt_of_lt_of_le HGD.out g4.size)
      have dck := ((bcell g4).1 g _ HGD.out).trans ck
      have dc0 := ((bcell g4).1 g _ HGD.out).trans c0
      have dc1 := ((bcell g4).1 g _ HGD.out).trans c1
      have dc2 := ((bcell g4).1 g _ HGD.out).trans c2
      have dc3 := ((bcell g4).1 g _ HGD.out).trans c3
      clear p0 p1 p2 p3
      obtain ⟨⟨p0, p1, p2, p3⟩, _⟩ := K4.facts
      refine hK.out _ _ ?_ (fun hHeld1 => ?_)
      · ((try dsimp only); first | exact ⟨dck, dc0, dc1, dc2, dc3⟩ | go_keep | (trace_state; fail))
      clear hK K hHeld0
      (try simp only [Act.put, List.setIfInBounds_toArray, List.set_cons_zero, List.set_cons_succ])
      refine wpAnyH_ready (rs := [0, 13]) (by kernel_rfl) (by simp) ?_
      refine AllReadyH.cons (o := ⟨some 33, _, _, _, _, _⟩) rfl (fun K hK => ?_) ?_
      · skip
        go_simp
        refine hK.out _ _ ?_ (fun hHeld2 => ?_)
        · ((try dsimp only); first | exact ⟨dck, dc0, dc1, dc2, dc3⟩ | go_keep | (trace_state; fail))
        clear hK K hHeld1
        (try simp only [Act.put, List.setIfInBounds_toArray, List.set_cons_zero, List.set_cons_succ])
        refine wpAnyH_ready (rs := [13]) (by kernel_rfl) (by simp) ?_
        refine AllReadyH.cons (o := ⟨some 46, _, _, _, _, _⟩) rfl (fun K hK => ?_) AllReadyH.nil
        go_simp
        have a1 := HFA.out.1.call K4.below
        have a2 := HFA.out.2.call K4.below
        have a3 := (K4.ints.1.c).at_ zp9.ok
        have a4 := (K4.ints.2.1.c).at_ zq9.ok
        have l3 := (K4.ints.1.c).n_le zp9
        have l4 := (K4.ints.2.1.c).n_le zq9
        have l12 := HHN.out
        unfold LtE at l12
        simp only at a1 a2 l12
        (go_at_call 28; (with_reducible refine (rmulF_at a1 a2 a3 a4 za9 zb9 zp9 zq9 (by omega) (by omega) (by omega) (by omega)).mono ?_); rw [HMUL.out.1, HMUL.out.2]; rintro ee w5 ⟨D3, o3, r3, D4, o4, r4, rfl, i3, i4, g5⟩)
        (try go_wp2_with fail)
        have K5 := ((K4.call g5).add i4).add i3
        have HG5 := Lib.hid (Nat.lt_of_lt_of_le HG4.out g5.size)
        clear a1 a2 a3 a4 l3 l4 l12
        have eck := ((bcell g5).1 g _ HG4.out).trans dck
        have ec0 := ((bcell g5).1 g _ HG4.out).trans dc0
        have ec1 := ((bcell g5).1 g _ HG4.out).trans dc1
        have ec2 := ((bcell g5).1 g _ HG4.out).trans dc2
        have ec3 := ((bcell g5).1 g _ HG4.out).trans dc3
        refine hK.out _ _ ?_ (fun hHeld3 => ?_)
        · ((try dsimp only); first | exact ⟨eck, ec0, ec1, ec2, ec3⟩ | go_keep | (trace_state; fail))
        clear hK K hHeld2
        (try simp only [Act.put, List.setIfInBounds_toArray, List.set_cons_zero, List.set_cons_succ])
        refine wpAnyH_ready (rs := [14]) (by kernel_rfl) (by simp) ?_
        refine AllReadyH.cons (o := ⟨some 47, _, _, _, _, _⟩) rfl (fun K hK => ?_) AllReadyH.nil
        go_simp
        have b1 := (K5.ints.1.c).at_ HZM.out.1.ok
        have b2 := (K5.ints.2.1.c).at_ HZM.out.2.ok
        have b3 := (K5.ints.2.2.2.2.1.c).at_ zx9.ok
        have b4 := (K5.ints.2.2.2.2.2.1.c).at_ zy9.ok
        (go_at_call 27; (with_reducible refine (raddF_at b3 b4 b1 b2 zx9 zy9 HZM.out.1 HZM.out.2).mono ?_); rw [HADD.out.1, HADD.out.2]; rintro ee w6 ⟨D5, o5, r5, D6, o6, r6, rfl, i5, i6, g6⟩)
        (try go_wp2_with fail)
        have K6 := ((K5.call g6).add i6).add i5
        clear b1 b2 b3 b4
        have fck := ((bcell g6).1 g _ HG5.out).trans eck
        have fc0 := ((bcell g6).1 g _ HG5.out).trans ec0
        have fc1 := ((bcell g6).1 g _ HG5.out).trans ec1
        have fc2 := ((bcell g6).1 g _ HG5.out).trans ec2
        have fc3 := ((bcell g6).1 g _ HG5.out).trans ec3
        obtain ⟨⟨z0, z1, z2, z3⟩, _⟩ := K6.facts
        obtain ⟨y0, y1, y2, y3⟩ := K6.free (i := 0) rfl
        have ne1 : ¬ h3 = g := HNE.out
        have ne2 : ¬ g = h3 := fun h => HNE.out h.symm
        refine hK.out _ _ ?_ (fun hHeld4 => ?_)
        · ((try dsimp only); first | exact ⟨fck, fc0, fc1, fc2, fc3⟩ | go_keep | (trace_state; fail))
        clear hK K hHeld3
        (try simp only [Act.put, List.setIfInBounds_toArray, List.set_cons_zero, List.set_cons_succ])
        refine wpAnyH_ready (rs := [15]) (by kernel_rfl) (by simp) ?_
        refine AllReadyH.cons (o := ⟨none, _, _, _, _, _⟩) rfl (fun K hK => ?_) AllReadyH.nil
        go_simp
        refine hK.out _ _ ?_ (fun hHeld5 => ?_)
        · ((try dsimp only); first | exact ⟨fck, fc0, fc1, fc2, fc3⟩ | go_keep | (trace_state; fail))
        clear hK K hHeld4
        (try simp only [Act.put, List.setIfInBounds_toArray, List.set_cons_zero, List.set_cons_succ])
        refine wpAnyH_done (by kernel_rfl) ?_ _
        have K7 := K6.put4 0 rfl (decide (u < 0)) D5 o5 r5 (decide (v < 0)) D6 o6 r6
        simp only [List.set] at K7
        go_wp2_with fail
        go_roundg (gk - 1)
        case rel => exact ⟨k + 1, by have := HK.out; have := HLT.out; omega, by go_num, by rw [HU.out, HV.out]; exact ⟨D5, o5, r5, D6, o6, r6, K7.ints_ ⟨K7.ints.1, K7.ints.2.1, trivial⟩⟩⟩
        case measure => have := HK.out; have := HLT.out; omega
      refine AllReadyH.cons (o := ⟨some 46, _, _, _, _, _⟩) rfl (fun K hK => ?_) AllReadyH.nil
      go_simp
      have a1 := HFA.out.1.call K4.below
      have a2 := HFA.out.2.call K4.below
      have a3 := (K4.ints.1.c).at_ zp9.ok
      have a4 := (K4.ints.2.1.c).at_ zq9.ok
      have l3 := (K4.ints.1.c).n_le zp9
      have l4 := (K4.ints.2.1.c).n_le zq9
      have l12 := HHN.out
      unfold LtE at l12
      simp only at a1 a2 l12
      (go_at_call 28; (with_reducible refine (rmulF_at a1 a2 a3 a4 za9 zb9 zp9 zq9 (by omega) (by omega) (by omega) (by omega)).mono ?_); rw [HMUL.out.1, HMUL.out.2]; rintro ee w5 ⟨D3, o3, r3, D4, o4, r4, rfl, i3, i4, g5⟩)
      (try go_wp2_with fail)
      have K5 := ((K4.call g5).add i4).add i3
      have HG5 := Lib.hid (Nat.lt_of_lt_of_le HG4.out g5.size)
      clear a1 a2 a3 a4 l3 l4 l12
      have eck := ((bcell g5).1 g _ HG4.out).trans dck
      have ec0 := ((bcell g5).1 g _ HG4.out).trans dc0
      have ec1 := ((bcell g5).1 g _ HG4.out).trans dc1
      have ec2 := ((bcell g5).1 g _ HG4.out).trans dc2
      have ec3 := ((bcell g5).1 g _ HG4.out).trans dc3
      clear p0 p1 p2 p3
      obtain ⟨⟨p0, p1, p2, p3⟩, _⟩ := K5.facts
      refine hK.out _ _ ?_ (fun hHeld2 => ?_)
      · ((try dsimp only); first | exact ⟨eck, ec0, ec1, ec2, ec3⟩ | go_keep | (trace_state; fail))
      clear hK K hHeld1
      (try simp only [Act.put, List.setIfInBounds_toArray, List.set_cons_zero, List.set_cons_succ])
      refine wpAnyH_ready (rs := [0]) (by kernel_rfl) (by simp) ?_
      refine AllReadyH.cons (o := ⟨some 33, _, _, _, _, _⟩) rfl (fun K hK => ?_) AllReadyH.nil
      go_simp
      refine hK.out _ _ ?_ (fun hHeld3 => ?_)
      · ((try dsimp only); first | exact ⟨eck, ec0, ec1, ec2, ec3⟩ | go_keep | (trace_state; fail))
      clear hK K hHeld2
      (try simp only [Act.put, List.setIfInBounds_toArray, List.set_cons_zero, List.set_cons_succ])
      refine wpAnyH_ready (rs := [14]) (by kernel_rfl) (by simp) ?_
      refine AllReadyH.cons (o := ⟨some 47, _, _, _, _, _⟩) rfl (fun K hK => ?_) AllReadyH.nil
      go_simp
      have b1 := (K5.ints.1.c).at_ HZM.out.1.ok
      have b2 := (K5.ints.2.1.c).at_ HZM.out.2.ok
      have b3 := (K5.ints.2.2.2.2.1.c).at_ zx9.ok
      have b4 := (K5.ints.2.2.2.2.2.1.c).at_ zy9.ok
      (go_at_call 27; (with_reducible refine (raddF_at b3 b4 b1 b2 zx9 zy9 HZM.out.1 HZM.out.2).mono ?_); rw [HADD.out.1, HADD.out.2]; rintro ee w6 ⟨D5, o5, r5, D6, o6, r6, rfl, i5, i6, g6⟩)
      (try go_wp2_with fail)
      have K6 := ((K5.call g6).add i6).add i5
      clear b1 b2 b3 b4
      have fck := ((bcell g6).1 g _ HG5.out).trans eck
      have fc0 := ((bcell g6).1 g _ HG5.out).trans ec0
      have fc1 := ((bcell g6).1 g _ HG5.out).trans ec1
      have fc2 := ((bcell g6).1 g _ HG5.out).trans ec2
      have fc3 := ((bcell g6).1 g _ HG5.out).trans ec3
      obtain ⟨⟨z0, z1, z2, z3⟩, _⟩ := K6.facts
      obtain ⟨y0, y1, y2, y3⟩ := K6.free (i := 0) rfl
      have ne1 : ¬ h3 = g := HNE.out
      have ne2 : ¬ g = h3 := fun h => HNE.out h.symm
      refine hK.out _ _ ?_ (fun hHeld4 => ?_)
      · ((try dsimp only); first | exact ⟨fck, fc0, fc1, fc2, fc3⟩ | go_keep | (trace_state; fail))
      clear hK K hHeld3
      (try simp only [Act.put, List.setIfInBounds_toArray, List.set_cons_zero, List.set_cons_succ])
      refine wpAnyH_ready (rs := [15]) (by kernel_rfl) (by simp) ?_
      refine AllReadyH.cons (o := ⟨none, _, _, _, _, _⟩) rfl (fun K hK => ?_) AllReadyH.nil
      go_simp
      refine hK.out _ _ ?_ (fun hHeld5 => ?_)
      · ((try dsimp only); first | exact ⟨fck, fc0, fc1, fc2, fc3⟩ | go_keep | (trace_state; fail))
      clear hK K hHeld4
      (try simp only [Act.put, List.setIfInBounds_toArray, List.set_cons_zero, List.set_cons_succ])
      refine wpAnyH_done (by kernel_rfl) ?_ _
      have K7 := K6.put4 0 rfl (decide (u < 0)) D5 o5 r5 (decide (v < 0)) D6 o6 r6
      simp only [List.set] at K7
      go_wp2_with fail
      go_roundg (gk - 1)
      case rel => exact ⟨k + 1, by have := HK.out; have := HLT.out; omega, by go_num, by rw [HU.out, HV.out]; exact ⟨D5, o5, r5, D6, o6, r6, K7.ints_ ⟨K7.ints.1, K7.ints.2.1, trivial⟩⟩⟩
      case measure => have := HK.out; have := HLT.out; omega
    · obtain rfl : k = L := by omega
      rw [HQL.out] at HX HY
      have j1 : ¬ (k : Int) < (k : Int) := by omega
      have hend : Hid ((dotQ N QA QB).num = x ∧ ((dotQ N QA QB).den : Int) = y) := ⟨HX.out, HY.out⟩
      clear hz
      obtain ⟨⟨p0, p1, p2, p3⟩, ⟨q0, q1, q2, q3⟩, _⟩ := K.facts
      obtain ⟨f0, f1, f2, f3⟩ := K.free (i := 1) rfl
      obtain ⟨y1, y2⟩ := K.ne 0 1 rfl rfl (by decide)
      have K3 := K.put4 1 rfl (decide (x < 0)) C1 n1 t1 (decide (y < 0)) C2 n2 t2
      simp only [List.set] at K3
      obtain ⟨_, ⟨r0, r1, r2, r3⟩, _⟩ := K3.facts
      go_wp2_with fail
      refine bodyPost_ret (v := .tuple #[.agg #[.bool (decide (x < 0)), .slice C1 n1 t1, .bool (decide (y < 0)), .slice C2 n2 t2], .int .i64 0]) (by simp [results, Tryz.results10, go_sem, r0, r1, r2, r3]) rfl ?_
      rw [hend.out.1, hend.out.2]
      exact RetFE.of_st K3
end Go.Proofs.YtjbmaoplcbhgfaaGreat

