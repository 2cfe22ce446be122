/-
  The law SparseProducts, walked.
-/
import Derived.Test.YtjbmaoplcbhgfaaGreatSpK
set_option linter.unusedVariables false
set_option linter.unusedSimpArgs false
namespace Go.Proofs.YtjbmaoplcbhgfaaGreat
open Go.RowKit

theorem light3_2 {w : World} {A B : Option Addr} {c d : Nat} {l m : List VE} (h1 : VV.Ok w ⟨A, c, l⟩) (h2 : VV.Ok w ⟨B, d, m⟩) (b : Bool) (hb : b = true ↔ (∀ x ∈ l, LtE x) ∧ (∀ x ∈ m, LtE x) ∧ l.length + m.length ≤ 60) :
    Calls Tryz.prog 5 #[.slice (some ⟨w.heap.size, 0, none⟩) 2 2] (w.alloc (.cells #[.slice A l.length c, .slice B m.length d] 23)) (RetB1 (w.alloc (.cells #[.slice A l.length c, .slice B m.length d] 23)) b) := by
  have hh := Go.Deep.blk_alloc_new w (.cells #[.slice A l.length c, .slice B m.length d] 23)
  have hok : ∀ v : VV, VV.Ok w v → VV.Ok (w.alloc (.cells #[.slice A l.length c, .slice B m.length d] 23)) v := fun v hv => by
    refine ⟨hv.1, hv.2.1, fun h => ?_⟩
    obtain ⟨g, o, e1, e2, e3⟩ := hv.2.2 h
    exact ⟨g, o, e1, by simp; omega, fun k x hx => (e3 k x hx).call e2 (bnew _ _)⟩
  refine light3_any w.heap.size [⟨A, c, l⟩, ⟨B, d, m⟩] 2 _ (by simp) (by simp) (fun v hv => ?_) (fun i v hv => ?_) b (hb.trans ?_)
  · simp only [List.mem_cons, List.not_mem_nil, or_false] at hv
    rcases hv with rfl | rfl
    · exact hok _ h1
    · exact hok _ h2
  · match i, hv with
    | 0, hv => simp only [List.getElem?_cons_zero, Option.some.injEq] at hv; subst hv; simp
    | 1, hv => simp only [List.getElem?_cons_succ, List.getElem?_cons_zero, Option.some.injEq] at hv; subst hv; simp
    | i + 2, hv => simp at hv
  · unfold AllL tot tot tot
    simp
    constructor
    · rintro ⟨a1, a2, a4⟩; exact ⟨⟨a1, a2⟩, by omega⟩
    · rintro ⟨⟨a1, a2⟩, a4⟩; exact ⟨a1, a2, by omega⟩

set_option maxHeartbeats 32000000 in
set_option maxRecDepth 100000 in
theorem products_law (A B : Option Addr) (c d : Nat) (la lb : List VE) (ks kt : Bool) (kA kB : Option Addr) (kn kc km kd : Nat) (da db : List Nat) (n : Int) (w : World)
    (hA : VP w A la) (hB : VP w B lb) (hk1 : InP w kA kn kc da) (hk2 : InP w kB km kd db) (hn1 : -9223372036854775808 ≤ n) (hn2 : n ≤ 9223372036854775807) :
    Calls Tryz.prog 3 #[.slice A la.length c, .slice B lb.length d, .agg #[.bool ks, .slice kA kn kc, .bool kt, .slice kB km kd], .int .i64 n] w (RetT1 w) := by
  have H0 := (St.start w).new 28 (Plains.four ks kA kn kc kt kB km kd)
  have hb0 : Below w.heap.size w (w.alloc (.cells #[.bool ks, .slice kA kn kc, .bool kt, .slice kB km kd] 28)) := bnew _ _
  have hlight := fun b hb => light3_2 (c := c) (d := d) (hA.call hb0).ok (hB.call hb0).ok b hb
  simp only [World.size_alloc] at hlight
  have hlk := fun (w' : World) b hb => lightF1 (w := w') (s0 := ks) (t0 := kt) (A0 := kA) (B0 := kB) (n0 := kn) (c0 := kc) (m0 := km) (d0 := kd) rfl hk1.2.2.2 hk2.2.2.2 b hb
  have HH := Lib.hid (H0.alloc (.cells #[.slice A la.length c, .slice B lb.length d] 23))
  clear H0 hb0
  by_cases h : (∀ x ∈ la, LtE x) ∧ (∀ x ∈ lb, LtE x) ∧ la.length + lb.length ≤ 60
  rotate_left
  · have hlight := hlight false ⟨fun h' => (by cases h'), fun h' => absurd h' h⟩
    clear h hlk
    go_enter Tryz.func3, Tryz.ntmps3
    go_wp2_with (first
      | (go_at_call 5; (with_reducible refine hlight.mono ?_); clear hlight; rintro e1 w1 ⟨rfl, g1⟩; have K1 := HH.out.call g1; obtain ⟨⟨p0, p1, p2, p3⟩, _⟩ := K1.facts)
      | (go_at_call 8; (with_reducible refine (awake3_any _).mono ?_); rintro e9 w9 ⟨rfl, g9⟩; have K9 := K1.call g9)
      | fail)
    go_ret
    exact ⟨rfl, K9.below⟩
  have hlight := hlight true (by simpa using h)
  by_cases h2 : kn ≤ 12 ∧ km ≤ 12
  rotate_left
  · have hlk := fun w' => hlk w' false (by simp; omega)
    clear h h2
    go_enter Tryz.func3, Tryz.ntmps3
    go_wp2_with (first
      | (go_at_call 5; (with_reducible refine hlight.mono ?_); clear hlight; rintro e1 w1 ⟨rfl, g1⟩; have K1 := HH.out.call g1; obtain ⟨⟨p0, p1, p2, p3⟩, _⟩ := K1.facts)
      | (go_at_call 6; (with_reducible refine (hlk w1).mono ?_); clear hlk; rintro e2 w2 ⟨rfl, g2⟩; have K2 := (K1.alloc (.cells #[.bool ks, .slice kA kn kc, .bool kt, .slice kB km kd] 28)).call g2)
      | (go_at_call 8; (with_reducible refine (awake3_any _).mono ?_); rintro e9 w9 ⟨rfl, g9⟩; have K9 := K2.call g9)
      | fail)
    go_ret
    exact ⟨rfl, K9.below⟩
  have hlk := fun w' => hlk w' true (by simp [h2])
  have hs := small_any n
  by_cases h3 : n ≤ 60 ∨ 4096 < n
  rotate_left
  · rw [show decide (n ≤ 60 ∨ 4096 < n) = false by simp; omega] at hs
    clear h h2 h3
    go_enter Tryz.func3, Tryz.ntmps3
    go_wp2_with (first
      | (go_at_call 5; (with_reducible refine hlight.mono ?_); clear hlight; rintro e1 w1 ⟨rfl, g1⟩; have K1 := HH.out.call g1; obtain ⟨⟨p0, p1, p2, p3⟩, _⟩ := K1.facts)
      | (go_at_call 6; (with_reducible refine (hlk w1).mono ?_); clear hlk; rintro e2 w2 ⟨rfl, g2⟩; have K2 := (K1.alloc (.cells #[.bool ks, .slice kA kn kc, .bool kt, .slice kB km kd] 28)).call g2)
      | (go_at_call 7; (with_reducible refine (hs _).mono ?_); clear hs; rintro e3 w3 ⟨rfl, g3⟩; have K3 := K2.call g3)
      | (go_at_call 8; (with_reducible refine (awake3_any _).mono ?_); rintro e9 w9 ⟨rfl, g9⟩; have K9 := K3.call g9)
      | fail)
    go_ret
    exact ⟨rfl, K9.below⟩
  rw [show decide (n ≤ 60 ∨ 4096 < n) = true by simp; omega] at hs
  have hWa := hA.vl h.1
  have hWb := hB.vl h.2.1
  have hSa := hA.sz h.1
  have hSb := hB.sz h.2.1
  have h60 := h.2.2
  obtain ⟨x1, HX1⟩ : ∃ u, Hid (zOf ks (val da) = u) := ⟨_, rfl⟩
  obtain ⟨x2, HX2⟩ : ∃ u, Hid (zOf kt (val db) = u) := ⟨_, rfl⟩
  have ik1 : IntAt w ks kA kn kc x1 := by rw [← HX1.out]; exact hk1.i _ h2.1
  have ik2 : IntAt w kt kB km kd x2 := by rw [← HX2.out]; exact hk2.i _ h2.2
  have zk1 : Sz x1 12 := by rw [← HX1.out]; exact hk1.z _ h2.1
  have zk2 : Sz x2 12 := by rw [← HX2.out]; exact hk2.z _ h2.2
  -- what the calls answer, on both sides
  have hdot : ∃ X Y, (∀ w' : World, Below w.heap.size w w' → Calls Tryz.prog 9 #[.slice A la.length c, .slice B lb.length d, .int .i64 n] w' (RetFE w' X Y (both la lb n))) ∧
      (∀ w' : World, Below w.heap.size w w' → Calls Tryz.prog 10 #[.slice A la.length c, .slice B lb.length d, .int .i64 n] w' (RetFE w' X Y (both la lb n))) := by
    by_cases hE : both la lb n = 0
    · rw [hE]
      have hv : valid la n = 0 ∧ valid lb n = 0 := by
        unfold both at hE
        split at hE
        · rename_i h0; exact ⟨h0, hE⟩
        · rename_i h0; exact absurd hE h0
      exact ⟨_, _, fun w' hb => dot_at (c := c) (d := d) (hWa.call hb) (hWb.call hb) hv.1 hv.2 hSa hSb (by decide) (by decide) (by omega) (by omega) (fun k h1 h2 => by omega),
        fun w' hb => rdot_at (c := c) (d := d) (hWa.call hb) (hWb.call hb) hv.1 hv.2 hSa hSb h.1 (by omega)⟩
    · exact ⟨0, 0, fun w' hb => dotE_at (hWa.call hb) (hWb.call hb) (by omega) (by omega) hE, fun w' hb => rdotE_at (hWa.call hb) (hWb.call hb) hSa hSb (by omega) (by omega) hn1 hn2 hE⟩
  have hadd : ∀ (la lb : List VE) (A B : Option Addr) (c d : Nat), VL w A la → VL w B lb → (∀ x ∈ la, FE.S 12 x.e) → (∀ x ∈ lb, FE.S 12 x.e) → (∀ x ∈ lb, LtE x) → la.length + lb.length ≤ 60 →
      ∃ V : List (Int × Int × Int), V.length ≤ 60 ∧ (∀ w' : World, Below w.heap.size w w' → Calls Tryz.prog 11 #[.slice A la.length c, .slice B lb.length d, .agg #[.bool ks, .slice kA kn kc, .bool kt, .slice kB km kd], .int .i64 n] w' (RetV w' V (both la lb n))) ∧
      (∀ w' : World, Below w.heap.size w w' → Calls Tryz.prog 12 #[.slice A la.length c, .slice B lb.length d, .agg #[.bool ks, .slice kA kn kc, .bool kt, .slice kB km kd], .int .i64 n] w' (RetV w' V (both la lb n))) := by
    intro la lb A B c d hWa hWb hSa hSb hLb h60
    by_cases hE : both la lb n = 0
    · rw [hE]
      have hv : valid la n = 0 ∧ valid lb n = 0 := by
        unfold both at hE
        split at hE
        · rename_i h0; exact ⟨h0, hE⟩
        · rename_i h0; exact absurd hE h0
      refine ⟨(addQ (qv x1 x2) (la.length + lb.length) (la.map VE.q) (lb.map VE.q)).map nd, ?_, fun w' hb => addScaled_at (c := c) (d := d) (hWa.call hb) (hWb.call hb) (ik1.call hb) (ik2.call hb) hv.1 hv.2 hSa hSb zk1 zk2 (by decide) (by decide) (by decide) (by decide) (by omega) (by omega),
        fun w' hb => raddScaled_at (c := c) (d := d) (hWa.call hb) (hWb.call hb) (ik1.call hb) (ik2.call hb) hv.1 hv.2 hSa hSb hLb zk1 zk2 h2 (by omega)⟩
      rw [List.length_map]
      have := addQ_len (k := qv x1 x2) (la.length + lb.length) (la.map VE.q) (lb.map VE.q)
      rw [List.length_map, List.length_map] at this
      omega
    · exact ⟨[], by simp, fun w' hb => addE_at (hWa.call hb) (hWb.call hb) (by omega) (by omega) hE, fun w' hb => raddE_at (hWa.call hb) (hWb.call hb) hSa hSb (by omega) (by omega) hn1 hn2 hE⟩
  obtain ⟨X, Y, hd1, hd2⟩ := hdot
  obtain ⟨V, hVl, ha1, ha2⟩ := hadd la lb A B c d hWa hWb hSa hSb h.2.1 h60
  obtain ⟨U, hUl, hs1, hs2⟩ := hadd [] la none A 0 c (VL.nil w) hWa (fun x hx => by cases hx) hSa h.1 (by simp; omega)
  rw [both_nil] at hs1 hs2
  have hc1 := fun w' (hb : Below w.heap.size w w') => scale_of (w := w') fun w'' hb2 => hs1 w'' (bcall hb hb2)
  have hc2 := fun w' (hb : Below w.heap.size w w') => rscale_of (w := w') fun w'' hb2 => hs2 w'' (bcall hb hb2)
  obtain ⟨E1, HE1⟩ : ∃ u, Hid (both la lb n = u) := ⟨_, rfl⟩
  obtain ⟨E2, HE2⟩ : ∃ u, Hid (valid la n = u) := ⟨_, rfl⟩
  obtain ⟨LA, HLA⟩ : ∃ u, Hid (la.length = u) := ⟨_, rfl⟩
  obtain ⟨LB, HLB⟩ : ∃ u, Hid (lb.length = u) := ⟨_, rfl⟩
  simp only [HE1.out, HE2.out, HLA.out, HLB.out] at hd1 hd2 ha1 ha2 hc1 hc2 hlight HH ⊢
  have HVL := Lib.hid hVl
  have HUL := Lib.hid hUl
  clear h h2 h3 hWa hWb hSa hSb h60 hA hB hk1 hk2 ik1 ik2 zk1 zk2 HX1 HX2 hadd hs1 hs2 hVl hUl hn1 hn2
  go_enter Tryz.func3, Tryz.ntmps3
  go_upto_region 4 with (first
    | (go_at_call 5; (with_reducible refine hlight.mono ?_); clear hlight; rintro e1 w1 ⟨rfl, g1⟩; have K1 := HH.out.call g1; obtain ⟨⟨p0, p1, p2, p3⟩, _⟩ := K1.facts)
    | (go_at_call 6; (with_reducible refine (hlk w1).mono ?_); clear hlk; rintro e2 w2 ⟨rfl, g2⟩; have K2 := (K1.alloc (.cells #[.bool ks, .slice kA kn kc, .bool kt, .slice kB km kd] 28)).call g2)
    | (go_at_call 7; (with_reducible refine (hs _).mono ?_); clear hs; rintro e3 w3 ⟨rfl, g3⟩; have K3 := K2.call g3)
    | (go_at_call 9; (with_reducible refine (hd1 _ K3.below).mono ?_); clear hd1; rintro e4 w4 ⟨D1, o1, r1, D2, o2, r2, rfl, i1, i2, g4⟩; have K4 := (((K3.call g4).add i2).add i1).new 28 (Plains.four (decide (X < 0)) D1 o1 r1 (decide (Y < 0)) D2 o2 r2))
    | fail)
  clear K1 K2 K3 g1 g2 g3 g4 i1 i2 p0 p1 p2 p3
  generalize w4.alloc (.cells #[.bool (decide (X < 0)), .slice D1 o1 r1, .bool (decide (Y < 0)), .slice D2 o2 r2] 28) = W4 at K4 ⊢
  generalize w4.heap.size = h4 at K4 ⊢
  go_upto_region 5 with (first
    | (go_at_call 10; (with_reducible refine (hd2 _ K4.below).mono ?_); clear hd2; rintro e5 w5 ⟨D3, o3, r3, D4, o4, r4, rfl, i1, i2, g5⟩; have K5 := (((K4.call g5).add i2).add i1).new 28 (Plains.four (decide (X < 0)) D3 o3 r3 (decide (Y < 0)) D4 o4 r4))
    | fail)
  clear K4 g5 i1 i2
  generalize w5.alloc (.cells #[.bool (decide (X < 0)), .slice D3 o3 r3, .bool (decide (Y < 0)), .slice D4 o4 r4] 28) = W5 at K5 ⊢
  generalize w5.heap.size = h5 at K5 ⊢
  obtain ⟨_, _, ⟨k0, k1, k2, k3⟩, _⟩ := K5.facts
  go_upto_region 9 with (first
    | (go_at_call 11; (with_reducible refine (ha1 _ K5.below).mono ?_); clear ha1; rintro e6 w6 ⟨A1, q1, l1, rfl, m1, v1, g6⟩; have K6 := K5.call g6; clear k0 k1 k2 k3; obtain ⟨_, _, ⟨k0, k1, k2, k3⟩, _⟩ := K6.facts)
    | (go_at_call 12; (with_reducible refine (ha2 _ K6.below).mono ?_); clear ha2; rintro e7 w7 ⟨A2, q2, l2, rfl, m2, v2, g7⟩; have K7 := K6.call g7; have v1' := v1.call g7; clear k0 k1 k2 k3 v1; obtain ⟨_, _, ⟨k0, k1, k2, k3⟩, _⟩ := K7.facts)
    | (go_at_call 13; (with_reducible refine (hc1 _ K7.below).mono ?_); clear hc1; rintro e8 w8 ⟨A3, q3, l3, rfl, m3, v3, g8⟩; have K8 := K7.call g8; have u1 := v1'.call g8; have u2 := v2.call g8; clear k0 k1 k2 k3 v1' v2; obtain ⟨_, _, ⟨k0, k1, k2, k3⟩, _⟩ := K8.facts)
    | (go_at_call 14; (with_reducible refine (hc2 _ K8.below).mono ?_); clear hc2; rintro e9 w9 ⟨A4, q4, l4, rfl, m4, v4, g9⟩; have K9 := K8.call g9; have t1 := u1.call g9; have t2 := u2.call g9; have t3 := v3.call g9)
    | fail)
  clear K5 K6 K7 K8 g6 g7 g8 u1 u2 v3 k0 k1 k2 k3
  have n1 : Hid (l1.map VE.v = l2.map VE.v) := m1.trans m2.symm
  have n2 : Hid (l3.map VE.v = l4.map VE.v) := m3.trans m4.symm
  have y1 : Hid (l1.length ≤ 1000000) := by unfold Hid; have := congrArg List.length m1; rw [List.length_map] at this; rw [this]; have := HVL.out; omega
  have y2 : Hid (l3.length ≤ 1000000) := by unfold Hid; have := congrArg List.length m3; rw [List.length_map] at this; rw [this]; have := HUL.out; omega
  clear m1 m2 m3 m4
  have hs1 := fun w' hb => same3_at (w := w') (c := q1) (d := q2) (t1.call hb) (t2.call hb) n1.out y1.out
  have hs2 := fun w' hb => same3_at (w := w') (c := q3) (d := q4) (t3.call hb) (v4.call hb) n2.out y2.out
  obtain ⟨L1_, HL1⟩ : ∃ u, Hid (l1.length = u) := ⟨_, rfl⟩
  obtain ⟨L2_, HL2⟩ : ∃ u, Hid (l2.length = u) := ⟨_, rfl⟩
  obtain ⟨L3_, HL3⟩ : ∃ u, Hid (l3.length = u) := ⟨_, rfl⟩
  obtain ⟨L4_, HL4⟩ : ∃ u, Hid (l4.length = u) := ⟨_, rfl⟩
  simp only [HL1.out, HL2.out, HL3.out, HL4.out] at hs1 hs2 ⊢
  clear t1 t2 t3 v4 g9
  obtain ⟨⟨a0, a1, a2, a3⟩, ⟨b0, b1, b2, b3⟩, _⟩ := K9.facts
  have i1 := K9.ints.1.c
  have i2 := K9.ints.2.1.c
  have i3 := K9.ints.2.2.1.c
  have i4 := K9.ints.2.2.2.1.c
  have bb := Below.refl w9.heap.size w9
  go_wp2_with (first
    | (go_at_call 15; (with_reducible refine (sameFrac_at i3 i4 i1 i2).mono ?_); rintro e10 w10 ⟨rfl, g10⟩; have b10 := bcall bb g10; clear bb g10)
    | (go_at_call_of 16 (Value.slice A1 L1_ q1); (with_reducible refine (hs1 _ b10).mono ?_); rintro e11 w11 ⟨rfl, g11⟩; have b11 := bcall b10 g11; clear b10 g11)
    | (go_at_call 16; (with_reducible refine (hs2 _ b11).mono ?_); rintro e12 w12 ⟨rfl, g12⟩; have b12 := bcall b11 g12; clear b11 g12)
    | (go_at_call 8; (with_reducible refine (awake3_any _).mono ?_); rintro e13 w13 ⟨rfl, g13⟩; have b13 := bcall b12 g13)
    | fail)
  go_ret
  exact ⟨rfl, bcall K9.below b13⟩
end Go.Proofs.YtjbmaoplcbhgfaaGreat

