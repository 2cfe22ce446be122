/-
  The law SparseLinear, walked.
-/
import Derived.Test.YtjbmaoplcbhgfaaSpLW
import Derived.Deep.RegionHeld3
import Derived.Deep.DeepCutAuto
set_option linter.unusedVariables false
set_option linter.unusedSimpArgs false
namespace Go.Proofs.Ytjbmaoplcbhgfaa
open Go.RowKit

set_option maxHeartbeats 32000000 in
set_option maxRecDepth 100000 in
theorem linear_law (A B C : Option Addr) (c d e : Nat) (la lb lc : List VE) (ks kt : Bool) (kA kB : Option Addr) (kn kc km kd : Nat) (da db : List Nat) (n : Int) (w : World)
    (hA : VP w A la) (hB : VP w B lb) (hC : VP w C lc) (hk1 : InP w kA kn kc da) (hk2 : InP w kB km kd db) (hn1 : -9223372036854775808 ≤ n) (hn2 : n ≤ 9223372036854775807) :
    Calls Try.prog 8 #[.slice A la.length c, .slice B lb.length d, .slice C lc.length e, .agg #[.bool ks, .slice kA kn kc, .bool kt, .slice kB km kd], .int .i64 n] w (RetT1 w) := by
  have H0 := (St.start w).new 35 (Plains.four ks kA kn kc kt kB km kd)
  have hb0 : Below w.heap.size w (w.alloc (.cells #[.bool ks, .slice kA kn kc, .bool kt, .slice kB km kd] 35)) := bnew _ _
  have hlight := fun b hb => light3_3 (c := c) (d := d) (e := e) (hA.call hb0).ok (hB.call hb0).ok (hC.call hb0).ok b hb
  simp only [World.size_alloc] at hlight
  have hlk := fun (w' : World) b hb => lightF1 (w := w') (s0 := ks) (t0 := kt) (A0 := kA) (B0 := kB) (n0 := kn) (c0 := kc) (m0 := km) (d0 := kd) rfl hk1.2.2.2 hk2.2.2.2 b hb
  have HH := Lib.hid (H0.alloc (.cells #[.slice A la.length c, .slice B lb.length d, .slice C lc.length e] 48))
  clear H0 hb0
  by_cases h : (∀ x ∈ la, LtE x) ∧ (∀ x ∈ lb, LtE x) ∧ (∀ x ∈ lc, LtE x) ∧ la.length + lb.length + lc.length ≤ 60
  rotate_left
  · have hlight := hlight false ⟨fun h' => (by cases h'), fun h' => absurd h' h⟩
    clear h hlk
    go_enter Try.func8, Try.ntmps8
    go_wp2_with (first
      | (go_at_call 30; (with_reducible refine hlight.mono ?_); clear hlight; rintro e1 w1 ⟨rfl, g1⟩; have K1 := HH.out.call g1; obtain ⟨⟨p0, p1, p2, p3⟩, _⟩ := K1.facts)
      | (go_at_call 32; (with_reducible refine (awake3_any _).mono ?_); rintro e9 w9 ⟨rfl, g9⟩; have K9 := K1.call g9)
      | fail)
    go_ret
    exact ⟨rfl, K9.below⟩
  have hlight := hlight true (by simpa using h)
  by_cases h2 : kn ≤ 12 ∧ km ≤ 12
  rotate_left
  · have hlk := fun w' => hlk w' false (by simp; omega)
    clear h h2
    go_enter Try.func8, Try.ntmps8
    go_wp2_with (first
      | (go_at_call 30; (with_reducible refine hlight.mono ?_); clear hlight; rintro e1 w1 ⟨rfl, g1⟩; have K1 := HH.out.call g1; obtain ⟨⟨p0, p1, p2, p3⟩, _⟩ := K1.facts)
      | (go_at_call 18; (with_reducible refine (hlk w1).mono ?_); clear hlk; rintro e2 w2 ⟨rfl, g2⟩; have K2 := (K1.alloc (.cells #[.bool ks, .slice kA kn kc, .bool kt, .slice kB km kd] 35)).call g2)
      | (go_at_call 32; (with_reducible refine (awake3_any _).mono ?_); rintro e9 w9 ⟨rfl, g9⟩; have K9 := K2.call g9)
      | fail)
    go_ret
    exact ⟨rfl, K9.below⟩
  have hlk := fun w' => hlk w' true (by simp [h2])
  have hs := small_any n
  by_cases h3 : n ≤ 60 ∨ 4096 < n
  rotate_left
  · rw [show decide (n ≤ 60 ∨ 4096 < n) = false by simp; omega] at hs
    clear h h2 h3
    go_enter Try.func8, Try.ntmps8
    go_wp2_with (first
      | (go_at_call 30; (with_reducible refine hlight.mono ?_); clear hlight; rintro e1 w1 ⟨rfl, g1⟩; have K1 := HH.out.call g1; obtain ⟨⟨p0, p1, p2, p3⟩, _⟩ := K1.facts)
      | (go_at_call 18; (with_reducible refine (hlk w1).mono ?_); clear hlk; rintro e2 w2 ⟨rfl, g2⟩; have K2 := (K1.alloc (.cells #[.bool ks, .slice kA kn kc, .bool kt, .slice kB km kd] 35)).call g2)
      | (go_at_call 31; (with_reducible refine (hs _).mono ?_); clear hs; rintro e3 w3 ⟨rfl, g3⟩; have K3 := K2.call g3)
      | (go_at_call 32; (with_reducible refine (awake3_any _).mono ?_); rintro e9 w9 ⟨rfl, g9⟩; have K9 := K3.call g9)
      | fail)
    go_ret
    exact ⟨rfl, K9.below⟩
  rw [show decide (n ≤ 60 ∨ 4096 < n) = true by simp; omega] at hs
  have hWa := hA.vl h.1
  have hWb := hB.vl h.2.1
  have hWc := hC.vl h.2.2.1
  have hSa := hA.sz h.1
  have hSb := hB.sz h.2.1
  have hSc := hC.sz h.2.2.1
  have h60 := h.2.2.2
  have hva := fun w' (hb : Below w.heap.size w w') => rvalid_at (w := w') (c := c) (n := n) (hWa.call hb) (fun e he => (hSa e he).mono (by decide)) (by omega) hn1 hn2
  have hvb := fun w' (hb : Below w.heap.size w w') => rvalid_at (w := w') (c := d) (n := n) (hWb.call hb) (fun e he => (hSb e he).mono (by decide)) (by omega) hn1 hn2
  have hvc := fun w' (hb : Below w.heap.size w w') => rvalid_at (w := w') (c := e) (n := n) (hWc.call hb) (fun e he => (hSc e he).mono (by decide)) (by omega) hn1 hn2
  by_cases va : valid la n = 0
  rotate_left
  · obtain ⟨er, HE⟩ : ∃ u, Hid (valid la n = u) := ⟨_, rfl⟩
    rw [HE.out] at va
    simp only [HE.out] at hva
    have her : (er == 0) = false := by simp [va]
    clear h h2 h3 hWa hWb hWc hSa hSb hSc h60 hA hB hC hk1 hk2 hvb hvc
    go_enter Try.func8, Try.ntmps8
    go_wp2_with (first
      | (go_at_call 30; (with_reducible refine hlight.mono ?_); clear hlight; rintro e1 w1 ⟨rfl, g1⟩; have K1 := HH.out.call g1; obtain ⟨⟨p0, p1, p2, p3⟩, _⟩ := K1.facts)
      | (go_at_call 18; (with_reducible refine (hlk w1).mono ?_); clear hlk; rintro e2 w2 ⟨rfl, g2⟩; have K2 := (K1.alloc (.cells #[.bool ks, .slice kA kn kc, .bool kt, .slice kB km kd] 35)).call g2)
      | (go_at_call 31; (with_reducible refine (hs _).mono ?_); clear hs; rintro e3 w3 ⟨rfl, g3⟩; have K3 := K2.call g3)
      | (go_at_call 42; (with_reducible refine (hva _ K3.below).mono ?_); clear hva; rintro e4 w4 ⟨rfl, g4⟩; have K4 := K3.call g4)
      | (go_at_call 32; (with_reducible refine (awake3_any _).mono ?_); rintro e9 w9 ⟨rfl, g9⟩; have K9 := K4.call g9)
      | fail)
    go_ret
    exact ⟨rfl, K9.below⟩
  simp only [va] at hva
  by_cases vb : valid lb n = 0
  rotate_left
  · obtain ⟨er, HE⟩ : ∃ u, Hid (valid lb n = u) := ⟨_, rfl⟩
    rw [HE.out] at vb
    simp only [HE.out] at hvb
    have her : (er == 0) = false := by simp [vb]
    clear h h2 h3 hWa hWb hWc hSa hSb hSc h60 hA hB hC hk1 hk2 hvc va
    go_enter Try.func8, Try.ntmps8
    go_wp2_with (first
      | (go_at_call 30; (with_reducible refine hlight.mono ?_); clear hlight; rintro e1 w1 ⟨rfl, g1⟩; have K1 := HH.out.call g1; obtain ⟨⟨p0, p1, p2, p3⟩, _⟩ := K1.facts)
      | (go_at_call 18; (with_reducible refine (hlk w1).mono ?_); clear hlk; rintro e2 w2 ⟨rfl, g2⟩; have K2 := (K1.alloc (.cells #[.bool ks, .slice kA kn kc, .bool kt, .slice kB km kd] 35)).call g2)
      | (go_at_call 31; (with_reducible refine (hs _).mono ?_); clear hs; rintro e3 w3 ⟨rfl, g3⟩; have K3 := K2.call g3)
      | (go_at_call 42; (with_reducible refine (hva _ K3.below).mono ?_); clear hva; rintro e4 w4 ⟨rfl, g4⟩; have K4 := K3.call g4)
      | (go_at_call 42; (with_reducible refine (hvb _ K4.below).mono ?_); clear hvb; rintro e5 w5 ⟨rfl, g5⟩; have K5 := K4.call g5)
      | (go_at_call 32; (with_reducible refine (awake3_any _).mono ?_); rintro e9 w9 ⟨rfl, g9⟩; have K9 := K5.call g9)
      | fail)
    go_ret
    exact ⟨rfl, K9.below⟩
  simp only [vb] at hvb
  by_cases vc : valid lc n = 0
  rotate_left
  · obtain ⟨er, HE⟩ : ∃ u, Hid (valid lc n = u) := ⟨_, rfl⟩
    rw [HE.out] at vc
    simp only [HE.out] at hvc
    have her : (er == 0) = false := by simp [vc]
    clear h h2 h3 hWa hWb hWc hSa hSb hSc h60 hA hB hC hk1 hk2 va vb
    go_enter Try.func8, Try.ntmps8
    go_wp2_with (first
      | (go_at_call 30; (with_reducible refine hlight.mono ?_); clear hlight; rintro e1 w1 ⟨rfl, g1⟩; have K1 := HH.out.call g1; obtain ⟨⟨p0, p1, p2, p3⟩, _⟩ := K1.facts)
      | (go_at_call 18; (with_reducible refine (hlk w1).mono ?_); clear hlk; rintro e2 w2 ⟨rfl, g2⟩; have K2 := (K1.alloc (.cells #[.bool ks, .slice kA kn kc, .bool kt, .slice kB km kd] 35)).call g2)
      | (go_at_call 31; (with_reducible refine (hs _).mono ?_); clear hs; rintro e3 w3 ⟨rfl, g3⟩; have K3 := K2.call g3)
      | (go_at_call 42; (with_reducible refine (hva _ K3.below).mono ?_); clear hva; rintro e4 w4 ⟨rfl, g4⟩; have K4 := K3.call g4)
      | (go_at_call 42; (with_reducible refine (hvb _ K4.below).mono ?_); clear hvb; rintro e5 w5 ⟨rfl, g5⟩; have K5 := K4.call g5)
      | (go_at_call 42; (with_reducible refine (hvc _ K5.below).mono ?_); clear hvc; rintro e6 w6 ⟨rfl, g6⟩; have K6 := K5.call g6)
      | (go_at_call 32; (with_reducible refine (awake3_any _).mono ?_); rintro e9 w9 ⟨rfl, g9⟩; have K9 := K6.call g9)
      | fail)
    go_ret
    exact ⟨rfl, K9.below⟩
  simp only [vc] at hvc
  obtain ⟨ra, rb, rc⟩ : (0 ≤ n ∧ n ≤ 4096 ∧ vrest n (-1) la = 0) ∧ (0 ≤ n ∧ n ≤ 4096 ∧ vrest n (-1) lb = 0) ∧ (0 ≤ n ∧ n ≤ 4096 ∧ vrest n (-1) lc = 0) := ⟨valid_zero va, valid_zero vb, valid_zero vc⟩
  have oa := ok_q.1 ra.2.2
  have ob := ok_q.1 rb.2.2
  have oc := ok_q.1 rc.2.2
  obtain ⟨N, rfl⟩ : ∃ N : Nat, n = N := ⟨n.toNat, by omega⟩
  obtain ⟨x1, HX1⟩ : ∃ u, Hid (zOf ks (val da) = u) := ⟨_, rfl⟩
  obtain ⟨x2, HX2⟩ : ∃ u, Hid (zOf kt (val db) = u) := ⟨_, rfl⟩
  have ik1 : IntAt w ks kA kn kc x1 := by rw [← HX1.out]; exact hk1.i _ h2.1
  have ik2 : IntAt w kt kB km kd x2 := by rw [← HX2.out]; exact hk2.i _ h2.2
  have zk1 : Sz x1 12 := by rw [← HX1.out]; exact hk1.z _ h2.1
  have zk2 : Sz x2 12 := by rw [← HX2.out]; exact hk2.z _ h2.2
  -- the mathematics
  obtain ⟨QA, EA⟩ : ∃ q, q = la.map VE.q := ⟨_, rfl⟩
  obtain ⟨QB, EB⟩ : ∃ q, q = lb.map VE.q := ⟨_, rfl⟩
  obtain ⟨QC, EC⟩ : ∃ q, q = lc.map VE.q := ⟨_, rfl⟩
  have lenA : QA.length = la.length := by rw [EA, List.length_map]
  have lenB : QB.length = lb.length := by rw [EB, List.length_map]
  have lenC : QC.length = lc.length := by rw [EC, List.length_map]
  rw [← EA] at oa
  rw [← EB] at ob
  rw [← EC] at oc
  have qsa := ve_szq hSa (by decide)
  have qsb := ve_szq hSb (by decide)
  have qsc := ve_szq hSc (by decide)
  rw [← EA] at qsa
  rw [← EB] at qsb
  rw [← EC] at qsc
  have qna := ve_qn hSa
  have qnb := ve_qn hSb
  have qnc := ve_qn hSc
  rw [← EA] at qna
  rw [← EB] at qnb
  rw [← EC] at qnc
  have qk : SzQ (qv x1 x2) 14 := SzQ.of zk1 zk2 (by decide)
  obtain ⟨QS, ES⟩ : ∃ q, q = addQ (qv x1 x2) (la.length + lb.length) QA QB := ⟨_, rfl⟩
  have os : okQ (N : Int) (-1) QS := by rw [ES]; exact addQ_ok _ _ _ _ oa ob
  have lenS : QS.length ≤ la.length + lb.length := by rw [ES, ← lenA, ← lenB]; exact addQ_len _ _ _
  have qss : ∀ z ∈ QS, SzQ z.2 47 := by
    rw [ES]
    exact addQ_mem (P := fun q => SzQ q 47) _ _ _ (fun x hx => (qsa x hx).mono (by decide)) (fun y hy => (qk.mul (qsb y hy) (by decide) (by decide)).mono (by decide)) (fun x hx y hy => ((qsa x hx).add (qk.mul (qsb y hy) (by decide) (by decide)) (by decide) (by decide)).mono (by decide))
  have hlin : dotQ N QS QC = dotQ N QA QC + qv x1 x2 * dotQ N QB QC := dotQ_add N QA QB QC QS _ (by rw [ES]; exact addQ_at _ _ _ _ oa ob (by omega))
  have zp : SzQ (dotQ N QA QC) 872 := dotQ_size2 oa oc qna qnc (by decide) (fun k h1 h2 => by omega)
  have zq : SzQ (dotQ N QB QC) 872 := dotQ_size2 ob oc qnb qnc (by decide) (fun k h1 h2 => by omega)
  have zm : SzQ (qv x1 x2 * dotQ N QB QC) 890 := (qk.mul zq (by decide) (by decide)).mono (by decide)
  have hadd := fun w' (hb : Below w.heap.size w w') => addScaled_at (w := w') (c := c) (d := d) (n := (N : Int)) (hWa.call hb) (hWb.call hb) (ik1.call hb) (ik2.call hb) va vb hSa hSb zk1 zk2 (by decide) (by decide) (by decide) (by decide) (by omega) (by omega)
  rw [← EA, ← EB, ← ES] at hadd
  have hac := fun w' (hb : Below w.heap.size w w') => dot_at (w := w') (c := c) (d := e) (n := (N : Int)) (hWa.call hb) (hWc.call hb) va vc hSa hSc (by decide) (by decide) (by omega) (by omega) (fun k h1 h2 => by omega)
  have hbc := fun w' (hb : Below w.heap.size w w') => dot_at (w := w') (c := d) (d := e) (n := (N : Int)) (hWb.call hb) (hWc.call hb) vb vc hSb hSc (by decide) (by decide) (by omega) (by omega) (fun k h1 h2 => by omega)
  rw [← EA, ← EC, Int.toNat_natCast] at hac
  rw [← EB, ← EC, Int.toNat_natCast] at hbc
  obtain ⟨X1, HX3⟩ : ∃ u, Hid ((dotQ N QS QC).num = u) := ⟨_, rfl⟩
  obtain ⟨X2, HX4⟩ : ∃ u, Hid (((dotQ N QS QC).den : Int) = u) := ⟨_, rfl⟩
  obtain ⟨P1, HP1⟩ : ∃ u, Hid ((dotQ N QA QC).num = u) := ⟨_, rfl⟩
  obtain ⟨P2, HP2⟩ : ∃ u, Hid (((dotQ N QA QC).den : Int) = u) := ⟨_, rfl⟩
  obtain ⟨Q1, HQ1⟩ : ∃ u, Hid ((dotQ N QB QC).num = u) := ⟨_, rfl⟩
  obtain ⟨Q2, HQ2⟩ : ∃ u, Hid (((dotQ N QB QC).den : Int) = u) := ⟨_, rfl⟩
  obtain ⟨U1, HU1⟩ : ∃ u, Hid ((qv x1 x2 * dotQ N QB QC).num = u) := ⟨_, rfl⟩
  obtain ⟨U2, HU2⟩ : ∃ u, Hid (((qv x1 x2 * dotQ N QB QC).den : Int) = u) := ⟨_, rfl⟩
  have HMUL : Hid (rn (x1 * Q1) (x2 * Q2) = U1 ∧ rd (x1 * Q1) (x2 * Q2) = U2) := by
    have := mul_q x1 x2 Q1 Q2
    rw [show qv Q1 Q2 = dotQ N QB QC by rw [← HQ1.out, ← HQ2.out, qv_nd]] at this
    unfold Hid
    rw [← HU1.out, ← HU2.out]
    exact this
  have HSUM : Hid (aN P1 P2 U1 U2 = X1 ∧ aD P1 P2 U1 U2 = X2) := by
    have := aN_q P1 P2 U1 U2
    rw [show qv P1 P2 = dotQ N QA QC by rw [← HP1.out, ← HP2.out, qv_nd], show qv U1 U2 = qv x1 x2 * dotQ N QB QC by rw [← HU1.out, ← HU2.out, qv_nd], ← hlin] at this
    unfold Hid
    rw [← HX3.out, ← HX4.out]
    exact this
  have HZP : Hid (Sz P1 910 ∧ Sz P2 910) := by unfold Hid; rw [← HP1.out, ← HP2.out]; exact zp.mono (by decide)
  have HZQ : Hid (Sz Q1 900 ∧ Sz Q2 900) := by unfold Hid; rw [← HQ1.out, ← HQ2.out]; exact zq.mono (by decide)
  have HZU : Hid (Sz U1 910 ∧ Sz U2 910) := by unfold Hid; rw [← HU1.out, ← HU2.out]; exact zm.mono (by decide)
  simp only [HP1.out, HP2.out] at hac
  simp only [HQ1.out, HQ2.out] at hbc
  have HSC : Hid (∀ (w' : World) (A1 : Option Addr) (q1 : Nat) (l1 : List VE), l1.map VE.v = QS.map nd → VC w' A1 l1 → Below w.heap.size w w' →
      Calls Try.prog 45 #[.slice A1 l1.length q1, .slice C lc.length e, .int .i64 (N : Int)] w' (RetFE w' X1 X2 0) ∧ Calls Try.prog 45 #[.slice C lc.length e, .slice A1 l1.length q1, .int .i64 (N : Int)] w' (RetFE w' X1 X2 0)) := by
    intro w' A1 q1 l1 m1 v1 hb
    have hS1 := nd_sz m1 qss
    have hv1 := q_valid m1 ra.1 ra.2.1 os
    have hq1 := q_of_nd m1
    have hl1 : l1.length ≤ la.length + lb.length := by rw [← List.length_map (f := VE.v), m1, List.length_map]; exact lenS
    have r1 := dot_at (w := w') (c := q1) (d := e) (n := (N : Int)) (v1.vl hS1) (hWc.call hb) hv1 vc hS1 hSc (by decide) (by decide) (by omega) (by omega) (fun k h1 h2 => by omega)
    have r2 := dot_at (w := w') (c := e) (d := q1) (n := (N : Int)) (hWc.call hb) (v1.vl hS1) vc hv1 hSc hS1 (by decide) (by decide) (by omega) (by omega) (fun k h1 h2 => by omega)
    rw [hq1, ← EC, Int.toNat_natCast, HX3.out, HX4.out] at r1
    rw [hq1, ← EC, Int.toNat_natCast, dotQ_comm, HX3.out, HX4.out] at r2
    exact ⟨r1, r2⟩
  have HIK1 := Lib.hid ik1
  have HIK2 := Lib.hid ik2
  have HK12 := Lib.hid h2
  have zk1' : Sz x1 900 := zk1.mono (by decide)
  have zk2' : Sz x2 900 := zk2.mono (by decide)
  obtain ⟨LA, HLA⟩ : ∃ u, Hid (la.length = u) := ⟨_, rfl⟩
  obtain ⟨LB, HLB⟩ : ∃ u, Hid (lb.length = u) := ⟨_, rfl⟩
  obtain ⟨LC, HLC⟩ : ∃ u, Hid (lc.length = u) := ⟨_, rfl⟩
  simp only [HLA.out, HLB.out, HLC.out] at hadd hac hbc hva hvb hvc hlight HSC HH ⊢
  have HSS := Lib.hid EA
  clear h h2 h3 hWa hWb hWc hSa hSb hSc h60 hA hB hC hk1 hk2 va vb vc ra rb rc oa ob oc ik1 ik2 zk1 zk2 lenA lenB lenC qsa qsb qsc qna qnb qnc qk ES os lenS qss hlin zp zq zm EA EB EC HSS HX1 HX2 hn1 hn2
  go_enter Try.func8, Try.ntmps8
  go_upto_region 4 with (first
    | (go_at_call 30; (with_reducible refine hlight.mono ?_); clear hlight; rintro e1 w1 ⟨rfl, g1⟩; have K1 := HH.out.call g1; obtain ⟨⟨p0, p1, p2, p3⟩, _⟩ := K1.facts)
    | (go_at_call 18; (with_reducible refine (hlk w1).mono ?_); clear hlk; rintro e2 w2 ⟨rfl, g2⟩; have K2 := (K1.alloc (.cells #[.bool ks, .slice kA kn kc, .bool kt, .slice kB km kd] 35)).call g2)
    | (go_at_call 31; (with_reducible refine (hs _).mono ?_); clear hs; rintro e3 w3 ⟨rfl, g3⟩; have K3 := K2.call g3)
    | (go_at_call 42; (with_reducible refine (hva _ K3.below).mono ?_); clear hva; rintro e4 w4 ⟨rfl, g4⟩; have K4 := K3.call g4)
    | (go_at_call 42; (with_reducible refine (hvb _ K4.below).mono ?_); clear hvb; rintro e5 w5 ⟨rfl, g5⟩; have K5 := K4.call g5)
    | (go_at_call 42; (with_reducible refine (hvc _ K5.below).mono ?_); clear hvc; rintro e6 w6 ⟨rfl, g6⟩; have K6 := K5.call g6; clear p0 p1 p2 p3; obtain ⟨⟨p0, p1, p2, p3⟩, _⟩ := K6.facts)
    | (go_at_call 44; (with_reducible refine (hadd _ K6.below).mono ?_); clear hadd; rintro e7 w7 ⟨A1, q1, l1, rfl, m1, v1, g7⟩; have K7 := K6.call g7)
    | fail)
  clear p0 p1 p2 p3 K1 K2 K3 K4 K5 K6 g1 g2 g3 g4 g5 g6 g7
  have HV1 := Lib.hid v1
  have HM1 := Lib.hid m1
  have hsc := (HSC.out w7 A1 q1 l1 m1 v1 K7.below).1
  have hcs := fun w' (hb : Below w7.heap.size w7 w') => (HSC.out w' A1 q1 l1 HM1.out (HV1.out.call hb) (bcall K7.below hb)).2
  obtain ⟨L1_, HL1⟩ : ∃ u, Hid (l1.length = u) := ⟨_, rfl⟩
  simp only [HL1.out] at hsc hcs ⊢
  clear v1 m1
  have HB7 := Lib.hid K7.below
  go_upto_region 5 with (first
    | (go_at_call 45; (with_reducible refine hsc.mono ?_); clear hsc; rintro e8 w8 ⟨D1, o1, r1, D2, o2, r2, rfl, i1, i2, g8⟩; have K8 := (((K7.call g8).add i2).add i1).new 35 (Plains.four (decide (X1 < 0)) D1 o1 r1 (decide (X2 < 0)) D2 o2 r2); have b8 := bcall g8 (bnew w8 (.cells #[.bool (decide (X1 < 0)), .slice D1 o1 r1, .bool (decide (X2 < 0)), .slice D2 o2 r2] 35)))
    | fail)
  clear K7 g8 i1 i2
  generalize w8.alloc (.cells #[.bool (decide (X1 < 0)), .slice D1 o1 r1, .bool (decide (X2 < 0)), .slice D2 o2 r2] 35) = W8 at K8 b8 ⊢
  generalize w8.heap.size = h8 at K8 ⊢
  go_upto_region 6 with (first
    | (go_at_call 45; (with_reducible refine (hac _ K8.below).mono ?_); clear hac; rintro e9 w9 ⟨D3, o3, r3, D4, o4, r4, rfl, i1, i2, g9⟩; have K9 := (((K8.call g9).add i2).add i1).new 35 (Plains.four (decide (P1 < 0)) D3 o3 r3 (decide (P2 < 0)) D4 o4 r4); have b9 := bcall (bcall b8 g9) (bnew w9 (.cells #[.bool (decide (P1 < 0)), .slice D3 o3 r3, .bool (decide (P2 < 0)), .slice D4 o4 r4] 35)))
    | fail)
  clear K8 g9 i1 i2 b8
  generalize w9.alloc (.cells #[.bool (decide (P1 < 0)), .slice D3 o3 r3, .bool (decide (P2 < 0)), .slice D4 o4 r4] 35) = W9 at K9 b9 ⊢
  generalize w9.heap.size = h9 at K9 ⊢
  go_upto_region 7 with (first
    | (go_at_call 45; (with_reducible refine (hbc _ K9.below).mono ?_); clear hbc; rintro e10 w10 ⟨D5, o5, r5, D6, o6, r6, rfl, i1, i2, g10⟩; have K10 := (((K9.call g10).add i2).add i1).new 35 (Plains.four (decide (Q1 < 0)) D5 o5 r5 (decide (Q2 < 0)) D6 o6 r6); have b10 := bcall (bcall b9 g10) (bnew w10 (.cells #[.bool (decide (Q1 < 0)), .slice D5 o5 r5, .bool (decide (Q2 < 0)), .slice D6 o6 r6] 35)))
    | fail)
  clear K9 g10 i1 i2 b9
  generalize w10.alloc (.cells #[.bool (decide (Q1 < 0)), .slice D5 o5 r5, .bool (decide (Q2 < 0)), .slice D6 o6 r6] 35) = W10 at K10 b10 ⊢
  generalize w10.heap.size = h10 at K10 ⊢
  go_upto_region 8 with (first
    | (go_at_call 45; (with_reducible refine (hcs _ b10).mono ?_); clear hcs; rintro e11 w11 ⟨D7, o7, r7, D8, o8, r8, rfl, i1, i2, g11⟩; have K11 := (((K10.call g11).add i2).add i1).new 35 (Plains.four (decide (X1 < 0)) D7 o7 r7 (decide (X2 < 0)) D8 o8 r8))
    | fail)
  clear K10 g11 i1 i2 b10
  generalize w11.alloc (.cells #[.bool (decide (X1 < 0)), .slice D7 o7 r7, .bool (decide (X2 < 0)), .slice D8 o8 r8] 35) = W11 at K11 ⊢
  generalize w11.heap.size = h11 at K11 ⊢
  go_cut [21] (fun vx wx => ∃ (h12 : Nat) (E3 : Option Addr) (s3 t3 : Nat) (E4 : Option Addr) (s4 t4 : Nat), vx = .pointer (some ⟨h12, 0, none⟩) ∧ St w wx [vf h12 (decide (X1 < 0)) E3 s3 t3 (decide (X2 < 0)) E4 s4 t4, vf h11 (decide (X1 < 0)) D7 o7 r7 (decide (X2 < 0)) D8 o8 r8, vf h10 (decide (Q1 < 0)) D5 o5 r5 (decide (Q2 < 0)) D6 o6 r6, vf h9 (decide (P1 < 0)) D3 o3 r3 (decide (P2 < 0)) D4 o4 r4, vf h8 (decide (X1 < 0)) D1 o1 r1 (decide (X2 < 0)) D2 o2 r2, vf w.heap.size ks kA kn kc kt kB km kd] [(decide (X1 < 0), E3, s3, t3, X1, true), (decide (X2 < 0), E4, s4, t4, X2, true), (decide (X1 < 0), D7, o7, r7, X1, true), (decide (X2 < 0), D8, o8, r8, X2, true), (decide (X1 < 0), D1, o1, r1, X1, true), (decide (X2 < 0), D2, o2, r2, X2, true)])
  case first =>
    have KZ := K11
    clear K11
    obtain ⟨_, ⟨q0_1, q1_1, q2_1, q3_1⟩, ⟨p0_1, p1_1, p2_1, p3_1⟩, _, ⟨k0_1, k1_1, k2_1, k3_1⟩, _⟩ := KZ.facts
    skip
    refine wp_region_held_drew (S := fun w' => w'.cell? ⟨h9, 0, none⟩ = some (.bool (decide (P1 < 0))) ∧ w'.cell? ⟨h9, 1, none⟩ = some (.slice D3 o3 r3) ∧ w'.cell? ⟨h9, 2, none⟩ = some (.bool (decide (P2 < 0))) ∧ w'.cell? ⟨h9, 3, none⟩ = some (.slice D4 o4 r4) ∧ w'.cell? ⟨w.heap.size, 0, none⟩ = some (.bool (ks)) ∧ w'.cell? ⟨w.heap.size, 1, none⟩ = some (.slice kA kn kc) ∧ w'.cell? ⟨w.heap.size, 2, none⟩ = some (.bool (kt)) ∧ w'.cell? ⟨w.heap.size, 3, none⟩ = some (.slice kB km kd) ∧ w'.cell? ⟨h10, 0, none⟩ = some (.bool (decide (Q1 < 0))) ∧ w'.cell? ⟨h10, 1, none⟩ = some (.slice D5 o5 r5) ∧ w'.cell? ⟨h10, 2, none⟩ = some (.bool (decide (Q2 < 0))) ∧ w'.cell? ⟨h10, 3, none⟩ = some (.slice D6 o6 r6)) (by kernel_rfl) ?_ (fun hHeld0 => ?_)
    · ((try dsimp only); first | go_keep | (trace_state; fail))
    refine wpAnyH_take (i := 0) (oi := ⟨some 94, _, _, _, _, _⟩) (v := ?_) rfl (by kernel_rfl) (by kernel_rfl) (by kernel_rfl) (fun _ _ _ h => h) (Or.inl ⟨by rfl, ?_⟩) (by assumption) ?_
    rotate_left
    · (intro w' hSw; (try dsimp only at hSw); go_simp; (try with_reducible rfl))
    (try simp only [Act.put, List.setIfInBounds_toArray, List.set_cons_zero, List.set_cons_succ])
    refine wpAnyH_take (i := 1) (oi := ⟨some 95, _, _, _, _, _⟩) (v := ?_) rfl (by kernel_rfl) (by kernel_rfl) (by kernel_rfl) (fun _ _ _ h => h) (Or.inl ⟨by rfl, ?_⟩) (by assumption) ?_
    rotate_left
    · (intro w' hSw; (try dsimp only at hSw); go_simp; (try with_reducible rfl))
    (try simp only [Act.put, List.setIfInBounds_toArray, List.set_cons_zero, List.set_cons_succ])
    refine wpAnyH_take (i := 2) (oi := ⟨some 96, _, _, _, _, _⟩) (v := ?_) rfl (by kernel_rfl) (by kernel_rfl) (by kernel_rfl) (fun _ _ _ h => h) (Or.inl ⟨by rfl, ?_⟩) (by assumption) ?_
    rotate_left
    · (intro w' hSw; (try dsimp only at hSw); go_simp; (try with_reducible rfl))
    (try simp only [Act.put, List.setIfInBounds_toArray, List.set_cons_zero, List.set_cons_succ])
    refine wpAnyH_ready (rs := [3, 5]) (by kernel_rfl) (by simp) ?_
    refine AllReadyH.cons (o := ⟨some 97, _, _, _, _, _⟩) rfl (fun K hK => ?_) ?_
    · skip
      go_simp
      have g1 := HIK1.out.call (KZ.drew).below
      have g2 := HIK2.out.call (KZ.drew).below
      have g3 := ((KZ.drew).ints.2.2.1.c).at_ HZQ.out.1.ok
      have g4 := ((KZ.drew).ints.2.2.2.1.c).at_ HZQ.out.2.ok
      have l3 := ((KZ.drew).ints.2.2.1.c).n_le HZQ.out.1
      have l4 := ((KZ.drew).ints.2.2.2.1.c).n_le HZQ.out.2
      (go_at_call 47; (with_reducible refine (rmulF_at g1 g2 g3 g4 zk1' zk2' HZQ.out.1 HZQ.out.2 (by have := HK12.out; omega) (by have := HK12.out; omega) (by omega) (by omega)).mono ?_); rw [HMUL.out.1, HMUL.out.2]; rintro ee w12 ⟨E1, s1, t1, E2, s2, t2, rfl, i1, i2, v3⟩)
      (try go_wp2_with fail)
      have K3 := (((KZ.drew).call v3).add i2).add i1
      clear g1 g2 g3 g4 l3 l4
      obtain ⟨_, ⟨q0_2, q1_2, q2_2, q3_2⟩, ⟨p0_2, p1_2, p2_2, p3_2⟩, _, ⟨k0_2, k1_2, k2_2, k3_2⟩, _⟩ := K3.facts
      refine hK.out _ _ ?_ (fun hHeld1 => ?_)
      · ((try dsimp only); first | go_keep | (trace_state; fail))
      clear hK K hHeld0
      (try simp only [Act.put, List.setIfInBounds_toArray, List.set_cons_zero, List.set_cons_succ])
      refine wpAnyH_ready (rs := [4, 5]) (by kernel_rfl) (by simp) ?_
      refine AllReadyH.cons (o := ⟨some 98, _, _, _, _, _⟩) rfl (fun K hK => ?_) ?_
      · skip
        go_simp
        have y1 := (K3).ints.1.ci HZU.out.1.ok
        have y2 := (K3).ints.2.1.ci HZU.out.2.ok
        have y3 := (K3).ints.2.2.2.2.2.2.1.ci HZP.out.1.ok
        have y4 := (K3).ints.2.2.2.2.2.2.2.1.ci HZP.out.2.ok
        (go_at_call 46; (with_reducible refine (raddF_at y3 y4 y1 y2 HZP.out.1 HZP.out.2 HZU.out.1 HZU.out.2).mono ?_); rw [HSUM.out.1, HSUM.out.2]; rintro ee w13 ⟨E3, s3, t3, E4, s4, t4, rfl, i3, i4, v4⟩)
        (try go_wp2_with fail)
        have K4 := (((K3).call v4).add i4).add i3
        clear y1 y2 y3 y4
        clear q0_2 q1_2 q2_2 q3_2 p0_2 p1_2 p2_2 p3_2 k0_2 k1_2 k2_2 k3_2
        obtain ⟨_, ⟨q0_3, q1_3, q2_3, q3_3⟩, ⟨p0_3, p1_3, p2_3, p3_3⟩, _, ⟨k0_3, k1_3, k2_3, k3_3⟩, _⟩ := K4.facts
        refine hK.out _ _ ?_ (fun hHeld2 => ?_)
        · ((try dsimp only); first | go_keep | (trace_state; fail))
        clear hK K hHeld1
        (try simp only [Act.put, List.setIfInBounds_toArray, List.set_cons_zero, List.set_cons_succ])
        refine wpAnyH_ready (rs := [5]) (by kernel_rfl) (by simp) ?_
        refine AllReadyH.cons (o := ⟨some 21, _, _, _, _, _⟩) rfl (fun K hK => ?_) AllReadyH.nil
        go_simp
        have KA := K4.new 35 (Plains.four false none 0 0 false none 0 0)
        (try simp only [World.size_alloc] at KA)
        obtain ⟨⟨b0_4, b1_4, b2_4, b3_4⟩, _, ⟨q0_4, q1_4, q2_4, q3_4⟩, ⟨p0_4, p1_4, p2_4, p3_4⟩, _, ⟨k0_4, k1_4, k2_4, k3_4⟩, _⟩ := KA.facts
        obtain ⟨f0_4, f1_4, f2_4, f3_4⟩ := KA.free (i := 0) rfl
        obtain ⟨e0x_4, e0y_4⟩ := KA.ne 0 2 rfl rfl (by decide)
        obtain ⟨e1x_4, e1y_4⟩ := KA.ne 0 3 rfl rfl (by decide)
        obtain ⟨e2x_4, e2y_4⟩ := KA.ne 0 5 rfl rfl (by decide)
        refine hK.out _ _ ?_ (fun hHeld3 => ?_)
        · ((try dsimp only); first | go_keep | (trace_state; fail))
        clear hK K hHeld2
        (try simp only [Act.put, List.setIfInBounds_toArray, List.set_cons_zero, List.set_cons_succ])
        refine wpAnyH_ready (rs := [6]) (by kernel_rfl) (by simp) ?_
        refine AllReadyH.cons (o := ⟨none, _, _, _, _, _⟩) rfl (fun K hK => ?_) AllReadyH.nil
        go_simp
        refine hK.out _ _ ?_ (fun hHeld4 => ?_)
        · ((try dsimp only); first | go_keep | (trace_state; fail))
        clear hK K hHeld3
        (try simp only [Act.put, List.setIfInBounds_toArray, List.set_cons_zero, List.set_cons_succ])
        refine wpAnyH_done (by kernel_rfl) ?_ _
        go_wp2_with fail
        go_meet
        have KF := K4.new 35 (Plains.four (decide (X1 < 0)) E3 s3 t3 (decide (X2 < 0)) E4 s4 t4)
        (try simp only [List.set, World.size_alloc, World.size_setCell] at KF)
        exact ⟨_, E3, s3, t3, E4, s4, t4, rfl, KF.ints_ ⟨KF.ints.1, KF.ints.2.1, KF.ints.2.2.2.2.1, KF.ints.2.2.2.2.2.1, KF.ints.2.2.2.2.2.2.2.2.2.2.1, KF.ints.2.2.2.2.2.2.2.2.2.2.2.1, trivial⟩⟩
      refine AllReadyH.cons (o := ⟨some 21, _, _, _, _, _⟩) rfl (fun K hK => ?_) AllReadyH.nil
      go_simp
      have KA := K3.new 35 (Plains.four false none 0 0 false none 0 0)
      (try simp only [World.size_alloc] at KA)
      obtain ⟨⟨b0_5, b1_5, b2_5, b3_5⟩, _, ⟨q0_5, q1_5, q2_5, q3_5⟩, ⟨p0_5, p1_5, p2_5, p3_5⟩, _, ⟨k0_5, k1_5, k2_5, k3_5⟩, _⟩ := KA.facts
      obtain ⟨f0_5, f1_5, f2_5, f3_5⟩ := KA.free (i := 0) rfl
      obtain ⟨e0x_5, e0y_5⟩ := KA.ne 0 2 rfl rfl (by decide)
      obtain ⟨e1x_5, e1y_5⟩ := KA.ne 0 3 rfl rfl (by decide)
      obtain ⟨e2x_5, e2y_5⟩ := KA.ne 0 5 rfl rfl (by decide)
      refine hK.out _ _ ?_ (fun hHeld2 => ?_)
      · ((try dsimp only); first | go_keep | (trace_state; fail))
      clear hK K hHeld1
      (try simp only [Act.put, List.setIfInBounds_toArray, List.set_cons_zero, List.set_cons_succ])
      refine wpAnyH_ready (rs := [4]) (by kernel_rfl) (by simp) ?_
      refine AllReadyH.cons (o := ⟨some 98, _, _, _, _, _⟩) rfl (fun K hK => ?_) AllReadyH.nil
      go_simp
      have y1 := (KA).ints.1.ci HZU.out.1.ok
      have y2 := (KA).ints.2.1.ci HZU.out.2.ok
      have y3 := (KA).ints.2.2.2.2.2.2.1.ci HZP.out.1.ok
      have y4 := (KA).ints.2.2.2.2.2.2.2.1.ci HZP.out.2.ok
      (go_at_call 46; (with_reducible refine (raddF_at y3 y4 y1 y2 HZP.out.1 HZP.out.2 HZU.out.1 HZU.out.2).mono ?_); rw [HSUM.out.1, HSUM.out.2]; rintro ee w13 ⟨E3, s3, t3, E4, s4, t4, rfl, i3, i4, v4⟩)
      (try go_wp2_with fail)
      have K4 := (((KA).call v4).add i4).add i3
      clear y1 y2 y3 y4
      clear q0_2 q1_2 q2_2 q3_2 p0_2 p1_2 p2_2 p3_2 k0_2 k1_2 k2_2 k3_2 q0_5 q1_5 q2_5 q3_5 p0_5 p1_5 p2_5 p3_5 k0_5 k1_5 k2_5 k3_5 b0_5 b1_5 b2_5 b3_5 f0_5 f1_5 f2_5 f3_5 e0x_5 e0y_5 e1x_5 e1y_5 e2x_5 e2y_5
      obtain ⟨⟨b0_6, b1_6, b2_6, b3_6⟩, _, ⟨q0_6, q1_6, q2_6, q3_6⟩, ⟨p0_6, p1_6, p2_6, p3_6⟩, _, ⟨k0_6, k1_6, k2_6, k3_6⟩, _⟩ := K4.facts
      obtain ⟨f0_6, f1_6, f2_6, f3_6⟩ := K4.free (i := 0) rfl
      obtain ⟨e0x_6, e0y_6⟩ := K4.ne 0 2 rfl rfl (by decide)
      obtain ⟨e1x_6, e1y_6⟩ := K4.ne 0 3 rfl rfl (by decide)
      obtain ⟨e2x_6, e2y_6⟩ := K4.ne 0 5 rfl rfl (by decide)
      refine hK.out _ _ ?_ (fun hHeld3 => ?_)
      · ((try dsimp only); first | go_keep | (trace_state; fail))
      clear hK K hHeld2
      (try simp only [Act.put, List.setIfInBounds_toArray, List.set_cons_zero, List.set_cons_succ])
      refine wpAnyH_ready (rs := [6]) (by kernel_rfl) (by simp) ?_
      refine AllReadyH.cons (o := ⟨none, _, _, _, _, _⟩) rfl (fun K hK => ?_) AllReadyH.nil
      go_simp
      refine hK.out _ _ ?_ (fun hHeld4 => ?_)
      · ((try dsimp only); first | go_keep | (trace_state; fail))
      clear hK K hHeld3
      (try simp only [Act.put, List.setIfInBounds_toArray, List.set_cons_zero, List.set_cons_succ])
      refine wpAnyH_done (by kernel_rfl) ?_ _
      go_wp2_with fail
      go_meet
      have KF := K4.put4 0 rfl (decide (X1 < 0)) E3 s3 t3 (decide (X2 < 0)) E4 s4 t4
      (try simp only [List.set, World.size_alloc, World.size_setCell] at KF)
      exact ⟨_, E3, s3, t3, E4, s4, t4, rfl, KF.ints_ ⟨KF.ints.1, KF.ints.2.1, KF.ints.2.2.2.2.1, KF.ints.2.2.2.2.2.1, KF.ints.2.2.2.2.2.2.2.2.2.2.1, KF.ints.2.2.2.2.2.2.2.2.2.2.2.1, trivial⟩⟩
    refine AllReadyH.cons (o := ⟨some 21, _, _, _, _, _⟩) rfl (fun K hK => ?_) AllReadyH.nil
    go_simp
    have KA := KZ.new 35 (Plains.four false none 0 0 false none 0 0)
    (try simp only [World.size_alloc] at KA)
    obtain ⟨⟨b0_7, b1_7, b2_7, b3_7⟩, _, ⟨q0_7, q1_7, q2_7, q3_7⟩, ⟨p0_7, p1_7, p2_7, p3_7⟩, _, ⟨k0_7, k1_7, k2_7, k3_7⟩, _⟩ := KA.facts
    obtain ⟨f0_7, f1_7, f2_7, f3_7⟩ := KA.free (i := 0) rfl
    obtain ⟨e0x_7, e0y_7⟩ := KA.ne 0 2 rfl rfl (by decide)
    obtain ⟨e1x_7, e1y_7⟩ := KA.ne 0 3 rfl rfl (by decide)
    obtain ⟨e2x_7, e2y_7⟩ := KA.ne 0 5 rfl rfl (by decide)
    refine hK.out _ _ ?_ (fun hHeld1 => ?_)
    · ((try dsimp only); first | go_keep | (trace_state; fail))
    clear hK K hHeld0
    (try simp only [Act.put, List.setIfInBounds_toArray, List.set_cons_zero, List.set_cons_succ])
    refine wpAnyH_ready (rs := [3]) (by kernel_rfl) (by simp) ?_
    refine AllReadyH.cons (o := ⟨some 97, _, _, _, _, _⟩) rfl (fun K hK => ?_) AllReadyH.nil
    go_simp
    have g1 := HIK1.out.call (KA.drew).below
    have g2 := HIK2.out.call (KA.drew).below
    have g3 := ((KA.drew).ints.2.2.1.c).at_ HZQ.out.1.ok
    have g4 := ((KA.drew).ints.2.2.2.1.c).at_ HZQ.out.2.ok
    have l3 := ((KA.drew).ints.2.2.1.c).n_le HZQ.out.1
    have l4 := ((KA.drew).ints.2.2.2.1.c).n_le HZQ.out.2
    (go_at_call 47; (with_reducible refine (rmulF_at g1 g2 g3 g4 zk1' zk2' HZQ.out.1 HZQ.out.2 (by have := HK12.out; omega) (by have := HK12.out; omega) (by omega) (by omega)).mono ?_); rw [HMUL.out.1, HMUL.out.2]; rintro ee w12 ⟨E1, s1, t1, E2, s2, t2, rfl, i1, i2, v3⟩)
    (try go_wp2_with fail)
    have K3 := (((KA.drew).call v3).add i2).add i1
    clear g1 g2 g3 g4 l3 l4
    clear q0_7 q1_7 q2_7 q3_7 p0_7 p1_7 p2_7 p3_7 k0_7 k1_7 k2_7 k3_7 b0_7 b1_7 b2_7 b3_7 f0_7 f1_7 f2_7 f3_7 e0x_7 e0y_7 e1x_7 e1y_7 e2x_7 e2y_7
    obtain ⟨⟨b0_8, b1_8, b2_8, b3_8⟩, _, ⟨q0_8, q1_8, q2_8, q3_8⟩, ⟨p0_8, p1_8, p2_8, p3_8⟩, _, ⟨k0_8, k1_8, k2_8, k3_8⟩, _⟩ := K3.facts
    obtain ⟨f0_8, f1_8, f2_8, f3_8⟩ := K3.free (i := 0) rfl
    obtain ⟨e0x_8, e0y_8⟩ := K3.ne 0 2 rfl rfl (by decide)
    obtain ⟨e1x_8, e1y_8⟩ := K3.ne 0 3 rfl rfl (by decide)
    obtain ⟨e2x_8, e2y_8⟩ := K3.ne 0 5 rfl rfl (by decide)
    refine hK.out _ _ ?_ (fun hHeld2 => ?_)
    · ((try dsimp only); first | go_keep | (trace_state; fail))
    clear hK K hHeld1
    (try simp only [Act.put, List.setIfInBounds_toArray, List.set_cons_zero, List.set_cons_succ])
    refine wpAnyH_ready (rs := [4]) (by kernel_rfl) (by simp) ?_
    refine AllReadyH.cons (o := ⟨some 98, _, _, _, _, _⟩) rfl (fun K hK => ?_) AllReadyH.nil
    go_simp
    have y1 := (K3).ints.1.ci HZU.out.1.ok
    have y2 := (K3).ints.2.1.ci HZU.out.2.ok
    have y3 := (K3).ints.2.2.2.2.2.2.1.ci HZP.out.1.ok
    have y4 := (K3).ints.2.2.2.2.2.2.2.1.ci HZP.out.2.ok
    (go_at_call 46; (with_reducible refine (raddF_at y3 y4 y1 y2 HZP.out.1 HZP.out.2 HZU.out.1 HZU.out.2).mono ?_); rw [HSUM.out.1, HSUM.out.2]; rintro ee w13 ⟨E3, s3, t3, E4, s4, t4, rfl, i3, i4, v4⟩)
    (try go_wp2_with fail)
    have K4 := (((K3).call v4).add i4).add i3
    clear y1 y2 y3 y4
    clear q0_8 q1_8 q2_8 q3_8 p0_8 p1_8 p2_8 p3_8 k0_8 k1_8 k2_8 k3_8 b0_8 b1_8 b2_8 b3_8 f0_8 f1_8 f2_8 f3_8 e0x_8 e0y_8 e1x_8 e1y_8 e2x_8 e2y_8
    obtain ⟨⟨b0_9, b1_9, b2_9, b3_9⟩, _, ⟨q0_9, q1_9, q2_9, q3_9⟩, ⟨p0_9, p1_9, p2_9, p3_9⟩, _, ⟨k0_9, k1_9, k2_9, k3_9⟩, _⟩ := K4.facts
    obtain ⟨f0_9, f1_9, f2_9, f3_9⟩ := K4.free (i := 0) rfl
    obtain ⟨e0x_9, e0y_9⟩ := K4.ne 0 2 rfl rfl (by decide)
    obtain ⟨e1x_9, e1y_9⟩ := K4.ne 0 3 rfl rfl (by decide)
    obtain ⟨e2x_9, e2y_9⟩ := K4.ne 0 5 rfl rfl (by decide)
    refine hK.out _ _ ?_ (fun hHeld3 => ?_)
    · ((try dsimp only); first | go_keep | (trace_state; fail))
    clear hK K hHeld2
    (try simp only [Act.put, List.setIfInBounds_toArray, List.set_cons_zero, List.set_cons_succ])
    refine wpAnyH_ready (rs := [6]) (by kernel_rfl) (by simp) ?_
    refine AllReadyH.cons (o := ⟨none, _, _, _, _, _⟩) rfl (fun K hK => ?_) AllReadyH.nil
    go_simp
    refine hK.out _ _ ?_ (fun hHeld4 => ?_)
    · ((try dsimp only); first | go_keep | (trace_state; fail))
    clear hK K hHeld3
    (try simp only [Act.put, List.setIfInBounds_toArray, List.set_cons_zero, List.set_cons_succ])
    refine wpAnyH_done (by kernel_rfl) ?_ _
    go_wp2_with fail
    go_meet
    have KF := K4.put4 0 rfl (decide (X1 < 0)) E3 s3 t3 (decide (X2 < 0)) E4 s4 t4
    (try simp only [List.set, World.size_alloc, World.size_setCell] at KF)
    exact ⟨_, E3, s3, t3, E4, s4, t4, rfl, KF.ints_ ⟨KF.ints.1, KF.ints.2.1, KF.ints.2.2.2.2.1, KF.ints.2.2.2.2.2.1, KF.ints.2.2.2.2.2.2.2.2.2.2.1, KF.ints.2.2.2.2.2.2.2.2.2.2.2.1, trivial⟩⟩
  case rest =>
    clear K11
    obtain ⟨h12, E3, s3, t3, E4, s4, t4, rfl, K13⟩ := hcut
    obtain ⟨⟨a0, a1, a2, a3⟩, ⟨b0, b1, b2, b3⟩, _, _, ⟨d0, d1, d2, d3⟩, _⟩ := K13.facts
    have i1 := K13.ints.1.c
    have i2 := K13.ints.2.1.c
    have i3 := K13.ints.2.2.2.2.1.c
    have i4 := K13.ints.2.2.2.2.2.1.c
    go_wp2_with (first
      | (go_at_call_of 39 (Value.agg #[Value.bool (decide (X1 < 0)), Value.slice E3 s3 t3, Value.bool (decide (X2 < 0)), Value.slice E4 s4 t4]); (with_reducible refine (sameFrac_at i3 i4 i1 i2).mono ?_); rintro e14 w14 ⟨rfl, g14⟩; have K14 := K13.call g14; obtain ⟨_, ⟨b0', b1', b2', b3'⟩, _, _, ⟨d0', d1', d2', d3'⟩, _⟩ := K14.facts; have m1 := K14.ints.2.2.1.c; have m2 := K14.ints.2.2.2.1.c; have m3 := K14.ints.2.2.2.2.1.c; have m4 := K14.ints.2.2.2.2.2.1.c)
      | (go_at_call 39; (with_reducible refine (sameFrac_at m3 m4 m1 m2).mono ?_); rintro e15 w15 ⟨rfl, g15⟩; have K15 := K14.call g15)
      | (go_at_call 32; (with_reducible refine (awake3_any _).mono ?_); rintro e16 w16 ⟨rfl, g16⟩; have K16 := K15.call g16)
      | fail)
    go_ret
    exact ⟨rfl, K16.below⟩
end Go.Proofs.Ytjbmaoplcbhgfaa

