/-
  Texts of integers: the program's Parse.
-/
import Derived.Test.YtekoeohkkabkdaaGreatTxE
import Derived.Test.YtekoeohkkabkdaaGreatPow
set_option linter.unusedVariables false
set_option linter.unusedSimpArgs false
namespace Go.Proofs.YtekoeohkkabkdaaGreat
open Go.RowKit

/-- The error of a text, and its value. -/
def parE (l : List UInt8) : Int := if 400 < l.length then 10 else if decB (cutV l).1 = true ∧ ¬((cutV l).2 = true ∧ (cutV l).1 = [48]) then 0 else 1
def parZ (l : List UInt8) : Int := if parE l = 0 then zOf (cutV l).2 (decV (cutV l).1) else 0

theorem allD_of {l : List UInt8} (h : decB l = true) : allD l = true := by
  unfold decB at h
  simp only [Bool.and_eq_true] at h
  exact h.1.1

set_option maxHeartbeats 8000000 in
set_option maxRecDepth 100000 in
theorem parse_at (l : List UInt8) (hl : l.length ≤ 100000) (w : World) : Calls Tryz.prog 20 #[.string ⟨l.toArray⟩] w (RetO w (parZ l) (parE l)) := by
  have hcut := fun w' => cut_any l hl w'
  have hlen := cutV_len l
  obtain ⟨L, HL⟩ : ∃ v, Hid (l.length = v) := ⟨_, rfl⟩
  have hsz := str_size l
  obtain ⟨Z, HZ⟩ : ∃ v, Hid (parZ l = v) := ⟨_, rfl⟩
  obtain ⟨E, HE⟩ : ∃ v, Hid (parE l = v) := ⟨_, rfl⟩
  rw [HZ.out, HE.out]
  have hze : Hid (Z = if E = 0 then zOf (cutV l).2 (decV (cutV l).1) else 0) := by unfold Hid; rw [← HZ.out, ← HE.out]; rfl
  have hee : Hid (E = if 400 < L then 10 else if decB (cutV l).1 = true ∧ ¬((cutV l).2 = true ∧ (cutV l).1 = [48]) then 0 else 1) := by unfold Hid; rw [← HE.out, ← HL.out]; rfl
  unfold RetCut at hcut
  rw [HL.out] at hl hsz hlen
  obtain ⟨R, HR⟩ : ∃ v, Hid ((cutV l).1 = v) := ⟨_, rfl⟩
  obtain ⟨S, HS⟩ : ∃ v, Hid ((cutV l).2 = v) := ⟨_, rfl⟩
  rw [HR.out, HS.out] at hze hee
  rw [HR.out] at hlen
  simp only [HR.out, HS.out] at hcut
  have H0 := (St.start w).new 24 (Plains.two false none 0 0)
  have HH := Lib.hid H0
  clear H0
  by_cases hbig : 400 < L
  · have e1 : E = 10 := by rw [hee.out, if_pos hbig]
    have e2 : Z = 0 := by rw [hze.out, e1]; rfl
    subst e1 e2
    have j1 : (400 : Int) < (L : Int) := by omega
    go_enter Tryz.func20, Tryz.ntmps20
    go_wp2_with fail
    refine bodyPost_ret (v := .tuple #[.agg #[.bool false, .slice none 0 0], .int .i64 10]) (by simp [results, Tryz.results20, go_sem]) rfl ?_
    exact ⟨none, 0, 0, rfl, CanAt.zero_ _, bnew _ _⟩
  · have j1 : ¬ (400 : Int) < (L : Int) := by omega
    have hdec := fun w' => isDecimal_any R (by omega) w'
    obtain ⟨D, HD⟩ : ∃ v, Hid (decB R = v) := ⟨_, rfl⟩
    rw [HD.out] at hee
    simp only [HD.out] at hdec
    rw [show (if 400 < L then (10 : Int) else if D = true ∧ ¬(S = true ∧ R = [48]) then 0 else 1) = (if D = true ∧ ¬(S = true ∧ R = [48]) then 0 else 1) from if_neg hbig] at hee
    by_cases hbad : D = false ∨ (S = true ∧ R = [48])
    · have e1 : E = 1 := by
        rw [hee.out, if_neg]
        rintro ⟨a, b⟩
        rcases hbad with h | h
        · rw [h] at a; cases a
        · exact b h
      have e2 : Z = 0 := by rw [hze.out, e1]; rfl
      subst e1 e2
      rcases hbad with rfl | ⟨rfl, rfl⟩
      · go_enter Tryz.func20, Tryz.ntmps20
        go_wp2_with (first
          | (go_at_call 58; (with_reducible refine (hcut _).mono ?_); rintro e w1 ⟨rfl, g1⟩; have K1 := HH.out.call g1; clear hcut; obtain ⟨⟨p0, p1⟩, _⟩ := K1.facts)
          | (go_at_call 59; (with_reducible refine (hdec _).mono ?_); rintro e w2 ⟨rfl, g2⟩; have K2 := K1.call g2; clear hdec p0 p1; obtain ⟨⟨p0, p1⟩, _⟩ := K2.facts; obtain ⟨f0, f1⟩ := K2.free (i := 0) rfl)
          | fail)
        have K3 := K2.put 0 rfl false none 0 0
        generalize ((w2.setCell ⟨w.heap.size, 0, none⟩ (.bool false)).setCell ⟨w.heap.size, 1, none⟩ (.slice none 0 0)) = W2 at K3 ⊢
        obtain ⟨⟨r0, r1⟩, _⟩ := K3.facts
        refine bodyPost_ret (v := .tuple #[.agg #[.bool false, .slice none 0 0], .int .i64 1]) (by simp [results, Tryz.results20, go_sem, r0, r1]) rfl ?_
        exact ⟨none, 0, 0, rfl, CanAt.zero_ _, K3.below⟩
      · obtain rfl : D = true := by rw [← HD.out]; rfl
        go_enter Tryz.func20, Tryz.ntmps20
        go_wp2_with (first
          | (go_at_call 58; (with_reducible refine (hcut _).mono ?_); rintro e w1 ⟨rfl, g1⟩; have K1 := HH.out.call g1; clear hcut; obtain ⟨⟨p0, p1⟩, _⟩ := K1.facts)
          | (go_at_call 59; (with_reducible refine (hdec _).mono ?_); rintro e w2 ⟨rfl, g2⟩; have K2 := K1.call g2; clear hdec p0 p1; obtain ⟨⟨p0, p1⟩, _⟩ := K2.facts; obtain ⟨f0, f1⟩ := K2.free (i := 0) rfl)
          | fail)
        have K3 := K2.put 0 rfl false none 0 0
        generalize ((w2.setCell ⟨w.heap.size, 0, none⟩ (.bool false)).setCell ⟨w.heap.size, 1, none⟩ (.slice none 0 0)) = W2 at K3 ⊢
        obtain ⟨⟨r0, r1⟩, _⟩ := K3.facts
        refine bodyPost_ret (v := .tuple #[.agg #[.bool false, .slice none 0 0], .int .i64 1]) (by simp [results, Tryz.results20, go_sem, r0, r1]) rfl ?_
        exact ⟨none, 0, 0, rfl, CanAt.zero_ _, K3.below⟩
    · have e1 : E = 0 := by
        rw [hee.out, if_pos]
        refine ⟨?_, fun h => hbad (.inr h)⟩
        cases D
        · exact absurd (.inl rfl) hbad
        · rfl
      have e2 : Z = zOf S (decV R) := by rw [hze.out, e1]; rfl
      subst e1
      have hD1 : D = true := by
        cases D
        · exact absurd (.inl rfl) hbad
        · rfl
      subst hD1
      have hfrom := fun w' => fromDecimal_any R (by omega) (allD_of HD.out) w'
      obtain ⟨V, HV⟩ : ∃ v, Hid (decV R = v) := ⟨_, rfl⟩
      simp only [HV.out] at hfrom
      rw [HV.out] at e2
      have HZ2 := Lib.hid e2
      clear e2 HL hze hee
      have hs : S = false ∨ (S = true ∧ (R == [48]) = false) := by
        cases S
        · exact .inl rfl
        · refine .inr ⟨rfl, ?_⟩
          rw [beq_eq_false_iff_ne]
          exact fun h => hbad (.inr ⟨rfl, h⟩)
      clear hbad
      rcases hs with rfl | ⟨rfl, hne⟩
      · go_enter Tryz.func20, Tryz.ntmps20
        go_wp2_with (first
          | (go_at_call 58; (with_reducible refine (hcut _).mono ?_); rintro e w1 ⟨rfl, g1⟩; have K1 := HH.out.call g1; clear hcut; obtain ⟨⟨p0, p1⟩, _⟩ := K1.facts)
          | (go_at_call 59; (with_reducible refine (hdec _).mono ?_); rintro e w2 ⟨rfl, g2⟩; have K2 := K1.call g2; clear hdec p0 p1; obtain ⟨⟨p0, p1⟩, _⟩ := K2.facts; obtain ⟨f0, f1⟩ := K2.free (i := 0) rfl)
          | (go_at_call 61; (with_reducible refine (hfrom _).mono ?_); rintro e w3 ⟨g3, m3, c3, ds3, rfl, k1, k2, k3, k4, k5, k6, k7, k8⟩; have K3 := K2.call k8; have hd3 := k1.row.dgs k4; rw [k2] at hd3; have hle3 := k1.le; clear hfrom p0 p1 f0 f1)
          | (go_at_call 60; (with_reducible refine (newInt_any false _ m3 c3 ds3 w3 hd3 (by omega) k7).mono ?_); rw [k5, ← HZ2.out]; rintro e w4 ⟨A4, n4, c4, rfl, d4, u4, v4, g4⟩; have K4 := (K3.call g4).add (CanAt.mk_ d4 u4 v4); obtain ⟨⟨p0, p1⟩, _⟩ := K4.facts; obtain ⟨f0, f1⟩ := K4.free (i := 0) rfl)
          | fail)
        have K5 := K4.put 0 rfl (decide (Z < 0)) A4 n4 c4
        generalize ((w4.setCell ⟨w.heap.size, 0, none⟩ (.bool (decide (Z < 0)))).setCell ⟨w.heap.size, 1, none⟩ (.slice A4 n4 c4)) = W2 at K5 ⊢
        obtain ⟨⟨r0, r1⟩, _⟩ := K5.facts
        obtain ⟨jP, _⟩ := K5.ints
        refine bodyPost_ret (v := .tuple #[.agg #[.bool (decide (Z < 0)), .slice A4 n4 c4], .int .i64 0]) (by simp [results, Tryz.results20, go_sem, r0, r1]) rfl ?_
        exact ⟨A4, n4, c4, rfl, jP.c, K5.below⟩
      · have hne2 : ¬ R = [48] := by rw [beq_eq_false_iff_ne] at hne; exact hne
        go_enter Tryz.func20, Tryz.ntmps20
        go_wp2_with (first
          | (go_at_call 58; (with_reducible refine (hcut _).mono ?_); rintro e w1 ⟨rfl, g1⟩; have K1 := HH.out.call g1; clear hcut; obtain ⟨⟨p0, p1⟩, _⟩ := K1.facts)
          | (go_at_call 59; (with_reducible refine (hdec _).mono ?_); rintro e w2 ⟨rfl, g2⟩; have K2 := K1.call g2; clear hdec p0 p1; obtain ⟨⟨p0, p1⟩, _⟩ := K2.facts; obtain ⟨f0, f1⟩ := K2.free (i := 0) rfl)
          | (go_at_call 61; (with_reducible refine (hfrom _).mono ?_); rintro e w3 ⟨g3, m3, c3, ds3, rfl, k1, k2, k3, k4, k5, k6, k7, k8⟩; have K3 := K2.call k8; have hd3 := k1.row.dgs k4; rw [k2] at hd3; have hle3 := k1.le; clear hfrom p0 p1 f0 f1)
          | (go_at_call 60; (with_reducible refine (newInt_any true _ m3 c3 ds3 w3 hd3 (by omega) k7).mono ?_); rw [k5, ← HZ2.out]; rintro e w4 ⟨A4, n4, c4, rfl, d4, u4, v4, g4⟩; have K4 := (K3.call g4).add (CanAt.mk_ d4 u4 v4); obtain ⟨⟨p0, p1⟩, _⟩ := K4.facts; obtain ⟨f0, f1⟩ := K4.free (i := 0) rfl)
          | fail)
        have K5 := K4.put 0 rfl (decide (Z < 0)) A4 n4 c4
        generalize ((w4.setCell ⟨w.heap.size, 0, none⟩ (.bool (decide (Z < 0)))).setCell ⟨w.heap.size, 1, none⟩ (.slice A4 n4 c4)) = W2 at K5 ⊢
        obtain ⟨⟨r0, r1⟩, _⟩ := K5.facts
        obtain ⟨jP, _⟩ := K5.ints
        refine bodyPost_ret (v := .tuple #[.agg #[.bool (decide (Z < 0)), .slice A4 n4 c4], .int .i64 0]) (by simp [results, Tryz.results20, go_sem, r0, r1]) rfl ?_
        exact ⟨A4, n4, c4, rfl, jP.c, K5.below⟩
end Go.Proofs.YtekoeohkkabkdaaGreat

