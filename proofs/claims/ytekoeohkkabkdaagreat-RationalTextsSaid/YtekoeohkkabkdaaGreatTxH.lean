/-
  Texts of integers: the reference's Parse.
-/
import Derived.Test.YtekoeohkkabkdaaGreatTxG
set_option linter.unusedVariables false
set_option linter.unusedSimpArgs false
namespace Go.Proofs.YtekoeohkkabkdaaGreat
open Go.RowKit

set_option maxHeartbeats 8000000 in
set_option maxRecDepth 100000 in
theorem rparse_at (l : List UInt8) (hl : l.length ≤ 100000) (w : World) : Calls Tryz.prog 23 #[.string ⟨l.toArray⟩] w (RetO w (parZ l) (parE l)) := by
  have hlen := cutV_len l
  obtain ⟨L, HL⟩ : ∃ v, Hid (l.length = v) := ⟨_, rfl⟩
  have hsz := str_size l
  obtain ⟨Z, HZ⟩ : ∃ v, Hid (parZ l = v) := ⟨_, rfl⟩
  obtain ⟨E, HE⟩ : ∃ v, Hid (parE l = v) := ⟨_, rfl⟩
  rw [HZ.out, HE.out]
  have hze : Hid (Z = if E = 0 then zOf (cutV l).2 (decV (cutV l).1) else 0) := by unfold Hid; rw [← HZ.out, ← HE.out]; rfl
  have hee : Hid (E = if 400 < L then 10 else if decB (cutV l).1 = true ∧ ¬((cutV l).2 = true ∧ (cutV l).1 = [48]) then 0 else 1) := by unfold Hid; rw [← HE.out, ← HL.out]; rfl
  rw [HL.out] at hl hsz hlen
  obtain ⟨R, HR⟩ : ∃ v, Hid ((cutV l).1 = v) := ⟨_, rfl⟩
  obtain ⟨S, HS⟩ : ∃ v, Hid ((cutV l).2 = v) := ⟨_, rfl⟩
  rw [HR.out, HS.out] at hze hee
  rw [HR.out] at hlen
  have H0 := (St.start w).new 24 (Plains.two false none 0 0)
  have HH := Lib.hid H0
  clear H0
  by_cases hbig : 400 < L
  · have e1 : E = 10 := by rw [hee.out, if_pos hbig]
    have e2 : Z = 0 := by rw [hze.out, e1]; rfl
    subst e1 e2
    have j1 : (400 : Int) < (L : Int) := by omega
    go_enter Tryz.func23, Tryz.ntmps23
    go_wp2_with fail
    refine bodyPost_ret (v := .tuple #[.agg #[.bool false, .slice none 0 0], .int .i64 10]) (by simp [results, Tryz.results23, go_sem]) rfl ?_
    exact ⟨none, 0, 0, rfl, CanAt.zero_ _, bnew _ _⟩
  · have j1 : ¬ (400 : Int) < (L : Int) := by omega
    have hdec := fun w' => decimal_any R (by omega) w'
    obtain ⟨D, HD⟩ : ∃ v, Hid (decB R = v) := ⟨_, rfl⟩
    rw [HD.out] at hee
    simp only [HD.out] at hdec
    rw [show (if 400 < L then (10 : Int) else if D = true ∧ ¬(S = true ∧ R = [48]) then 0 else 1) = (if D = true ∧ ¬(S = true ∧ R = [48]) then 0 else 1) from if_neg hbig] at hee
    have hhead : (L = 0 ∧ S = false ∧ R = []) ∨ (∃ n : Nat, 0 < L ∧ n ≠ 45 ∧ (byteAt l 0).toNat = n ∧ S = false ∧ R = l) ∨ (0 < L ∧ (byteAt l 0).toNat = 45 ∧ S = true ∧ R = l.tail) := by
      rcases Nat.eq_zero_or_pos L with h0 | h0
      · refine .inl ⟨h0, ?_, ?_⟩
        · rw [← HS.out]; unfold cutV; rw [if_neg (by rw [HL.out]; omega)]
        · rw [← HR.out]; unfold cutV; rw [if_neg (by rw [HL.out]; omega)]; exact List.eq_nil_of_length_eq_zero (by rw [HL.out]; exact h0)
      · by_cases hb : (byteAt l 0).toNat = 45
        · refine .inr (.inr ⟨h0, hb, ?_, ?_⟩)
          · rw [← HS.out]; unfold cutV; rw [if_pos ⟨by rw [HL.out]; exact h0, hb⟩]
          · rw [← HR.out]; unfold cutV; rw [if_pos ⟨by rw [HL.out]; exact h0, hb⟩]; exact List.drop_one
        · refine .inr (.inl ⟨_, h0, hb, rfl, ?_, ?_⟩)
          · rw [← HS.out]; unfold cutV; rw [if_neg (fun h => hb h.2)]
          · rw [← HR.out]; unfold cutV; rw [if_neg (fun h => hb h.2)]
    have hfin : E = 1 ∧ Z = 0 ∧ (D = false ∨ (D = true ∧ S = true ∧ (R == [48]) = true)) ∨ E = 0 ∧ Hid (Z = zOf S (decV R)) ∧ D = true ∧ (S = false ∨ (S = true ∧ (R == [48]) = false)) := by
      by_cases hbad : D = true ∧ ¬(S = true ∧ R = [48])
      · have e1 : E = 0 := by rw [hee.out, if_pos hbad]
        refine .inr ⟨e1, by unfold Hid; rw [hze.out, e1]; rfl, hbad.1, ?_⟩
        cases S
        · exact .inl rfl
        · refine .inr ⟨rfl, ?_⟩
          rw [beq_eq_false_iff_ne]
          exact fun h => hbad.2 ⟨rfl, h⟩
      · have e1 : E = 1 := by rw [hee.out, if_neg hbad]
        refine .inl ⟨e1, by rw [hze.out, e1]; rfl, ?_⟩
        cases D
        · exact .inl rfl
        · refine .inr ⟨rfl, ?_⟩
          by_cases hs : S = true ∧ R = [48]
          · exact ⟨hs.1, by rw [hs.2]; rfl⟩
          · exact absurd ⟨rfl, hs⟩ hbad
    have hfrom := fun (h : D = true) w' => rread_any R (by omega) (allD_of (HD.out.trans h)) w'
    obtain ⟨V, HV⟩ : ∃ v, Hid (decV R = v) := ⟨_, rfl⟩
    simp only [HV.out] at hfrom
    rw [HV.out] at hfin
    have hsd : (⟨#[]⟩ : ByteArray).size = 0 := rfl
    clear hze hee HZ HE HR HS
    rcases hhead with ⟨hL0, hs, hr⟩ | ⟨n, hLp, hn, HN, hs, hr⟩ | ⟨hLp, HN, hs, hr⟩
    · subst hs hr hL0
      have hDf : D = false := by rw [← HD.out]; rfl
      subst hDf
      have hl0 : l = [] := List.eq_nil_of_length_eq_zero HL.out
      subst hl0
      rcases hfin with ⟨rfl, rfl, _⟩ | ⟨_, _, hx, _⟩
      · clear hfrom HV HD HL hsz hlen hl
        go_enter Tryz.func23, Tryz.ntmps23
        go_wp2_with (first
          | (go_at_call 24; (with_reducible refine (hdec _).mono ?_); rintro e w2 ⟨rfl, g2⟩; have K2 := HH.out.call g2; clear hdec; obtain ⟨⟨p0, p1⟩, _⟩ := K2.facts; obtain ⟨f0, f1⟩ := K2.free (i := 0) rfl)
          | fail)
        have K3 := K2.put 0 rfl false none 0 0
        generalize ((w2.setCell ⟨w.heap.size, 0, none⟩ (.bool false)).setCell ⟨w.heap.size, 1, none⟩ (.slice none 0 0)) = W2 at K3 ⊢
        obtain ⟨⟨r0, r1⟩, _⟩ := K3.facts
        refine bodyPost_ret (v := .tuple #[.agg #[.bool false, .slice none 0 0], .int .i64 1]) (by simp [results, Tryz.results23, go_sem, r0, r1]) rfl ?_
        exact ⟨none, 0, 0, rfl, CanAt.zero_ _, K3.below⟩
      · cases hx
    · subst hs
      have hrl : l = R := hr.symm
      subst hrl
      have hgt := str_get (l := l) (k := 0) (by rw [HL.out]; omega)
      have hg2 : ∀ h, ((⟨l.toArray⟩ : ByteArray)[0]'h).toNat = n := fun h => by rw [hgt h]; exact HN
      have q0 : (0 : Int) < (L : Int) := by omega
      clear hgt
      have q1 : ((n : Int) == 45) = false := by simp; omega
      have q2 : ¬ (n : Int) = 45 := by omega
      rcases hfin with ⟨rfl, rfl, hx⟩ | ⟨rfl, HZ2, hx, _⟩
      · have hDf : D = false := by
          rcases hx with h | ⟨_, h, _⟩
          · exact h
          · cases h
        subst hDf
        clear hfrom HV HD HL HN hx
        go_enter Tryz.func23, Tryz.ntmps23
        go_wp2_with (first
          | (go_at_call 24; (with_reducible refine (hdec _).mono ?_); rintro e w2 ⟨rfl, g2⟩; have K2 := HH.out.call g2; clear hdec; obtain ⟨⟨p0, p1⟩, _⟩ := K2.facts; obtain ⟨f0, f1⟩ := K2.free (i := 0) rfl)
          | fail)
        have K3 := K2.put 0 rfl false none 0 0
        generalize ((w2.setCell ⟨w.heap.size, 0, none⟩ (.bool false)).setCell ⟨w.heap.size, 1, none⟩ (.slice none 0 0)) = W2 at K3 ⊢
        obtain ⟨⟨r0, r1⟩, _⟩ := K3.facts
        refine bodyPost_ret (v := .tuple #[.agg #[.bool false, .slice none 0 0], .int .i64 1]) (by simp [results, Tryz.results23, go_sem, r0, r1]) rfl ?_
        exact ⟨none, 0, 0, rfl, CanAt.zero_ _, K3.below⟩
      · subst hx
        clear HD HL HN
        go_enter Tryz.func23, Tryz.ntmps23
        go_wp2_with (first
          | (go_at_call 24; (with_reducible refine (hdec _).mono ?_); rintro e w2 ⟨rfl, g2⟩; have K2 := HH.out.call g2; clear hdec; obtain ⟨⟨p0, p1⟩, _⟩ := K2.facts; obtain ⟨f0, f1⟩ := K2.free (i := 0) rfl)
          | (go_at_call 27; (with_reducible refine (hfrom (by first | rfl | trivial) _).mono ?_); rintro e w3 ⟨A3, m3, c3, ds3, rfl, hd3, u3, v3, t3, k5, k8⟩; have K3 := K2.call k8; clear hfrom p0 p1 f0 f1)
          | (go_at_call 26; (with_reducible refine (make_any false _ m3 c3 ds3 w3 hd3 u3 v3 (by omega)).mono ?_); rw [k5, ← HZ2.out]; rintro e w4 ⟨A4, n4, c4, rfl, d4, u4, v4, g4⟩; have K4 := (K3.call g4).add (CanAt.mk_ d4 u4 v4); obtain ⟨⟨p0, p1⟩, _⟩ := K4.facts; obtain ⟨f0, f1⟩ := K4.free (i := 0) rfl)
          | fail)
        have K5 := K4.put 0 rfl (decide (Z < 0)) A4 n4 c4
        generalize ((w4.setCell ⟨w.heap.size, 0, none⟩ (.bool (decide (Z < 0)))).setCell ⟨w.heap.size, 1, none⟩ (.slice A4 n4 c4)) = W2 at K5 ⊢
        obtain ⟨⟨r0, r1⟩, _⟩ := K5.facts
        obtain ⟨jP, _⟩ := K5.ints
        refine bodyPost_ret (v := .tuple #[.agg #[.bool (decide (Z < 0)), .slice A4 n4 c4], .int .i64 0]) (by simp [results, Tryz.results23, go_sem, r0, r1]) rfl ?_
        exact ⟨A4, n4, c4, rfl, jP.c, K5.below⟩
    · subst hs hr
      have hgt := str_get (l := l) (k := 0) (by rw [HL.out]; omega)
      have hg2 : ∀ h, ((⟨l.toArray⟩ : ByteArray)[0]'h).toNat = 45 := fun h => by rw [hgt h]; exact HN
      have q0 : (0 : Int) < (L : Int) := by omega
      clear hgt
      have hx0 : (⟨l.toArray⟩ : ByteArray).extract 1 L = ⟨l.tail.toArray⟩ := by
        rw [extract_data, List.take_of_length_le (by rw [HL.out]; exact Nat.le_refl _), List.drop_one]
      have q1 : (1 : Int) ≤ (L : Int) := by omega
      rcases hfin with ⟨rfl, rfl, hx⟩ | ⟨rfl, HZ2, hx, hy⟩
      · clear hfrom HV HL HN
        rcases hx with hx | ⟨hx, _, hx2⟩
        · subst hx
          clear HD
          go_enter Tryz.func23, Tryz.ntmps23
          go_wp2_with (first
            | (go_at_call 24; (with_reducible refine (hdec _).mono ?_); rintro e w2 ⟨rfl, g2⟩; have K2 := HH.out.call g2; clear hdec; obtain ⟨⟨p0, p1⟩, _⟩ := K2.facts; obtain ⟨f0, f1⟩ := K2.free (i := 0) rfl)
            | fail)
          have K3 := K2.put 0 rfl false none 0 0
          generalize ((w2.setCell ⟨w.heap.size, 0, none⟩ (.bool false)).setCell ⟨w.heap.size, 1, none⟩ (.slice none 0 0)) = W2 at K3 ⊢
          obtain ⟨⟨r0, r1⟩, _⟩ := K3.facts
          refine bodyPost_ret (v := .tuple #[.agg #[.bool false, .slice none 0 0], .int .i64 1]) (by simp [results, Tryz.results23, go_sem, r0, r1]) rfl ?_
          exact ⟨none, 0, 0, rfl, CanAt.zero_ _, K3.below⟩
        · subst hx
          clear HD
          go_enter Tryz.func23, Tryz.ntmps23
          go_wp2_with (first
            | (go_at_call 24; (with_reducible refine (hdec _).mono ?_); rintro e w2 ⟨rfl, g2⟩; have K2 := HH.out.call g2; clear hdec; obtain ⟨⟨p0, p1⟩, _⟩ := K2.facts; obtain ⟨f0, f1⟩ := K2.free (i := 0) rfl)
            | fail)
          have K3 := K2.put 0 rfl false none 0 0
          generalize ((w2.setCell ⟨w.heap.size, 0, none⟩ (.bool false)).setCell ⟨w.heap.size, 1, none⟩ (.slice none 0 0)) = W2 at K3 ⊢
          obtain ⟨⟨r0, r1⟩, _⟩ := K3.facts
          refine bodyPost_ret (v := .tuple #[.agg #[.bool false, .slice none 0 0], .int .i64 1]) (by simp [results, Tryz.results23, go_sem, r0, r1]) rfl ?_
          exact ⟨none, 0, 0, rfl, CanAt.zero_ _, K3.below⟩
      · subst hx
        have hne : (l.tail == [48]) = false := by
          rcases hy with h | ⟨_, h⟩
          · cases h
          · exact h
        clear HD HL HN hy
        go_enter Tryz.func23, Tryz.ntmps23
        go_wp2_with (first
          | (go_at_call 24; (with_reducible refine (hdec _).mono ?_); rintro e w2 ⟨rfl, g2⟩; have K2 := HH.out.call g2; clear hdec; obtain ⟨⟨p0, p1⟩, _⟩ := K2.facts; obtain ⟨f0, f1⟩ := K2.free (i := 0) rfl)
          | (go_at_call 27; (with_reducible refine (hfrom (by first | rfl | trivial) _).mono ?_); rintro e w3 ⟨A3, m3, c3, ds3, rfl, hd3, u3, v3, t3, k5, k8⟩; have K3 := K2.call k8; clear hfrom p0 p1 f0 f1)
          | (go_at_call 26; (with_reducible refine (make_any true _ m3 c3 ds3 w3 hd3 u3 v3 (by omega)).mono ?_); rw [k5, ← HZ2.out]; rintro e w4 ⟨A4, n4, c4, rfl, d4, u4, v4, g4⟩; have K4 := (K3.call g4).add (CanAt.mk_ d4 u4 v4); obtain ⟨⟨p0, p1⟩, _⟩ := K4.facts; obtain ⟨f0, f1⟩ := K4.free (i := 0) rfl)
          | fail)
        have K5 := K4.put 0 rfl (decide (Z < 0)) A4 n4 c4
        generalize ((w4.setCell ⟨w.heap.size, 0, none⟩ (.bool (decide (Z < 0)))).setCell ⟨w.heap.size, 1, none⟩ (.slice A4 n4 c4)) = W2 at K5 ⊢
        obtain ⟨⟨r0, r1⟩, _⟩ := K5.facts
        obtain ⟨jP, _⟩ := K5.ints
        refine bodyPost_ret (v := .tuple #[.agg #[.bool (decide (Z < 0)), .slice A4 n4 c4], .int .i64 0]) (by simp [results, Tryz.results23, go_sem, r0, r1]) rfl ?_
        exact ⟨A4, n4, c4, rfl, jP.c, K5.below⟩
end Go.Proofs.YtekoeohkkabkdaaGreat

