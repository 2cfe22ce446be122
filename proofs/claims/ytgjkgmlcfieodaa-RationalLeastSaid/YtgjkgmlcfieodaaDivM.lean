/-
  Quotient and remainder of integers.
-/
import Derived.Test.YtgjkgmlcfieodaaCmpC
import Derived.Test.YtgjkgmlcfieodaaDig
import Derived.Deep.RegionHeld3
import Derived.Deep.RegionWith
import Derived.Deep.DeepCutAuto
set_option linter.unusedVariables false
set_option linter.unusedSimpArgs false
namespace Go.Proofs.Ytgjkgmlcfieodaa
open Go.RowKit

theorem Own.drewN {w : World} {g : Nat} {t : TypeId} {v0 v1 : Value} (h : Own w g t v0 v1) (n : Nat) : Own (w.drewN n) g t v0 v1 := h
theorem Own.far2 {w : World} {g g' : Nat} {t : TypeId} {v0 v1 : Value} (h : Own w g t v0 v1) (hg : g ≠ g') (a b : Value) : Own ((w.setCell ⟨g', 0, none⟩ a).setCell ⟨g', 1, none⟩ b) g t v0 v1 := (h.far (p := ⟨g', 0, none⟩) hg a).far (p := ⟨g', 1, none⟩) hg b

/-- Two integers in variables of the call's own, and two more for the results. -/
def Four (w w' : World) (g : Nat) (a0 a1 b0 b1 c0 c1 d0 d1 : Value) : Prop :=
  w.heap.size ≤ g ∧ Own w' g 24 a0 a1 ∧ Own w' (g + 1) 24 b0 b1 ∧ Own w' (g + 1 + 1) 24 c0 c1 ∧ Own w' (g + 1 + 1 + 1) 24 d0 d1 ∧ Below w.heap.size w w'
section
variable {w w' w'' : World} {g : Nat} {a0 a1 b0 b1 c0 c1 d0 d1 u v : Value}
theorem Four.call (h : Four w w' g a0 a1 b0 b1 c0 c1 d0 d1) (hb : Below w'.heap.size w' w'') : Four w w'' g a0 a1 b0 b1 c0 c1 d0 d1 := by
  obtain ⟨h0, h1, h2, h3, h4, h5⟩ := h
  exact ⟨h0, h1.below hb, h2.below hb, h3.below hb, h4.below hb, bcall h5 hb⟩
theorem Four.alike (h : Four w w' g a0 a1 b0 b1 c0 c1 d0 d1) (hb : ∀ B, Below B w' w'') : Four w w'' g a0 a1 b0 b1 c0 c1 d0 d1 := h.call (hb _)
theorem Four.setA (h : Four w w' g a0 a1 b0 b1 c0 c1 d0 d1) (u v : Value) : Four w ((w'.setCell ⟨g, 0, none⟩ u).setCell ⟨g, 1, none⟩ v) g u v b0 b1 c0 c1 d0 d1 := by
  obtain ⟨h0, h1, h2, h3, h4, h5⟩ := h
  exact ⟨h0, h1.set2 u v, h2.far2 (by omega) u v, h3.far2 (by omega) u v, h4.far2 (by omega) u v, (h5.setCell h0 _).setCell h0 _⟩
theorem Four.setB (h : Four w w' g a0 a1 b0 b1 c0 c1 d0 d1) (u v : Value) : Four w ((w'.setCell ⟨g + 1, 0, none⟩ u).setCell ⟨g + 1, 1, none⟩ v) g a0 a1 u v c0 c1 d0 d1 := by
  obtain ⟨h0, h1, h2, h3, h4, h5⟩ := h
  exact ⟨h0, h1.far2 (by omega) u v, h2.set2 u v, h3.far2 (by omega) u v, h4.far2 (by omega) u v, (h5.setCell (p := ⟨g + 1, 0, none⟩) (by show _ ≤ g + 1; omega) _).setCell (p := ⟨g + 1, 1, none⟩) (by show _ ≤ g + 1; omega) _⟩
theorem Four.setC (h : Four w w' g a0 a1 b0 b1 c0 c1 d0 d1) (u v : Value) : Four w ((w'.setCell ⟨g + 1 + 1, 0, none⟩ u).setCell ⟨g + 1 + 1, 1, none⟩ v) g a0 a1 b0 b1 u v d0 d1 := by
  obtain ⟨h0, h1, h2, h3, h4, h5⟩ := h
  exact ⟨h0, h1.far2 (by omega) u v, h2.far2 (by omega) u v, h3.set2 u v, h4.far2 (by omega) u v, (h5.setCell (p := ⟨g + 1 + 1, 0, none⟩) (by show _ ≤ g + 1 + 1; omega) _).setCell (p := ⟨g + 1 + 1, 1, none⟩) (by show _ ≤ g + 1 + 1; omega) _⟩
theorem Four.setD (h : Four w w' g a0 a1 b0 b1 c0 c1 d0 d1) (u v : Value) : Four w ((w'.setCell ⟨g + 1 + 1 + 1, 0, none⟩ u).setCell ⟨g + 1 + 1 + 1, 1, none⟩ v) g a0 a1 b0 b1 c0 c1 u v := by
  obtain ⟨h0, h1, h2, h3, h4, h5⟩ := h
  exact ⟨h0, h1.far2 (by omega) u v, h2.far2 (by omega) u v, h3.far2 (by omega) u v, h4.set2 u v, (h5.setCell (p := ⟨g + 1 + 1 + 1, 0, none⟩) (by show _ ≤ g + 1 + 1 + 1; omega) _).setCell (p := ⟨g + 1 + 1 + 1, 1, none⟩) (by show _ ≤ g + 1 + 1 + 1; omega) _⟩
theorem Four.cellA (h : Four w w' g a0 a1 b0 b1 c0 c1 d0 d1) : w'.cell? ⟨g, 0, none⟩ = some a0 := h.2.1.facts.1
theorem Four.cellB (h : Four w w' g a0 a1 b0 b1 c0 c1 d0 d1) : w'.cell? ⟨g + 1, 0, none⟩ = some b0 := h.2.2.1.facts.1
theorem Four.new (w : World) (a0 a1 b0 b1 c0 c1 d0 d1 : Value) :
    Four w ((((w.alloc (.cells #[a0, a1] 24)).alloc (.cells #[b0, b1] 24)).alloc (.cells #[c0, c1] 24)).alloc (.cells #[d0, d1] 24)) w.heap.size a0 a1 b0 b1 c0 c1 d0 d1 := by
  refine ⟨Nat.le_refl _, (((Own.new _ _ _ _).alloc _).alloc _).alloc _, ?_, ?_, ?_, ?_⟩
  · have := ((Own.new (w.alloc (.cells #[a0, a1] 24)) 24 b0 b1).alloc (.cells #[c0, c1] 24)).alloc (.cells #[d0, d1] 24); simpa using this
  · have := (Own.new ((w.alloc (.cells #[a0, a1] 24)).alloc (.cells #[b0, b1] 24)) 24 c0 c1).alloc (.cells #[d0, d1] 24); simpa using this
  · have := Own.new (((w.alloc (.cells #[a0, a1] 24)).alloc (.cells #[b0, b1] 24)).alloc (.cells #[c0, c1] 24)) 24 d0 d1; simpa using this
  · exact ((bnew2 _ _ _).alloc (by simp; omega) _).alloc (by simp; omega) _
end

/-- Quotient, remainder and error are handed back. -/
def RetM (w : World) (q r err : Int) (e : Ending) (w' : World) : Prop :=
  ∃ A n c A' n' c', e = .returned (.tuple #[.agg #[.bool (decide (q < 0)), .slice A n c], .agg #[.bool (decide (r < 0)), .slice A' n' c'], .int .i64 err]) ∧
    Dgs w' w'.heap.size A n (digs q.natAbs) ∧ n ≤ c ∧ c ≤ maxLen ∧ Dgs w' w'.heap.size A' n' (digs r.natAbs) ∧ n' ≤ c' ∧ c' ≤ maxLen ∧ Below w.heap.size w w'

/-- Behind the first statement: both integers are canonical. -/
def DM1 (w wx : World) (x y : Int) : Prop :=
  ∃ A1 n1 c1 A2 n2 c2, Four w wx w.heap.size (.bool (decide (x < 0))) (.slice A1 n1 c1) (.bool (decide (y < 0))) (.slice A2 n2 c2) (.bool false) (.slice none 0 0) (.bool false) (.slice none 0 0) ∧
    Dgs wx wx.heap.size A1 n1 (digs x.natAbs) ∧ n1 ≤ c1 ∧ c1 ≤ maxLen ∧ Dgs wx wx.heap.size A2 n2 (digs y.natAbs) ∧ n2 ≤ c2 ∧ c2 ≤ maxLen

theorem digs_mono {a b : Nat} (h : a ≤ b) : (digs a).length ≤ (digs b).length := by
  rcases Nat.lt_or_ge (digs b).length (digs a).length with h1 | h1
  · have := digs_len_lt h1; omega
  · exact h1

theorem fromWord_one (w : World) : Calls Try.prog 38 #[.int .u64 1] w (RetD w 1) := fromWord_any 1 (by decide) w
theorem digs_one_le : (digs 1).length ≤ 1000000 := Nat.le_trans (digs_length_le (k := 1) (by rw [BB_eq]; decide)) (by decide)

theorem RetM.end_ {w w5 : World} {a0 a1 b0 b1 : Value} {x1 x2 : Bool} {s1 s2 : Option Addr} {l1 k1 l2 k2 : Nat} {A A' : Option Addr} {n c n' c' : Nat} {q r err : Int}
    (F : Four w w5 w.heap.size a0 a1 b0 b1 (.bool x1) (.slice s1 l1 k1) (.bool x2) (.slice s2 l2 k2))
    (hd : Dgs w5 w5.heap.size A n (digs q.natAbs)) (hc : n ≤ c) (hm : c ≤ maxLen) (hd' : Dgs w5 w5.heap.size A' n' (digs r.natAbs)) (hc' : n' ≤ c') (hm' : c' ≤ maxLen) (u v u' v' : Value) :
    RetM w q r err (.returned (.tuple #[.agg #[.bool (decide (q < 0)), .slice A n c], .agg #[.bool (decide (r < 0)), .slice A' n' c'], .int .i64 err]))
      ((((w5.setCell ⟨w.heap.size + 1 + 1, 0, none⟩ u).setCell ⟨w.heap.size + 1 + 1, 1, none⟩ v).setCell ⟨w.heap.size + 1 + 1 + 1, 0, none⟩ u').setCell ⟨w.heap.size + 1 + 1 + 1, 1, none⟩ v') :=
  ⟨A, n, c, A', n', c', rfl, (hd.storeS F.2.2.2.1 u v).storeS (F.setC u v).2.2.2.2.1 u' v', hc, hm, (hd'.storeS F.2.2.2.1 u v).storeS (F.setC u v).2.2.2.2.1 u' v', hc', hm', ((F.setC u v).setD u' v').2.2.2.2.2⟩

set_option maxHeartbeats 2000000 in
set_option maxRecDepth 100000 in
theorem divMod_any (neg neg' : Bool) (A A' : Option Addr) (n n' c c' : Nat) (da db : List Nat) (w : World) (h : Dgs w w.heap.size A n da) (h' : Dgs w w.heap.size A' n' db) (hc : n ≤ c) (hm : c ≤ maxLen) (hc' : n' ≤ c') (hm' : c' ≤ maxLen) (hs : n ≤ 1000000) (hs' : n' ≤ 1000000) (hL : LongOk (val db)) :
    Calls Try.prog 47 #[.agg #[.bool neg, .slice A n c], .agg #[.bool neg', .slice A' n' c']] w (RetM w (dmQ (zOf neg (val da)) (zOf neg' (val db))) (dmR (zOf neg (val da)) (zOf neg' (val db))) (dmE (zOf neg' (val db)))) := by
  have F0 := Four.new w (.bool neg) (.slice A n c) (.bool neg') (.slice A' n' c') (.bool false) (.slice none 0 0) (.bool false) (.slice none 0 0)
  have HF0 := Lib.hid F0
  clear F0
  go_enter Try.func47, Try.ntmps47
  go_upto_region 1 with fail
  have F0 := HF0.out
  clear HF0
  generalize ((((w.alloc (.cells #[.bool neg, .slice A n c] 24)).alloc (.cells #[.bool neg', .slice A' n' c'] 24)).alloc (.cells #[.bool false, .slice none 0 0] 24)).alloc (.cells #[.bool false, .slice none 0 0] 24)) = W0 at F0 ⊢
  have hA0 := (h.below F0.2.2.2.2.2).more F0.2.2.2.2.2.size
  have hB0 := (h'.below F0.2.2.2.2.2).more F0.2.2.2.2.2.size
  obtain ⟨p0, p1, p2, p3⟩ := F0.2.1.facts
  obtain ⟨q0, q1, q2, q3⟩ := F0.2.2.1.facts
  have F0d := F0.alike (fun B => (Below.refl B W0).drew)
  have hA0d : Dgs W0.drew W0.drew.heap.size A n da := hA0
  have hB0d : Dgs W0.drew W0.drew.heap.size A' n' db := hB0
  clear hA0 hB0
  go_cut [] (fun wx => DM1 w wx (zOf neg (val da)) (zOf neg' (val db)))
  case first =>
    go_region_with (first
      | (go_at_call_of 35 (Value.agg #[Value.bool neg, Value.slice A n c]); refine (canonical_any neg A n c da _ hA0d hc hm).mono ?_; rintro e w1 ⟨A1, n1, c1, rfl, hd1, hn1, hc1, hb1⟩; have F1 := F0d.call hb1; obtain ⟨p0, p1, p2, p3⟩ := F1.2.1.facts; obtain ⟨q0, q1, q2, q3⟩ := F1.2.2.1.facts; have hB1 := (hB0d.below hb1).more hb1.size)
      | (go_at_call_of 35 (Value.agg #[Value.bool neg', Value.slice A' n' c']); refine (canonical_any neg' A' n' c' db _ hB1 hc' hm').mono ?_; rintro e w2 ⟨A2, n2, c2, rfl, hd2, hn2, hc2, hb2⟩; have F2 := F1.call hb2; obtain ⟨p0, p1, p2, p3⟩ := F2.2.1.facts; obtain ⟨q0, q1, q2, q3⟩ := F2.2.2.1.facts))
    all_goals (go_wp2_with fail; go_meet; exact ⟨A1, n1, c1, A2, n2, c2, (F2.setA _ _).setB _ _, (((hd1.below hb2).more hb2.size).storeS F2.2.1 _ _).storeS (F2.setA _ _).2.2.1 _ _, hn1, hc1, (hd2.storeS F2.2.1 _ _).storeS (F2.setA _ _).2.2.1 _ _, hn2, hc2⟩)
  case rest =>
    clear F0 F0d hA0d hB0d p0 p1 p2 p3 q0 q1 q2 q3 W0
    have hyl : (zOf neg' (val db)).natAbs = val db := zOf_natAbs _ _
    have hxl : (zOf neg (val da)).natAbs = val da := zOf_natAbs _ _
    have hXle : val da < BB ^ n := by rw [← h.len]; exact val_lt h.dig
    generalize zOf neg (val da) = x at *
    generalize zOf neg' (val db) = y at *
    obtain ⟨A1, n1, c1, A2, n2, c2, F1, hd1, hn1, hc1, hd2, hn2, hc2⟩ := hcut
    have hs1 : n1 ≤ 1000000 := by
      rw [← hd1.len, hxl]; have := digs_length_le hXle; omega
    have hLY : LongOk y.natAbs := by rw [hyl]; exact hL
    have hsY0 : (digs y.natAbs).length ≤ 1000000 := by
      have hYle : val db < BB ^ n' := by rw [← h'.len]; exact val_lt h'.dig
      rw [hyl]; have := digs_length_le hYle; omega
    clear hL hxl hyl hXle h h'
    obtain ⟨X, HX⟩ : ∃ X, Hid (X = x.natAbs) := ⟨_, rfl⟩
    obtain ⟨Y, HY⟩ : ∃ Y, Hid (Y = y.natAbs) := ⟨_, rfl⟩
    obtain ⟨sx, HSX⟩ : ∃ s, Hid (s = decide (x < 0)) := ⟨_, rfl⟩
    obtain ⟨sy, HSY⟩ : ∃ s, Hid (s = decide (y < 0)) := ⟨_, rfl⟩
    rw [← HX.out] at hd1
    rw [← HY.out] at hd2 hLY hsY0
    rw [← HSX.out, ← HSY.out] at F1
    obtain ⟨p0, p1, p2, p3⟩ := F1.2.1.facts
    obtain ⟨q0, q1, q2, q3⟩ := F1.2.2.1.facts
    obtain ⟨r0, r1, r2, r3⟩ := F1.2.2.2.1.facts
    obtain ⟨t0, t1, t2, t3⟩ := F1.2.2.2.2.1.facts
    by_cases hy : y = 0
    · have HM := Lib.hid (dm_zero x hy)
      have h20 : n2 = 0 := by rw [← hd2.len, HY.out, hy]; simp [digs_zero]
      subst h20
      clear hy
      go_wp2
      refine bodyPost_ret (v := .tuple #[.agg #[.bool false, .slice none 0 0], .agg #[.bool false, .slice none 0 0], .int .i64 11]) (by simp [results, Try.results47, go_sem, r0, r1, r2, r3, t0, t1, t2, t3]) rfl ?_
      rw [HM.out.1, HM.out.2.1, HM.out.2.2]
      exact ⟨none, 0, 0, none, 0, 0, rfl, by simp [digs_zero]; exact Dgs.none_, Nat.le_refl _, Nat.zero_le _, by simp [digs_zero]; exact Dgs.none_, Nat.le_refl _, Nat.zero_le _, ((F1.setC _ _).setD _ _).2.2.2.2.2⟩
    · have HE := Lib.hid (dm_err hy)
      have hY : Y ≠ 0 := by rw [HY.out]; omega
      have hn20 : 0 < n2 := by rw [← hd2.len]; exact digs_pos_len hY
      have hn2z : ((n2 : Int) == 0) = false := by simp; omega
      obtain ⟨Q, HQ⟩ : ∃ Q, Hid (Q = X / Y) := ⟨_, rfl⟩
      obtain ⟨R, HR⟩ : ∃ R, Hid (R = X % Y) := ⟨_, rfl⟩
      have hRY : R < Y := by rw [HR.out]; exact Nat.mod_lt _ (by omega)
      have HYH := Lib.hid hy
      clear hy
      by_cases hss : sx = sy
      · subst hss
        have HM : Hid (dmQ x y = (Q : Int) ∧ dmR x y = zOf sx R) := by
          have := dm_same x y HYH.out (HSX.out.symm.trans HSY.out)
          rw [← HX.out, ← HY.out, ← HQ.out, ← HR.out, ← HSY.out] at this
          exact this
        go_wp2_with (go_at_call 74; (with_reducible refine (divDigits_any A1 A2 n1 n2 c1 c2 X Y _ hd1 hd2 hn1 hc1 hn2 hc2 hs1 hY hLY).mono ?_); rw [← HQ.out, ← HR.out]; rintro e w3 ⟨A3, n3, c3, A4, n4, c4, rfl, hd3, hn3, hc3, hd4, hn4, hc4, hb3⟩; have F3 := F1.call hb3; obtain ⟨p0, p1, p2, p3⟩ := F3.2.1.facts; obtain ⟨q0, q1, q2, q3⟩ := F3.2.2.1.facts)
        have hz2 : ¬ w.heap.size + 1 + 1 = w.heap.size := by omega
        have hz3 : ¬ w.heap.size + 1 + 1 + 1 = w.heap.size := by omega
        have F9 := F3.alike (fun B => (Below.refl B w3).drew)
        have hd3d : Dgs w3.drew w3.drew.heap.size A3 n3 (digs Q) := hd3
        have hd4d : Dgs w3.drew w3.drew.heap.size A4 n4 (digs R) := hd4
        go_region_held3 (fun w' => w'.cell? ⟨w.heap.size, 0, none⟩ = some (.bool sx) ∧ w'.cell? ⟨w.heap.size + 1, 0, none⟩ = some (.bool sx))
          (go_keep)
          (first
            | (go_at_call_of 37 (Value.slice A3 n3 c3); refine (newInt_any _ A3 n3 c3 _ _ hd3d hn3 hc3).mono ?_; rintro e w14 ⟨A15, n15, c15, rfl, hd15, hn15, hc15, hb15⟩; have F14 := F9.call hb15; obtain ⟨p0, p1, p2, p3⟩ := F14.2.1.facts; obtain ⟨q0, q1, q2, q3⟩ := F14.2.2.1.facts; have hd16 := (hd4d.below hb15).more hb15.size)
            | (go_at_call_of 37 (Value.slice A4 n4 c4); refine (newInt_any _ A4 n4 c4 _ _ hd16 hn4 hc4).mono ?_; rintro e w15 ⟨A16, n16, c16, rfl, hd17, hn17, hc17, hb17⟩; have F15 := F14.call hb17; obtain ⟨p0, p1, p2, p3⟩ := F15.2.1.facts; obtain ⟨q0, q1, q2, q3⟩ := F15.2.2.1.facts; obtain ⟨r0, r1, r2, r3⟩ := F15.2.2.2.1.facts; obtain ⟨t0, t1, t2, t3⟩ := F15.2.2.2.2.1.facts))
        go_wp2
        have e1 : dmQ x y = zOf false (val (digs Q)) := by rw [HM.out.1, val_digs]; rfl
        have e2 : dmR x y = zOf sx (val (digs R)) := by rw [HM.out.2, val_digs]
        rw [e1, e2, HE.out]
        refine bodyPost_ret (v := .tuple #[.agg #[.bool (decide (zOf false (val (digs Q)) < 0)), .slice A15 n15 c15], .agg #[.bool (decide (zOf sx (val (digs R)) < 0)), .slice A16 n16 c16], .int .i64 0]) (by simp [results, Try.results47, go_sem, r0, r1, r2, r3, t0, t1, t2, t3]) rfl ?_
        exact RetM.end_ F15 ((hd15.below hb17).more hb17.size) hn15 hc15 hd17 hn17 hc17 _ _ _ _
      · have HSS := Lib.hid hss
        have hne : (sx == sy) = false := by cases sx <;> cases sy <;> simp_all
        have HNE : Hid (decide (x < 0) ≠ decide (y < 0)) := by rw [← HSX.out, ← HSY.out]; exact hss
        clear hss
        by_cases hR : R = 0
        · subst hR
          have HM : Hid (dmQ x y = -(Q : Int) ∧ dmR x y = 0) := by
            have := dm_diff0 x y HYH.out HNE.out (by rw [← HX.out, ← HY.out]; exact HR.out.symm)
            rw [← HX.out, ← HY.out, ← HQ.out] at this
            exact this
          go_wp2_with (go_at_call 74; (with_reducible refine (divDigits_any A1 A2 n1 n2 c1 c2 X Y _ hd1 hd2 hn1 hc1 hn2 hc2 hs1 hY hLY).mono ?_); rw [← HQ.out, ← HR.out]; rintro e w3 ⟨A3, n3, c3, A4, n4, c4, rfl, hd3, hn3, hc3, hd4, hn4, hc4, hb3⟩; have F3 := F1.call hb3; obtain ⟨p0, p1, p2, p3⟩ := F3.2.1.facts; obtain ⟨q0, q1, q2, q3⟩ := F3.2.2.1.facts; obtain rfl : n4 = 0 := by (rw [← hd4.len, digs_zero]; rfl))
          have hz2 : ¬ w.heap.size + 1 + 1 = w.heap.size := by omega
          have hz3 : ¬ w.heap.size + 1 + 1 + 1 = w.heap.size := by omega
          have F9 := F3.alike (fun B => (Below.refl B w3).drew)
          have hd3d : Dgs w3.drew w3.drew.heap.size A3 n3 (digs Q) := hd3
          have hd4d : Dgs w3.drew w3.drew.heap.size A4 0 (digs 0) := hd4
          go_region_held3 (fun w' => w'.cell? ⟨w.heap.size, 0, none⟩ = some (.bool sx) ∧ w'.cell? ⟨w.heap.size + 1, 0, none⟩ = some (.bool sy))
            (go_keep)
            (first
              | (go_at_call_of 37 (Value.slice A3 n3 c3); refine (newInt_any _ A3 n3 c3 _ _ hd3d hn3 hc3).mono ?_; rintro e w14 ⟨A15, n15, c15, rfl, hd15, hn15, hc15, hb15⟩; have F14 := F9.call hb15; obtain ⟨p0, p1, p2, p3⟩ := F14.2.1.facts; obtain ⟨q0, q1, q2, q3⟩ := F14.2.2.1.facts; have hd16 := (hd4d.below hb15).more hb15.size)
              | (go_at_call_of 37 (Value.slice A4 0 c4); refine (newInt_any _ A4 0 c4 _ _ hd16 hn4 hc4).mono ?_; rintro e w15 ⟨A16, n16, c16, rfl, hd17, hn17, hc17, hb17⟩; have F15 := F14.call hb17; obtain ⟨p0, p1, p2, p3⟩ := F15.2.1.facts; obtain ⟨q0, q1, q2, q3⟩ := F15.2.2.1.facts; obtain ⟨r0, r1, r2, r3⟩ := F15.2.2.2.1.facts; obtain ⟨t0, t1, t2, t3⟩ := F15.2.2.2.2.1.facts))
          go_wp2
          have e1 : dmQ x y = zOf true (val (digs Q)) := by rw [HM.out.1, val_digs]; rfl
          have e2 : dmR x y = zOf sy (val (digs 0)) := by rw [HM.out.2, val_digs]; cases sy <;> rfl
          rw [e1, e2, HE.out]
          refine bodyPost_ret (v := .tuple #[.agg #[.bool (decide (zOf true (val (digs Q)) < 0)), .slice A15 n15 c15], .agg #[.bool (decide (zOf sy (val (digs 0)) < 0)), .slice A16 n16 c16], .int .i64 0]) (by simp [results, Try.results47, go_sem, r0, r1, r2, r3, t0, t1, t2, t3]) rfl ?_
          exact RetM.end_ F15 ((hd15.below hb17).more hb17.size) hn15 hc15 hd17 hn17 hc17 _ _ _ _
        · have HM : Hid (dmQ x y = -((Q + 1 : Nat) : Int) ∧ dmR x y = zOf sy (Y - R)) := by
            have := dm_diff1 x y HYH.out HNE.out (by rw [← HX.out, ← HY.out, ← HR.out]; exact hR)
            rw [← HX.out, ← HY.out, ← HQ.out, ← HR.out, ← HSY.out] at this
            exact this
          have HRR := Lib.hid hR
          have hQX : Q ≤ X := by rw [HQ.out]; exact Nat.div_le_self _ _
          have hsQ : (digs Q).length ≤ 1000000 := by have := digs_mono hQX; have := hd1.len; omega
          have hsY : (digs Y).length ≤ 1000000 := hsY0
          have hsR : (digs R).length ≤ 1000000 := by have := digs_mono (Nat.le_of_lt hRY); omega
          clear hR hQX
          go_wp2_with (first
            | (go_at_call 74; (with_reducible refine (divDigits_any A1 A2 n1 n2 c1 c2 X Y _ hd1 hd2 hn1 hc1 hn2 hc2 hs1 hY hLY).mono ?_); rw [← HQ.out, ← HR.out]; rintro e w3 ⟨A3, n3, c3, A4, n4, c4, rfl, hd3, hn3, hc3, hd4, hn4, hc4, hb3⟩; have F3 := F1.call hb3; obtain ⟨p0, p1, p2, p3⟩ := F3.2.1.facts; obtain ⟨q0, q1, q2, q3⟩ := F3.2.2.1.facts; have hn40 : 0 < n4 := Nat.lt_of_lt_of_eq (digs_pos_len HRR.out) hd4.len; have hs3 : n3 ≤ 1000000 := Nat.le_trans (Nat.le_of_eq hd3.len.symm) hsQ; have hs4 : n4 ≤ 1000000 := Nat.le_trans (Nat.le_of_eq hd4.len.symm) hsR; have hs2 : n2 ≤ 1000000 := Nat.le_trans (Nat.le_of_eq hd2.len.symm) hsY)
            | (go_at_call 38; (with_reducible refine (fromWord_one _).mono ?_); rintro e w6 ⟨A6, n6, c6, rfl, hd6, hn6, hc6, hb6⟩; have F6 := F3.call hb6; have hs6 : n6 ≤ 1000000 := Nat.le_trans (Nat.le_of_eq hd6.len.symm) digs_one_le)
            | (go_at_call 72; (with_reducible refine (addDigits_any A3 A6 n3 n6 c3 c6 _ _ _ ((hd3.below hb6).more hb6.size) hd6 hs3 hs6).mono ?_); rintro e w7 ⟨A7, n7, c7, rfl, hd7, hn7, hc7, hb7⟩; have F7 := F6.call hb7; obtain ⟨p0, p1, p2, p3⟩ := F7.2.1.facts; obtain ⟨q0, q1, q2, q3⟩ := F7.2.2.1.facts)
            | (go_at_call 73; (with_reducible refine (subDigits_any A2 A4 n2 n4 c2 c4 _ _ _ ((hd2.below (bcall hb3 (bcall hb6 hb7))).more (bcall hb3 (bcall hb6 hb7)).size) ((hd4.below (bcall hb6 hb7)).more (bcall hb6 hb7).size) hs2 hs4 (by rw [val_digs, val_digs]; omega)).mono ?_); rintro e w8 ⟨A8, n8, c8, rfl, hd8, hn8, hc8, hb8⟩; have F8 := F7.call hb8; obtain ⟨p0, p1, p2, p3⟩ := F8.2.1.facts; obtain ⟨q0, q1, q2, q3⟩ := F8.2.2.1.facts; have hd9 := (hd7.below hb8).more hb8.size))
          rw [val_digs, val_digs] at hd8 hd9
          have hz2 : ¬ w.heap.size + 1 + 1 = w.heap.size := by omega
          have hz3 : ¬ w.heap.size + 1 + 1 + 1 = w.heap.size := by omega
          have F9 := F8.alike (fun B => (Below.refl B w8).drew)
          have hd3d : Dgs w8.drew w8.drew.heap.size A7 n7 (digs (Q + 1)) := hd9
          have hd4d : Dgs w8.drew w8.drew.heap.size A8 n8 (digs (Y - R)) := hd8
          go_region_held3 (fun w' => w'.cell? ⟨w.heap.size, 0, none⟩ = some (.bool sx) ∧ w'.cell? ⟨w.heap.size + 1, 0, none⟩ = some (.bool sy))
            (go_keep)
            (first
              | (go_at_call_of 37 (Value.slice A7 n7 c7); refine (newInt_any _ A7 n7 c7 _ _ hd3d hn7 hc7).mono ?_; rintro e w14 ⟨A15, n15, c15, rfl, hd15, hn15, hc15, hb15⟩; have F14 := F9.call hb15; obtain ⟨p0, p1, p2, p3⟩ := F14.2.1.facts; obtain ⟨q0, q1, q2, q3⟩ := F14.2.2.1.facts; have hd16 := (hd4d.below hb15).more hb15.size)
              | (go_at_call_of 37 (Value.slice A8 n8 c8); refine (newInt_any _ A8 n8 c8 _ _ hd16 hn8 hc8).mono ?_; rintro e w15 ⟨A16, n16, c16, rfl, hd17, hn17, hc17, hb17⟩; have F15 := F14.call hb17; obtain ⟨p0, p1, p2, p3⟩ := F15.2.1.facts; obtain ⟨q0, q1, q2, q3⟩ := F15.2.2.1.facts; obtain ⟨r0, r1, r2, r3⟩ := F15.2.2.2.1.facts; obtain ⟨t0, t1, t2, t3⟩ := F15.2.2.2.2.1.facts))
          go_wp2
          have e1 : dmQ x y = zOf true (val (digs (Q + 1))) := by rw [HM.out.1, val_digs]; rfl
          have e2 : dmR x y = zOf sy (val (digs (Y - R))) := by rw [HM.out.2, val_digs]
          rw [e1, e2, HE.out]
          refine bodyPost_ret (v := .tuple #[.agg #[.bool (decide (zOf true (val (digs (Q + 1))) < 0)), .slice A15 n15 c15], .agg #[.bool (decide (zOf sy (val (digs (Y - R))) < 0)), .slice A16 n16 c16], .int .i64 0]) (by simp [results, Try.results47, go_sem, r0, r1, r2, r3, t0, t1, t2, t3]) rfl ?_
          exact RetM.end_ F15 ((hd15.below hb17).more hb17.size) hn15 hc15 hd17 hn17 hc17 _ _ _ _
end Go.Proofs.Ytgjkgmlcfieodaa

