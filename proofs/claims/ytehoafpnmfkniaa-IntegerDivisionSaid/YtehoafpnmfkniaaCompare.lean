/-
  The order of integers, by the program and by the reference.
-/
import Derived.Test.YtehoafpnmfkniaaZetc
import Derived.Test.YtehoafpnmfkniaaRcmp
set_option linter.unusedVariables false
set_option linter.unusedSimpArgs false
namespace Go.Proofs.Ytehoafpnmfkniaa
open Go.RowKit

/-- Two integers in variables of the call's own. -/
def Two (w w' : World) (g : Nat) (a0 a1 b0 b1 : Value) : Prop :=
  w.heap.size ≤ g ∧ Own w' g 24 a0 a1 ∧ Own w' (g + 1) 24 b0 b1 ∧ Below w.heap.size w w'
section
variable {w w' w'' : World} {g : Nat} {a0 a1 b0 b1 : Value}
theorem Two.call (h : Two w w' g a0 a1 b0 b1) (hb : Below w'.heap.size w' w'') : Two w w'' g a0 a1 b0 b1 := by
  obtain ⟨h0, h1, h2, h5⟩ := h
  exact ⟨h0, h1.below hb, h2.below hb, bcall h5 hb⟩
theorem Two.alike (h : Two w w' g a0 a1 b0 b1) (hb : ∀ B, Below B w' w'') : Two w w'' g a0 a1 b0 b1 := h.call (hb _)
theorem Two.setA (h : Two w w' g a0 a1 b0 b1) (u v : Value) : Two w ((w'.setCell ⟨g, 0, none⟩ u).setCell ⟨g, 1, none⟩ v) g u v b0 b1 := by
  obtain ⟨h0, h1, h2, h5⟩ := h
  exact ⟨h0, h1.set2 u v, h2.far2 (by omega) u v, (h5.setCell h0 _).setCell h0 _⟩
theorem Two.setB (h : Two w w' g a0 a1 b0 b1) (u v : Value) : Two w ((w'.setCell ⟨g + 1, 0, none⟩ u).setCell ⟨g + 1, 1, none⟩ v) g a0 a1 u v := by
  obtain ⟨h0, h1, h2, h5⟩ := h
  exact ⟨h0, h1.far2 (by omega) u v, h2.set2 u v, (h5.setCell (p := ⟨g + 1, 0, none⟩) (by show _ ≤ g + 1; omega) _).setCell (p := ⟨g + 1, 1, none⟩) (by show _ ≤ g + 1; omega) _⟩
theorem Two.new (w : World) (a0 a1 b0 b1 : Value) :
    Two w ((w.alloc (.cells #[a0, a1] 24)).alloc (.cells #[b0, b1] 24)) w.heap.size a0 a1 b0 b1 := by
  refine ⟨Nat.le_refl _, (Own.new _ _ _ _).alloc _, ?_, bnew2 _ _ _⟩
  have := Own.new (w.alloc (.cells #[a0, a1] 24)) 24 b0 b1
  simpa using this
end

/-- Both integers are canonical. -/
def Can2 (w wx : World) (x y : Int) : Prop :=
  ∃ A1 n1 c1 A2 n2 c2, Two w wx w.heap.size (.bool (decide (x < 0))) (.slice A1 n1 c1) (.bool (decide (y < 0))) (.slice A2 n2 c2) ∧
    Dgs wx wx.heap.size A1 n1 (digs x.natAbs) ∧ n1 ≤ c1 ∧ c1 ≤ maxLen ∧ Dgs wx wx.heap.size A2 n2 (digs y.natAbs) ∧ n2 ≤ c2 ∧ c2 ≤ maxLen

theorem cmp_neg_neg {x y : Int} (hx : x < 0) (hy : y < 0) : cmpI x y = cmpI y.natAbs x.natAbs := cmpI_congr (fun h => by omega) (fun h => by omega) (fun h => by omega)
theorem cmp_pos_pos {x y : Int} (hx : ¬ x < 0) (hy : ¬ y < 0) : cmpI x y = cmpI x.natAbs y.natAbs := cmpI_congr (fun h => by omega) (fun h => by omega) (fun h => by omega)
theorem RetC.toN {w w' : World} {v v' : Int} {e : Ending} {w0 : World} (h : e = .returned (.int .i64 v)) (hv : v' = v) (hb : Below w0.heap.size w0 w') : RetN w0 v' e w' := ⟨by rw [h, hv], hb⟩

set_option maxHeartbeats 2000000 in
set_option maxRecDepth 100000 in
theorem compare_any (neg neg' : Bool) (A A' : Option Addr) (n n' c c' : Nat) (da db : List Nat) (w : World) (h : Dgs w w.heap.size A n da) (h' : Dgs w w.heap.size A' n' db) (hc : n ≤ c) (hm : c ≤ maxLen) (hc' : n' ≤ c') (hm' : c' ≤ maxLen) :
    Calls Try.prog 24 #[.agg #[.bool neg, .slice A n c], .agg #[.bool neg', .slice A' n' c']] w (RetN w (cmpI (zOf neg (val da)) (zOf neg' (val db)))) := by
  have HF0 := Lib.hid (Two.new w (.bool neg) (.slice A n c) (.bool neg') (.slice A' n' c'))
  go_enter Try.func24, Try.ntmps24
  go_upto_region 1 with fail
  have F0 := HF0.out
  clear HF0
  generalize ((w.alloc (.cells #[.bool neg, .slice A n c] 24)).alloc (.cells #[.bool neg', .slice A' n' c'] 24)) = W0 at F0 ⊢
  have hA0 := (h.below F0.2.2.2).more F0.2.2.2.size
  have hB0 := (h'.below F0.2.2.2).more F0.2.2.2.size
  obtain ⟨p0, p1, p2, p3⟩ := F0.2.1.facts
  obtain ⟨q0, q1, q2, q3⟩ := F0.2.2.1.facts
  have F0d := F0.alike (fun B => (Below.refl B W0).drew)
  have hA0d : Dgs W0.drew W0.drew.heap.size A n da := hA0
  have hB0d : Dgs W0.drew W0.drew.heap.size A' n' db := hB0
  clear hA0 hB0
  go_cut [] (fun wx => Can2 w wx (zOf neg (val da)) (zOf neg' (val db)))
  case first =>
    go_region_with (first
      | (go_at_call_of 77 (Value.agg #[Value.bool neg, Value.slice A n c]); refine (canonical_any neg A n c da _ hA0d hc hm).mono ?_; rintro e w1 ⟨A1, n1, c1, rfl, hd1, hn1, hc1, hb1⟩; have F1 := F0d.call hb1; obtain ⟨p0, p1, p2, p3⟩ := F1.2.1.facts; obtain ⟨q0, q1, q2, q3⟩ := F1.2.2.1.facts; have hB1 := (hB0d.below hb1).more hb1.size)
      | (go_at_call_of 77 (Value.agg #[Value.bool neg', Value.slice A' n' c']); refine (canonical_any neg' A' n' c' db _ hB1 hc' hm').mono ?_; rintro e w2 ⟨A2, n2, c2, rfl, hd2, hn2, hc2, hb2⟩; have F2 := F1.call hb2; obtain ⟨p0, p1, p2, p3⟩ := F2.2.1.facts; obtain ⟨q0, q1, q2, q3⟩ := F2.2.2.1.facts))
    all_goals (go_wp2_with fail; go_meet; exact ⟨A1, n1, c1, A2, n2, c2, (F2.setA _ _).setB _ _, (Dgs.storeS ((hd1.below hb2).more hb2.size) F2.2.1 _ _).storeS (F2.setA _ _).2.2.1 _ _, hn1, hc1, (Dgs.storeS hd2 F2.2.1 _ _).storeS (F2.setA _ _).2.2.1 _ _, hn2, hc2⟩)
  case rest =>
    clear F0 F0d hA0d hB0d p0 p1 p2 p3 q0 q1 q2 q3 W0
    generalize zOf neg (val da) = x at *
    generalize zOf neg' (val db) = y at *
    clear h h'
    obtain ⟨A1, n1, c1, A2, n2, c2, F1, hd1, hn1, hc1, hd2, hn2, hc2⟩ := hcut
    obtain ⟨p0, p1, p2, p3⟩ := F1.2.1.facts
    obtain ⟨q0, q1, q2, q3⟩ := F1.2.2.1.facts
    by_cases hx : x < 0
    · have ex : decide (x < 0) = true := decide_eq_true hx
      rw [ex] at p0
      by_cases hy : y < 0
      · have ey : decide (y < 0) = true := decide_eq_true hy
        rw [ey] at q0
        have HV := Lib.hid (cmp_neg_neg hx hy)
        clear hx hy ex ey
        go_wp2_with (go_at_call 88; (with_reducible refine (compareDigits_any A2 A1 n2 n1 c2 c1 _ _ y.natAbs x.natAbs _ hd2 hd1 (by omega) (by omega)).mono ?_); rintro e w3 ⟨rfl, hw3⟩)
        go_ret
        exact ⟨by rw [HV.out]; rfl, F1.2.2.2.trans ((hw3.below _))⟩
      · have ey : decide (y < 0) = false := decide_eq_false hy
        rw [ey] at q0
        have HV := Lib.hid (cmpI_lt (show x < y by omega))
        clear hx hy ex ey
        go_wp2
        go_ret
        exact ⟨by rw [HV.out]; rfl, F1.2.2.2⟩
    · have ex : decide (x < 0) = false := decide_eq_false hx
      rw [ex] at p0
      by_cases hy : y < 0
      · have ey : decide (y < 0) = true := decide_eq_true hy
        rw [ey] at q0
        have HV := Lib.hid (cmpI_gt (show y < x by omega))
        clear hx hy ex ey
        go_wp2
        go_ret
        exact ⟨by rw [HV.out]; rfl, F1.2.2.2⟩
      · have ey : decide (y < 0) = false := decide_eq_false hy
        rw [ey] at q0
        have HV := Lib.hid (cmp_pos_pos hx hy)
        clear hx hy ex ey
        go_wp2_with (go_at_call 88; (with_reducible refine (compareDigits_any A1 A2 n1 n2 c1 c2 _ _ x.natAbs y.natAbs _ hd1 hd2 (by omega) (by omega)).mono ?_); rintro e w3 ⟨rfl, hw3⟩)
        go_ret
        exact ⟨by rw [HV.out]; rfl, F1.2.2.2.trans ((hw3.below _))⟩

set_option maxHeartbeats 2000000 in
set_option maxRecDepth 100000 in
theorem rcompare_any (neg neg' : Bool) (A A' : Option Addr) (n n' c c' : Nat) (da db : List Nat) (w : World) (h : Dgs w w.heap.size A n da) (h' : Dgs w w.heap.size A' n' db) (hc : n ≤ c) (hm : c ≤ maxLen) (hc' : n' ≤ c') (hm' : c' ≤ maxLen) (hs : n ≤ 1000000) (hs' : n' ≤ 1000000) :
    Calls Try.prog 106 #[.agg #[.bool neg, .slice A n c], .agg #[.bool neg', .slice A' n' c']] w (RetN w (cmpI (zOf neg (val da)) (zOf neg' (val db)))) := by
  have HF0 := Lib.hid (Two.new w (.bool neg) (.slice A n c) (.bool neg') (.slice A' n' c'))
  go_enter Try.func106, Try.ntmps106
  go_upto_region 1 with fail
  have F0 := HF0.out
  clear HF0
  generalize ((w.alloc (.cells #[.bool neg, .slice A n c] 24)).alloc (.cells #[.bool neg', .slice A' n' c'] 24)) = W0 at F0 ⊢
  have hA0 := (h.below F0.2.2.2).more F0.2.2.2.size
  have hB0 := (h'.below F0.2.2.2).more F0.2.2.2.size
  obtain ⟨p0, p1, p2, p3⟩ := F0.2.1.facts
  obtain ⟨q0, q1, q2, q3⟩ := F0.2.2.1.facts
  have F0d := F0.alike (fun B => (Below.refl B W0).drew)
  have hA0d : Dgs W0.drew W0.drew.heap.size A n da := hA0
  have hB0d : Dgs W0.drew W0.drew.heap.size A' n' db := hB0
  clear hA0 hB0
  go_cut [] (fun wx => Can2 w wx (zOf neg (val da)) (zOf neg' (val db)))
  case first =>
    go_region_with (first
      | (go_at_call_of 39 (Value.agg #[Value.bool neg, Value.slice A n c]); refine (canon_any neg A n c da _ hA0d hc hm hs).mono ?_; rintro e w1 ⟨A1, n1, c1, rfl, hd1, hn1, hc1, hb1⟩; have F1 := F0d.call hb1; obtain ⟨p0, p1, p2, p3⟩ := F1.2.1.facts; obtain ⟨q0, q1, q2, q3⟩ := F1.2.2.1.facts; have hB1 := (hB0d.below hb1).more hb1.size)
      | (go_at_call_of 39 (Value.agg #[Value.bool neg', Value.slice A' n' c']); refine (canon_any neg' A' n' c' db _ hB1 hc' hm' hs').mono ?_; rintro e w2 ⟨A2, n2, c2, rfl, hd2, hn2, hc2, hb2⟩; have F2 := F1.call hb2; obtain ⟨p0, p1, p2, p3⟩ := F2.2.1.facts; obtain ⟨q0, q1, q2, q3⟩ := F2.2.2.1.facts))
    all_goals (go_wp2_with fail; go_meet; exact ⟨A1, n1, c1, A2, n2, c2, (F2.setA _ _).setB _ _, (Dgs.storeS ((hd1.below hb2).more hb2.size) F2.2.1 _ _).storeS (F2.setA _ _).2.2.1 _ _, hn1, hc1, (Dgs.storeS hd2 F2.2.1 _ _).storeS (F2.setA _ _).2.2.1 _ _, hn2, hc2⟩)
  case rest =>
    clear F0 F0d hA0d hB0d p0 p1 p2 p3 q0 q1 q2 q3 W0
    generalize zOf neg (val da) = x at *
    generalize zOf neg' (val db) = y at *
    clear h h'
    obtain ⟨A1, n1, c1, A2, n2, c2, F1, hd1, hn1, hc1, hd2, hn2, hc2⟩ := hcut
    obtain ⟨p0, p1, p2, p3⟩ := F1.2.1.facts
    obtain ⟨q0, q1, q2, q3⟩ := F1.2.2.1.facts
    by_cases hx : x < 0
    · have ex : decide (x < 0) = true := decide_eq_true hx
      rw [ex] at p0
      by_cases hy : y < 0
      · have ey : decide (y < 0) = true := decide_eq_true hy
        rw [ey] at q0
        have HV := Lib.hid (cmp_neg_neg hx hy)
        clear hx hy ex ey
        go_wp2_with (go_at_call 132; (with_reducible refine (rcompareDigits_any A2 A1 n2 n1 c2 c1 _ _ (digs y.natAbs) (digs x.natAbs) _ hd2 hd1 hn2 hc2 hn1 hc1).mono ?_); rw [val_digs, val_digs]; rintro e w3 ⟨rfl, hw3⟩)
        go_ret
        exact ⟨by rw [HV.out]; rfl, F1.2.2.2.trans ((hw3.below _))⟩
      · have ey : decide (y < 0) = false := decide_eq_false hy
        rw [ey] at q0
        have HV := Lib.hid (cmpI_lt (show x < y by omega))
        clear hx hy ex ey
        go_wp2
        go_ret
        exact ⟨by rw [HV.out]; rfl, F1.2.2.2⟩
    · have ex : decide (x < 0) = false := decide_eq_false hx
      rw [ex] at p0
      by_cases hy : y < 0
      · have ey : decide (y < 0) = true := decide_eq_true hy
        rw [ey] at q0
        have HV := Lib.hid (cmpI_gt (show y < x by omega))
        clear hx hy ex ey
        go_wp2
        go_ret
        exact ⟨by rw [HV.out]; rfl, F1.2.2.2⟩
      · have ey : decide (y < 0) = false := decide_eq_false hy
        rw [ey] at q0
        have HV := Lib.hid (cmp_pos_pos hx hy)
        clear hx hy ex ey
        go_wp2_with (go_at_call 132; (with_reducible refine (rcompareDigits_any A1 A2 n1 n2 c1 c2 _ _ (digs x.natAbs) (digs y.natAbs) _ hd1 hd2 hn1 hc1 hn2 hc2).mono ?_); rw [val_digs, val_digs]; rintro e w3 ⟨rfl, hw3⟩)
        go_ret
        exact ⟨by rw [HV.out]; rfl, F1.2.2.2.trans ((hw3.below _))⟩

set_option maxHeartbeats 1000000 in
set_option maxRecDepth 100000 in
theorem rsign_any (neg : Bool) (A : Option Addr) (n c : Nat) (ds : List Nat) (w : World) (h : Dgs w w.heap.size A n ds) (hc : n ≤ c) (hm : c ≤ maxLen) (hs : n ≤ 1000000) :
    Calls Try.prog 95 #[.agg #[.bool neg, .slice A n c]] w (RetN w (sgn (zOf neg (val ds)))) := by
  have HS : Hid (sgn (zOf neg (val ds)) = cmpI (zOf neg (val ds)) (zOf false (val []))) := by unfold Hid; simp [sgn, zOf, val]
  go_enter Try.func95, Try.ntmps95
  go_wp2_with (go_at_call 106; (with_reducible refine (rcompare_any neg false A none n 0 c 0 ds [] _ ((h.alloc (Nat.le_refl _) _).more (by simp)) Dgs.none_ hc hm (Nat.le_refl _) (Nat.zero_le _) hs (Nat.zero_le _)).mono ?_); rintro e w2 ⟨rfl, hb2⟩)
  go_ret
  exact ⟨by rw [HS.out]; rfl, bcall (bnew _ _) hb2⟩
end Go.Proofs.Ytehoafpnmfkniaa
