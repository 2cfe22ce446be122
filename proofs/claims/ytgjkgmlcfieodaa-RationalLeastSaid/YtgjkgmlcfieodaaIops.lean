/-
  The order of integers, by the program and by the reference.
  The reference's negatives, absolute values, sums, differences and products of integers.
  All operations on integers, handed from call to call; two integers in the call's own variables.
-/
import Derived.Test.YtgjkgmlcfieodaaZops
import Derived.Test.YtgjkgmlcfieodaaRdig
import Derived.Deep.DeepCutAuto
set_option linter.unusedVariables false
set_option linter.unusedSimpArgs false
namespace Go.Proofs.Ytgjkgmlcfieodaa
open Go.RowKit

/-- Two integers in variables of the call's own. -/
def Two (w w' : World) (g : Nat) (a0 a1 b0 b1 : Value) : Prop :=
  w.heap.size ≤ g ∧ Own w' g 24 a0 a1 ∧ Own w' (g + 1) 24 b0 b1 ∧ Below w.heap.size w w'
section
variable {w w' w'' : World} {g : Nat} {a0 a1 b0 b1 : Value}
theorem Two.call (h : Two w w' g a0 a1 b0 b1) (hb : Below w'.heap.size w' w'') : Two w w'' g a0 a1 b0 b1 := by
  obtain ⟨h0, h1, h2, h5⟩ := h
  exact ⟨h0, h1.below hb, h2.below hb, bcall h5 hb⟩
theorem Two.alike (h : Two w w' g a0 a1 b0 b1) (hb : ∀ B, Below B w' w'') : Two w w'' g a0 a1 b0 b1 := h.call (hb _)
theorem Two.setA (h : Two w w' g a0 a1 b0 b1) (u v : Value) : Two w ((w'.setCell ⟨g, 0, none⟩ u).setCell ⟨g, 1, none⟩ v) g u v b0 b1 := by
  obtain ⟨h0, h1, h2, h5⟩ := h
  exact ⟨h0, h1.set2 u v, h2.far2 (by omega) u v, (h5.setCell h0 _).setCell h0 _⟩
theorem Two.setB (h : Two w w' g a0 a1 b0 b1) (u v : Value) : Two w ((w'.setCell ⟨g + 1, 0, none⟩ u).setCell ⟨g + 1, 1, none⟩ v) g a0 a1 u v := by
  obtain ⟨h0, h1, h2, h5⟩ := h
  exact ⟨h0, h1.far2 (by omega) u v, h2.set2 u v, (h5.setCell (p := ⟨g + 1, 0, none⟩) (by show _ ≤ g + 1; omega) _).setCell (p := ⟨g + 1, 1, none⟩) (by show _ ≤ g + 1; omega) _⟩
theorem Two.new (w : World) (a0 a1 b0 b1 : Value) :
    Two w ((w.alloc (.cells #[a0, a1] 24)).alloc (.cells #[b0, b1] 24)) w.heap.size a0 a1 b0 b1 := by
  refine ⟨Nat.le_refl _, (Own.new _ _ _ _).alloc _, ?_, bnew2 _ _ _⟩
  have := Own.new (w.alloc (.cells #[a0, a1] 24)) 24 b0 b1
  simpa using this
end

/-- Both integers are canonical. -/
def Can2 (w wx : World) (x y : Int) : Prop :=
  ∃ A1 n1 c1 A2 n2 c2, Two w wx w.heap.size (.bool (decide (x < 0))) (.slice A1 n1 c1) (.bool (decide (y < 0))) (.slice A2 n2 c2) ∧
    Dgs wx wx.heap.size A1 n1 (digs x.natAbs) ∧ n1 ≤ c1 ∧ c1 ≤ maxLen ∧ Dgs wx wx.heap.size A2 n2 (digs y.natAbs) ∧ n2 ≤ c2 ∧ c2 ≤ maxLen

theorem cmp_neg_neg {x y : Int} (hx : x < 0) (hy : y < 0) : cmpI x y = cmpI y.natAbs x.natAbs := cmpI_congr (fun h => by omega) (fun h => by omega) (fun h => by omega)
theorem cmp_pos_pos {x y : Int} (hx : ¬ x < 0) (hy : ¬ y < 0) : cmpI x y = cmpI x.natAbs y.natAbs := cmpI_congr (fun h => by omega) (fun h => by omega) (fun h => by omega)
theorem RetC.toN {w w' : World} {v v' : Int} {e : Ending} {w0 : World} (h : e = .returned (.int .i64 v)) (hv : v' = v) (hb : Below w0.heap.size w0 w') : RetN w0 v' e w' := ⟨by rw [h, hv], hb⟩

set_option maxHeartbeats 2000000 in
set_option maxRecDepth 100000 in
theorem compare_any (neg neg' : Bool) (A A' : Option Addr) (n n' c c' : Nat) (da db : List Nat) (w : World) (h : Dgs w w.heap.size A n da) (h' : Dgs w w.heap.size A' n' db) (hc : n ≤ c) (hm : c ≤ maxLen) (hc' : n' ≤ c') (hm' : c' ≤ maxLen) :
    Calls Try.prog 11 #[.agg #[.bool neg, .slice A n c], .agg #[.bool neg', .slice A' n' c']] w (RetN w (cmpI (zOf neg (val da)) (zOf neg' (val db)))) := by
  have HF0 := Lib.hid (Two.new w (.bool neg) (.slice A n c) (.bool neg') (.slice A' n' c'))
  go_enter Try.func11, Try.ntmps11
  go_upto_region 1 with fail
  have F0 := HF0.out
  clear HF0
  generalize ((w.alloc (.cells #[.bool neg, .slice A n c] 24)).alloc (.cells #[.bool neg', .slice A' n' c'] 24)) = W0 at F0 ⊢
  have hA0 := (h.below F0.2.2.2).more F0.2.2.2.size
  have hB0 := (h'.below F0.2.2.2).more F0.2.2.2.size
  obtain ⟨p0, p1, p2, p3⟩ := F0.2.1.facts
  obtain ⟨q0, q1, q2, q3⟩ := F0.2.2.1.facts
  have F0d := F0.alike (fun B => (Below.refl B W0).drew)
  have hA0d : Dgs W0.drew W0.drew.heap.size A n da := hA0
  have hB0d : Dgs W0.drew W0.drew.heap.size A' n' db := hB0
  clear hA0 hB0
  go_cut [] (fun wx => Can2 w wx (zOf neg (val da)) (zOf neg' (val db)))
  case first =>
    go_region_with (first
      | (go_at_call_of 35 (Value.agg #[Value.bool neg, Value.slice A n c]); refine (canonical_any neg A n c da _ hA0d hc hm).mono ?_; rintro e w1 ⟨A1, n1, c1, rfl, hd1, hn1, hc1, hb1⟩; have F1 := F0d.call hb1; obtain ⟨p0, p1, p2, p3⟩ := F1.2.1.facts; obtain ⟨q0, q1, q2, q3⟩ := F1.2.2.1.facts; have hB1 := (hB0d.below hb1).more hb1.size)
      | (go_at_call_of 35 (Value.agg #[Value.bool neg', Value.slice A' n' c']); refine (canonical_any neg' A' n' c' db _ hB1 hc' hm').mono ?_; rintro e w2 ⟨A2, n2, c2, rfl, hd2, hn2, hc2, hb2⟩; have F2 := F1.call hb2; obtain ⟨p0, p1, p2, p3⟩ := F2.2.1.facts; obtain ⟨q0, q1, q2, q3⟩ := F2.2.2.1.facts))
    all_goals (go_wp2_with fail; go_meet; exact ⟨A1, n1, c1, A2, n2, c2, (F2.setA _ _).setB _ _, (Dgs.storeS ((hd1.below hb2).more hb2.size) F2.2.1 _ _).storeS (F2.setA _ _).2.2.1 _ _, hn1, hc1, (Dgs.storeS hd2 F2.2.1 _ _).storeS (F2.setA _ _).2.2.1 _ _, hn2, hc2⟩)
  case rest =>
    clear F0 F0d hA0d hB0d p0 p1 p2 p3 q0 q1 q2 q3 W0
    generalize zOf neg (val da) = x at *
    generalize zOf neg' (val db) = y at *
    clear h h'
    obtain ⟨A1, n1, c1, A2, n2, c2, F1, hd1, hn1, hc1, hd2, hn2, hc2⟩ := hcut
    obtain ⟨p0, p1, p2, p3⟩ := F1.2.1.facts
    obtain ⟨q0, q1, q2, q3⟩ := F1.2.2.1.facts
    by_cases hx : x < 0
    · have ex : decide (x < 0) = true := decide_eq_true hx
      rw [ex] at p0
      by_cases hy : y < 0
      · have ey : decide (y < 0) = true := decide_eq_true hy
        rw [ey] at q0
        have HV := Lib.hid (cmp_neg_neg hx hy)
        clear hx hy ex ey
        go_wp2_with (go_at_call 36; (with_reducible refine (compareDigits_any A2 A1 n2 n1 c2 c1 _ _ y.natAbs x.natAbs _ hd2 hd1 (by omega) (by omega)).mono ?_); rintro e w3 ⟨rfl, hw3⟩)
        go_ret
        exact ⟨by rw [HV.out]; rfl, F1.2.2.2.trans ((hw3.below _))⟩
      · have ey : decide (y < 0) = false := decide_eq_false hy
        rw [ey] at q0
        have HV := Lib.hid (cmpI_lt (show x < y by omega))
        clear hx hy ex ey
        go_wp2
        go_ret
        exact ⟨by rw [HV.out]; rfl, F1.2.2.2⟩
    · have ex : decide (x < 0) = false := decide_eq_false hx
      rw [ex] at p0
      by_cases hy : y < 0
      · have ey : decide (y < 0) = true := decide_eq_true hy
        rw [ey] at q0
        have HV := Lib.hid (cmpI_gt (show y < x by omega))
        clear hx hy ex ey
        go_wp2
        go_ret
        exact ⟨by rw [HV.out]; rfl, F1.2.2.2⟩
      · have ey : decide (y < 0) = false := decide_eq_false hy
        rw [ey] at q0
        have HV := Lib.hid (cmp_pos_pos hx hy)
        clear hx hy ex ey
        go_wp2_with (go_at_call 36; (with_reducible refine (compareDigits_any A1 A2 n1 n2 c1 c2 _ _ x.natAbs y.natAbs _ hd1 hd2 (by omega) (by omega)).mono ?_); rintro e w3 ⟨rfl, hw3⟩)
        go_ret
        exact ⟨by rw [HV.out]; rfl, F1.2.2.2.trans ((hw3.below _))⟩

set_option maxHeartbeats 2000000 in
set_option maxRecDepth 100000 in
theorem rcompare_any (neg neg' : Bool) (A A' : Option Addr) (n n' c c' : Nat) (da db : List Nat) (w : World) (h : Dgs w w.heap.size A n da) (h' : Dgs w w.heap.size A' n' db) (hc : n ≤ c) (hm : c ≤ maxLen) (hc' : n' ≤ c') (hm' : c' ≤ maxLen) (hs : n ≤ 1000000) (hs' : n' ≤ 1000000) :
    Calls Try.prog 56 #[.agg #[.bool neg, .slice A n c], .agg #[.bool neg', .slice A' n' c']] w (RetN w (cmpI (zOf neg (val da)) (zOf neg' (val db)))) := by
  have HF0 := Lib.hid (Two.new w (.bool neg) (.slice A n c) (.bool neg') (.slice A' n' c'))
  go_enter Try.func56, Try.ntmps56
  go_upto_region 1 with fail
  have F0 := HF0.out
  clear HF0
  generalize ((w.alloc (.cells #[.bool neg, .slice A n c] 24)).alloc (.cells #[.bool neg', .slice A' n' c'] 24)) = W0 at F0 ⊢
  have hA0 := (h.below F0.2.2.2).more F0.2.2.2.size
  have hB0 := (h'.below F0.2.2.2).more F0.2.2.2.size
  obtain ⟨p0, p1, p2, p3⟩ := F0.2.1.facts
  obtain ⟨q0, q1, q2, q3⟩ := F0.2.2.1.facts
  have F0d := F0.alike (fun B => (Below.refl B W0).drew)
  have hA0d : Dgs W0.drew W0.drew.heap.size A n da := hA0
  have hB0d : Dgs W0.drew W0.drew.heap.size A' n' db := hB0
  clear hA0 hB0
  go_cut [] (fun wx => Can2 w wx (zOf neg (val da)) (zOf neg' (val db)))
  case first =>
    go_region_with (first
      | (go_at_call_of 51 (Value.agg #[Value.bool neg, Value.slice A n c]); refine (canon_any neg A n c da _ hA0d hc hm hs).mono ?_; rintro e w1 ⟨A1, n1, c1, rfl, hd1, hn1, hc1, hb1⟩; have F1 := F0d.call hb1; obtain ⟨p0, p1, p2, p3⟩ := F1.2.1.facts; obtain ⟨q0, q1, q2, q3⟩ := F1.2.2.1.facts; have hB1 := (hB0d.below hb1).more hb1.size)
      | (go_at_call_of 51 (Value.agg #[Value.bool neg', Value.slice A' n' c']); refine (canon_any neg' A' n' c' db _ hB1 hc' hm' hs').mono ?_; rintro e w2 ⟨A2, n2, c2, rfl, hd2, hn2, hc2, hb2⟩; have F2 := F1.call hb2; obtain ⟨p0, p1, p2, p3⟩ := F2.2.1.facts; obtain ⟨q0, q1, q2, q3⟩ := F2.2.2.1.facts))
    all_goals (go_wp2_with fail; go_meet; exact ⟨A1, n1, c1, A2, n2, c2, (F2.setA _ _).setB _ _, (Dgs.storeS ((hd1.below hb2).more hb2.size) F2.2.1 _ _).storeS (F2.setA _ _).2.2.1 _ _, hn1, hc1, (Dgs.storeS hd2 F2.2.1 _ _).storeS (F2.setA _ _).2.2.1 _ _, hn2, hc2⟩)
  case rest =>
    clear F0 F0d hA0d hB0d p0 p1 p2 p3 q0 q1 q2 q3 W0
    generalize zOf neg (val da) = x at *
    generalize zOf neg' (val db) = y at *
    clear h h'
    obtain ⟨A1, n1, c1, A2, n2, c2, F1, hd1, hn1, hc1, hd2, hn2, hc2⟩ := hcut
    obtain ⟨p0, p1, p2, p3⟩ := F1.2.1.facts
    obtain ⟨q0, q1, q2, q3⟩ := F1.2.2.1.facts
    by_cases hx : x < 0
    · have ex : decide (x < 0) = true := decide_eq_true hx
      rw [ex] at p0
      by_cases hy : y < 0
      · have ey : decide (y < 0) = true := decide_eq_true hy
        rw [ey] at q0
        have HV := Lib.hid (cmp_neg_neg hx hy)
        clear hx hy ex ey
        go_wp2_with (go_at_call 83; (with_reducible refine (rcompareDigits_any A2 A1 n2 n1 c2 c1 _ _ (digs y.natAbs) (digs x.natAbs) _ hd2 hd1 hn2 hc2 hn1 hc1).mono ?_); rw [val_digs, val_digs]; rintro e w3 ⟨rfl, hw3⟩)
        go_ret
        exact ⟨by rw [HV.out]; rfl, F1.2.2.2.trans ((hw3.below _))⟩
      · have ey : decide (y < 0) = false := decide_eq_false hy
        rw [ey] at q0
        have HV := Lib.hid (cmpI_lt (show x < y by omega))
        clear hx hy ex ey
        go_wp2
        go_ret
        exact ⟨by rw [HV.out]; rfl, F1.2.2.2⟩
    · have ex : decide (x < 0) = false := decide_eq_false hx
      rw [ex] at p0
      by_cases hy : y < 0
      · have ey : decide (y < 0) = true := decide_eq_true hy
        rw [ey] at q0
        have HV := Lib.hid (cmpI_gt (show y < x by omega))
        clear hx hy ex ey
        go_wp2
        go_ret
        exact ⟨by rw [HV.out]; rfl, F1.2.2.2⟩
      · have ey : decide (y < 0) = false := decide_eq_false hy
        rw [ey] at q0
        have HV := Lib.hid (cmp_pos_pos hx hy)
        clear hx hy ex ey
        go_wp2_with (go_at_call 83; (with_reducible refine (rcompareDigits_any A1 A2 n1 n2 c1 c2 _ _ (digs x.natAbs) (digs y.natAbs) _ hd1 hd2 hn1 hc1 hn2 hc2).mono ?_); rw [val_digs, val_digs]; rintro e w3 ⟨rfl, hw3⟩)
        go_ret
        exact ⟨by rw [HV.out]; rfl, F1.2.2.2.trans ((hw3.below _))⟩

set_option maxHeartbeats 1000000 in
set_option maxRecDepth 100000 in
theorem rsign_any (neg : Bool) (A : Option Addr) (n c : Nat) (ds : List Nat) (w : World) (h : Dgs w w.heap.size A n ds) (hc : n ≤ c) (hm : c ≤ maxLen) (hs : n ≤ 1000000) :
    Calls Try.prog 58 #[.agg #[.bool neg, .slice A n c]] w (RetN w (sgn (zOf neg (val ds)))) := by
  have HS : Hid (sgn (zOf neg (val ds)) = cmpI (zOf neg (val ds)) (zOf false (val []))) := by unfold Hid; simp [sgn, zOf, val]
  go_enter Try.func58, Try.ntmps58
  go_wp2_with (go_at_call 56; (with_reducible refine (rcompare_any neg false A none n 0 c 0 ds [] _ ((h.alloc (Nat.le_refl _) _).more (by simp)) Dgs.none_ hc hm (Nat.le_refl _) (Nat.zero_le _) hs (Nat.zero_le _)).mono ?_); rintro e w2 ⟨rfl, hb2⟩)
  go_ret
  exact ⟨by rw [HS.out]; rfl, bcall (bnew _ _) hb2⟩

theorem zOf_false' (v : Nat) : ((v : Nat) : Int) = zOf false v := by simp [zOf]
theorem zOf_add_eq (b : Bool) (x y : Nat) : zOf b x + zOf b y = zOf b (x + y) := by cases b <;> simp [zOf] <;> omega
theorem zOf_add_ne {b b' : Bool} (h : b ≠ b') {x y : Nat} (hle : y ≤ x) : zOf b x + zOf b' y = zOf b (x - y) := by
  cases b <;> cases b' <;> simp_all [zOf] <;> omega
theorem zOf_self (z : Int) : zOf (decide (z < 0)) z.natAbs = z := by unfold zOf; by_cases h : z < 0 <;> simp [h] <;> omega
theorem zOf_mul_eq (b b' : Bool) (x y : Nat) : zOf b x * zOf b' y = zOf (!(b == b')) (x * y) := by
  cases b <;> cases b' <;> simp [zOf, Int.neg_mul, Int.mul_neg]
theorem digs_add_len {da db : List Nat} {n n' : Nat} (hd : Dig da) (hl : da.length = n) (hd' : Dig db) (hl' : db.length = n') : (digs (val da + val db)).length ≤ n + n' + 1 := by
  refine digs_length_le ?_
  have h1 := val_lt hd
  have h2 := val_lt hd'
  rw [hl] at h1
  rw [hl'] at h2
  have p1 : BB ^ n ≤ BB ^ (n + n') := Nat.pow_le_pow_right BB_pos (by omega)
  have p2 : BB ^ n' ≤ BB ^ (n + n') := Nat.pow_le_pow_right BB_pos (by omega)
  have p3 : BB ^ (n + n') * 2 ≤ BB ^ (n + n') * BB := Nat.mul_le_mul_left _ (by rw [BB_eq]; omega)
  rw [Nat.pow_succ]
  omega
theorem digs_mul_len {da db : List Nat} {n n' : Nat} (hd : Dig da) (hl : da.length = n) (hd' : Dig db) (hl' : db.length = n') : (digs (val da * val db)).length ≤ n + n' := by
  refine digs_length_le ?_
  have h1 := val_lt hd
  have h2 := val_lt hd'
  rw [hl] at h1
  rw [hl'] at h2
  rw [Nat.pow_add]
  exact Nat.mul_lt_mul'' h1 h2
theorem digs_sub_len {da : List Nat} {n : Nat} (y : Nat) (hd : Dig da) (hl : da.length = n) : (digs (val da - y)).length ≤ n := by
  refine digs_length_le ?_
  have h1 := val_lt hd
  rw [hl] at h1
  omega

set_option maxRecDepth 100000 in
theorem rnegate_any (neg : Bool) (A : Option Addr) (n c : Nat) (ds : List Nat) (w : World) (h : Dgs w w.heap.size A n ds) (hc : n ≤ c) (hm : c ≤ maxLen) (hs : n ≤ 1000000) :
    Calls Try.prog 53 #[.agg #[.bool neg, .slice A n c]] w (RetZ w (-zOf neg (val ds))) := by
  rw [← zOf_not]
  go_enter Try.func53, Try.ntmps53
  go_wp2_with (go_at_call 78; refine (make_any (!neg) _ _ _ _ _ (((h.alloc (Nat.le_refl _) _).alloc (by simp) _).more (by simp; omega)) hc hm hs).mono ?_; rintro e w2 ⟨A2, n2, c2, rfl, hd2, hn2, hc2, hb2⟩; have O2 := (Own.new _ _ _ _).below hb2; obtain ⟨q0, q1, q2, q3⟩ := O2.facts; simp only [World.size_alloc] at q0 q1 q2 q3)
  refine bodyPost_ret (v := .agg #[.bool (decide (zOf (!neg) (val ds) < 0)), .slice A2 n2 c2]) (by simp [results, Try.results53, go_sem, q0, q1, q2, q3]) rfl ?_
  simp only [World.size_alloc] at O2
  exact RetZ.store_ O2 (by omega) rfl hd2 hn2 hc2 (bcall (bnew2 _ _ _) hb2) _ _

set_option maxHeartbeats 2000000 in
set_option maxRecDepth 100000 in
theorem rmul_any (neg neg' : Bool) (A A' : Option Addr) (n n' c c' : Nat) (da db : List Nat) (w : World) (h : Dgs w w.heap.size A n da) (h' : Dgs w w.heap.size A' n' db) (hc : n ≤ c) (hm : c ≤ maxLen) (hc' : n' ≤ c') (hm' : c' ≤ maxLen) (hs : n ≤ 100000) (hs' : n' ≤ 100000) :
    Calls Try.prog 57 #[.agg #[.bool neg, .slice A n c], .agg #[.bool neg', .slice A' n' c']] w (RetZ w (zOf neg (val da) * zOf neg' (val db))) := by
  have F0 := Three.new w (.bool neg) (.slice A n c) (.bool neg') (.slice A' n' c') (.bool false) (.slice none 0 0)
  have hA0 := (h.below F0.2.2.2.2).more F0.2.2.2.2.size
  have hB0 := (h'.below F0.2.2.2.2).more F0.2.2.2.2.size
  generalize hW : (((w.alloc (.cells #[.bool neg, .slice A n c] 24)).alloc (.cells #[.bool neg', .slice A' n' c'] 24)).alloc (.cells #[.bool false, .slice none 0 0] 24)) = W0 at F0 hA0 hB0
  have HW := Lib.hid hW
  clear hW
  obtain ⟨p0, p1, p2, p3⟩ := F0.2.1.facts
  obtain ⟨q0, q1, q2, q3⟩ := F0.2.2.1.facts
  obtain ⟨r0, r1, r2, r3⟩ := F0.2.2.2.1.facts
  have hz2 : ¬ w.heap.size + 1 + 1 = w.heap.size := by omega
  have hz3 : ¬ w.heap.size + 1 + 1 = w.heap.size + 1 := by omega
  have HZ : Hid (zOf neg (val da) * zOf neg' (val db) = zOf (!(neg == neg')) (val (digs (val da * val db)))) := by unfold Hid; rw [zOf_mul_eq, val_digs]
  have HB : Hid ((digs (val da * val db)).length ≤ 1000000) := by have := digs_mul_len h.dig h.len h'.dig h'.len; unfold Hid; omega
  go_enter Try.func57, Try.ntmps57
  go_wp2
  rw [HW.out]
  have F5 := F0.alike (fun B => (Below.refl B W0).drew)
  have hAd : Dgs W0.drew W0.drew.heap.size A n da := hA0
  have hBd : Dgs W0.drew W0.drew.heap.size A' n' db := hB0
  go_region_held3 (fun w' => w'.cell? ⟨w.heap.size, 0, none⟩ = some (.bool neg) ∧ w'.cell? ⟨w.heap.size, 1, none⟩ = some (.slice A n c) ∧ w'.cell? ⟨w.heap.size + 1, 0, none⟩ = some (.bool neg') ∧ w'.cell? ⟨w.heap.size + 1, 1, none⟩ = some (.slice A' n' c'))
    (go_keep)
    (first
      | (go_at_call 84; refine (rmulDigits_any A A' n n' c c' da db _ hAd hBd hc hm hc' hm' (by omega) (by omega)).mono ?_; rintro e w6 ⟨A6, n6, c6, rfl, hd6, hn6, hc6, hb6⟩; have F6 := F5.call hb6; obtain ⟨p0, p1, p2, p3⟩ := F6.2.1.facts; obtain ⟨q0, q1, q2, q3⟩ := F6.2.2.1.facts)
      | (go_at_call 78; refine (make_any _ A6 n6 c6 _ _ hd6 hn6 hc6 (by rw [← hd6.len]; exact HB.out)).mono ?_; rintro e w7 ⟨A7, n7, c7, rfl, hd7, hn7, hc7, hb7⟩; have F7 := F6.call hb7; obtain ⟨p0, p1, p2, p3⟩ := F7.2.1.facts; obtain ⟨q0, q1, q2, q3⟩ := F7.2.2.1.facts; obtain ⟨r0, r1, r2, r3⟩ := F7.2.2.2.1.facts)
      | fail)
  go_wp2
  rw [HZ.out]
  refine bodyPost_ret (v := .agg #[.bool (decide (zOf (!(neg == neg')) (val (digs (val da * val db))) < 0)), .slice A7 n7 c7]) (by simp [results, Try.results57, go_sem, r0, r1, r2, r3]) rfl ?_
  exact RetZ.end3 F7 rfl hd7 hn7 hc7 _ _

set_option maxHeartbeats 2000000 in
set_option maxRecDepth 100000 in
theorem radd_any (neg neg' : Bool) (A A' : Option Addr) (n n' c c' : Nat) (da db : List Nat) (w : World) (h : Dgs w w.heap.size A n da) (h' : Dgs w w.heap.size A' n' db) (hc : n ≤ c) (hm : c ≤ maxLen) (hc' : n' ≤ c') (hm' : c' ≤ maxLen) (hs : n ≤ 100000) (hs' : n' ≤ 100000) :
    Calls Try.prog 82 #[.agg #[.bool neg, .slice A n c], .agg #[.bool neg', .slice A' n' c']] w (RetZ w (zOf neg (val da) + zOf neg' (val db))) := by
  by_cases hss : neg = neg'
  · subst hss
    have F0 := Three.new w (.bool neg) (.slice A n c) (.bool neg) (.slice A' n' c') (.bool false) (.slice none 0 0)
    have hA0 := (h.below F0.2.2.2.2).more F0.2.2.2.2.size
    have hB0 := (h'.below F0.2.2.2.2).more F0.2.2.2.2.size
    generalize hW : (((w.alloc (.cells #[.bool neg, .slice A n c] 24)).alloc (.cells #[.bool neg, .slice A' n' c'] 24)).alloc (.cells #[.bool false, .slice none 0 0] 24)) = W0 at F0 hA0 hB0
    have HW := Lib.hid hW
    clear hW
    obtain ⟨p0, p1, p2, p3⟩ := F0.2.1.facts
    obtain ⟨q0, q1, q2, q3⟩ := F0.2.2.1.facts
    obtain ⟨r0, r1, r2, r3⟩ := F0.2.2.2.1.facts
    have hz2 : ¬ w.heap.size + 1 + 1 = w.heap.size := by omega
    have hz3 : ¬ w.heap.size + 1 + 1 = w.heap.size + 1 := by omega
    have HZ : Hid (zOf neg (val da) + zOf neg (val db) = zOf neg (val (digs (val da + val db)))) := by unfold Hid; rw [zOf_add_eq, val_digs]
    have HB : Hid ((digs (val da + val db)).length ≤ 1000000) := by have := digs_add_len h.dig h.len h'.dig h'.len; unfold Hid; omega
    go_enter Try.func82, Try.ntmps82
    go_wp2
    rw [HW.out]
    have F5 := F0.alike (fun B => (Below.refl B W0).drew)
    have hAd : Dgs W0.drew W0.drew.heap.size A n da := hA0
    have hBd : Dgs W0.drew W0.drew.heap.size A' n' db := hB0
    go_region_held3 (fun w' => w'.cell? ⟨w.heap.size, 0, none⟩ = some (.bool neg) ∧ w'.cell? ⟨w.heap.size, 1, none⟩ = some (.slice A n c) ∧ w'.cell? ⟨w.heap.size + 1, 1, none⟩ = some (.slice A' n' c'))
      (go_keep)
      (first
        | (go_at_call 97; refine (raddDigits_any A A' n n' c c' da db _ hAd hBd hc hm hc' hm' (by omega) (by omega)).mono ?_; rintro e w6 ⟨A6, n6, c6, rfl, hd6, hn6, hc6, hb6⟩; have F6 := F5.call hb6; obtain ⟨p0, p1, p2, p3⟩ := F6.2.1.facts; obtain ⟨q0, q1, q2, q3⟩ := F6.2.2.1.facts)
        | (go_at_call 78; refine (make_any _ A6 n6 c6 _ _ hd6 hn6 hc6 (by rw [← hd6.len]; exact HB.out)).mono ?_; rintro e w7 ⟨A7, n7, c7, rfl, hd7, hn7, hc7, hb7⟩; have F7 := F6.call hb7; obtain ⟨p0, p1, p2, p3⟩ := F7.2.1.facts; obtain ⟨q0, q1, q2, q3⟩ := F7.2.2.1.facts; obtain ⟨r0, r1, r2, r3⟩ := F7.2.2.2.1.facts)
        | fail)
    go_wp2
    rw [HZ.out]
    refine bodyPost_ret (v := .agg #[.bool (decide (zOf neg (val (digs (val da + val db))) < 0)), .slice A7 n7 c7]) (by simp [results, Try.results82, go_sem, r0, r1, r2, r3]) rfl ?_
    exact RetZ.end3 F7 rfl hd7 hn7 hc7 _ _
  · have HNE : Hid (neg ≠ neg') := hss
    have hne : (neg == neg') = false := by cases neg <;> cases neg' <;> simp_all
    clear hss
    have F0 := Three.new w (.bool neg) (.slice A n c) (.bool neg') (.slice A' n' c') (.bool false) (.slice none 0 0)
    have hA0 := (h.below F0.2.2.2.2).more F0.2.2.2.2.size
    have hB0 := (h'.below F0.2.2.2.2).more F0.2.2.2.2.size
    generalize hW : (((w.alloc (.cells #[.bool neg, .slice A n c] 24)).alloc (.cells #[.bool neg', .slice A' n' c'] 24)).alloc (.cells #[.bool false, .slice none 0 0] 24)) = W0 at F0 hA0 hB0
    have HW := Lib.hid hW
    clear hW
    obtain ⟨p0, p1, p2, p3⟩ := F0.2.1.facts
    obtain ⟨q0, q1, q2, q3⟩ := F0.2.2.1.facts
    obtain ⟨r0, r1, r2, r3⟩ := F0.2.2.2.1.facts
    have hz2 : ¬ w.heap.size + 1 + 1 = w.heap.size := by omega
    have hz3 : ¬ w.heap.size + 1 + 1 = w.heap.size + 1 := by omega
    by_cases hle : val db ≤ val da
    · have HC : Hid (0 ≤ cmpI (val da) (val db)) := by unfold Hid cmpI; split <;> (try split) <;> omega
      have HLE : Hid (val (digs (val db)) ≤ val da) := by unfold Hid; rw [val_digs]; omega
      have HZ : Hid (zOf neg (val da) + zOf neg' (val db) = zOf neg (val (digs (val da - val (digs (val db)))))) := by unfold Hid; rw [val_digs, val_digs, zOf_add_ne HNE.out hle]
      have HB : Hid ((digs (val da - val (digs (val db)))).length ≤ 1000000) := by have := digs_sub_len (val (digs (val db))) h.dig h.len; unfold Hid; omega
      obtain ⟨N, HN⟩ : ∃ N, Hid (N = (digs (val db)).length) := ⟨_, rfl⟩
      have hNc := Nat.le_trans (trim_len_le h' HN) hc'
      clear hle
      go_enter Try.func82, Try.ntmps82
      go_upto_if 2 with fail
      rw [HW.out]
      go_wp2_with (go_at_call 83; go_loud ((with_reducible refine (rcompareDigits_any A A' n n' c c' _ _ da db _ hA0 hB0 hc hm hc' hm').mono ?_); rintro e w3 ⟨rfl, hw3⟩; obtain ⟨v, HV⟩ : ∃ v, Hid (v = cmpI (val da) (val db)) := ⟨_, rfl⟩; rw [← HV.out]; have hv : 0 ≤ v := Eq.mpr (congrArg (fun v => 0 ≤ v) HV.out) HC.out; have F2 := F0.alike (fun B => hw3.below B); obtain ⟨p0, p1, p2, p3⟩ := F2.2.1.facts; obtain ⟨q0, q1, q2, q3⟩ := F2.2.2.1.facts; obtain ⟨r0, r1, r2, r3⟩ := F2.2.2.2.1.facts; have hA2 := hw3.dgs' hA0; have hB2 := hw3.dgs' hB0))
      have F5 := F2.alike (fun B => (Below.refl B w3).drew)
      have hAd : Dgs w3.drew w3.drew.heap.size A n da := hA2
      have hBd : Dgs w3.drew w3.drew.heap.size A' n' db := hB2
      go_region_held3 (fun w' => w'.cell? ⟨w.heap.size, 0, none⟩ = some (.bool neg) ∧ w'.cell? ⟨w.heap.size, 1, none⟩ = some (.slice A n c) ∧ w'.cell? ⟨w.heap.size + 1, 1, none⟩ = some (.slice A' n' c'))
        (go_keep)
        (first
          | (go_at_call 79; refine (rtrim_fix A' n' c' _ N db _ hBd hc' hm' HN).mono ?_; rintro e w5 ⟨rfl, rfl⟩)
          | (go_at_call 95; refine (rsubDigits_any A A' n N c c' da (digs (val db)) _ hAd (hBd.trimmed HN) hc hm hNc hm' (by omega) HLE.out).mono ?_; rintro e w6 ⟨A6, n6, c6, rfl, hd6, hn6, hc6, hb6⟩; have F6 := F5.call hb6; obtain ⟨p0, p1, p2, p3⟩ := F6.2.1.facts; obtain ⟨q0, q1, q2, q3⟩ := F6.2.2.1.facts)
          | (go_at_call 78; refine (make_any _ A6 n6 c6 _ _ hd6 hn6 hc6 (by rw [← hd6.len]; exact HB.out)).mono ?_; rintro e w7 ⟨A7, n7, c7, rfl, hd7, hn7, hc7, hb7⟩; have F7 := F6.call hb7; obtain ⟨p0, p1, p2, p3⟩ := F7.2.1.facts; obtain ⟨q0, q1, q2, q3⟩ := F7.2.2.1.facts; obtain ⟨r0, r1, r2, r3⟩ := F7.2.2.2.1.facts)
          | fail)
      go_wp2
      rw [HZ.out]
      refine bodyPost_ret (v := .agg #[.bool (decide (zOf neg (val (digs (val da - val (digs (val db))))) < 0)), .slice A7 n7 c7]) (by simp [results, Try.results82, go_sem, r0, r1, r2, r3]) rfl ?_
      exact RetZ.end3 F7 rfl hd7 hn7 hc7 _ _
    · have HC : Hid (cmpI (val da) (val db) < 0) := by unfold Hid cmpI; split <;> (try split) <;> omega
      have HLE : Hid (val (digs (val da)) ≤ val db) := by unfold Hid; rw [val_digs]; omega
      have HZ : Hid (zOf neg (val da) + zOf neg' (val db) = zOf neg' (val (digs (val db - val (digs (val da)))))) := by unfold Hid; rw [val_digs, val_digs, Int.add_comm, zOf_add_ne (Ne.symm HNE.out) (Nat.le_of_lt (Nat.lt_of_not_le hle))]
      have HB : Hid ((digs (val db - val (digs (val da)))).length ≤ 1000000) := by have := digs_sub_len (val (digs (val da))) h'.dig h'.len; unfold Hid; omega
      obtain ⟨N, HN⟩ : ∃ N, Hid (N = (digs (val da)).length) := ⟨_, rfl⟩
      have hNc := Nat.le_trans (trim_len_le h HN) hc
      clear hle
      go_enter Try.func82, Try.ntmps82
      go_upto_if 2 with fail
      rw [HW.out]
      go_wp2_with (go_at_call 83; go_loud ((with_reducible refine (rcompareDigits_any A A' n n' c c' _ _ da db _ hA0 hB0 hc hm hc' hm').mono ?_); rintro e w3 ⟨rfl, hw3⟩; obtain ⟨v, HV⟩ : ∃ v, Hid (v = cmpI (val da) (val db)) := ⟨_, rfl⟩; rw [← HV.out]; have hv : v < 0 := Eq.mpr (congrArg (fun v => v < 0) HV.out) HC.out; have F2 := F0.alike (fun B => hw3.below B); obtain ⟨p0, p1, p2, p3⟩ := F2.2.1.facts; obtain ⟨q0, q1, q2, q3⟩ := F2.2.2.1.facts; obtain ⟨r0, r1, r2, r3⟩ := F2.2.2.2.1.facts; have hA2 := hw3.dgs' hA0; have hB2 := hw3.dgs' hB0))
      have F5 := F2.alike (fun B => (Below.refl B w3).drew)
      have hAd : Dgs w3.drew w3.drew.heap.size A n da := hA2
      have hBd : Dgs w3.drew w3.drew.heap.size A' n' db := hB2
      go_region_held3 (fun w' => w'.cell? ⟨w.heap.size + 1, 0, none⟩ = some (.bool neg') ∧ w'.cell? ⟨w.heap.size, 1, none⟩ = some (.slice A n c) ∧ w'.cell? ⟨w.heap.size + 1, 1, none⟩ = some (.slice A' n' c'))
        (go_keep)
        (first
          | (go_at_call 79; refine (rtrim_fix A n c _ N da _ hAd hc hm HN).mono ?_; rintro e w5 ⟨rfl, rfl⟩)
          | (go_at_call 95; refine (rsubDigits_any A' A n' N c' c db (digs (val da)) _ hBd (hAd.trimmed HN) hc' hm' hNc hm (by omega) HLE.out).mono ?_; rintro e w6 ⟨A6, n6, c6, rfl, hd6, hn6, hc6, hb6⟩; have F6 := F5.call hb6; obtain ⟨p0, p1, p2, p3⟩ := F6.2.1.facts; obtain ⟨q0, q1, q2, q3⟩ := F6.2.2.1.facts)
          | (go_at_call 78; refine (make_any _ A6 n6 c6 _ _ hd6 hn6 hc6 (by rw [← hd6.len]; exact HB.out)).mono ?_; rintro e w7 ⟨A7, n7, c7, rfl, hd7, hn7, hc7, hb7⟩; have F7 := F6.call hb7; obtain ⟨p0, p1, p2, p3⟩ := F7.2.1.facts; obtain ⟨q0, q1, q2, q3⟩ := F7.2.2.1.facts; obtain ⟨r0, r1, r2, r3⟩ := F7.2.2.2.1.facts)
          | fail)
      go_wp2
      rw [HZ.out]
      refine bodyPost_ret (v := .agg #[.bool (decide (zOf neg' (val (digs (val db - val (digs (val da))))) < 0)), .slice A7 n7 c7]) (by simp [results, Try.results82, go_sem, r0, r1, r2, r3]) rfl ?_
      exact RetZ.end3 F7 rfl hd7 hn7 hc7 _ _

set_option maxHeartbeats 2000000 in
set_option maxRecDepth 100000 in
theorem rsub_any (neg neg' : Bool) (A A' : Option Addr) (n n' c c' : Nat) (da db : List Nat) (w : World) (h : Dgs w w.heap.size A n da) (h' : Dgs w w.heap.size A' n' db) (hc : n ≤ c) (hm : c ≤ maxLen) (hc' : n' ≤ c') (hm' : c' ≤ maxLen) (hs : n ≤ 100000) (hs' : n' ≤ 100000) :
    Calls Try.prog 81 #[.agg #[.bool neg, .slice A n c], .agg #[.bool neg', .slice A' n' c']] w (RetZ w (zOf neg (val da) - zOf neg' (val db))) := by
  have F0 := Three.new w (.bool neg) (.slice A n c) (.bool neg') (.slice A' n' c') (.bool false) (.slice none 0 0)
  have hA0 := (h.below F0.2.2.2.2).more F0.2.2.2.2.size
  have hB0 := (h'.below F0.2.2.2.2).more F0.2.2.2.2.size
  generalize hW : (((w.alloc (.cells #[.bool neg, .slice A n c] 24)).alloc (.cells #[.bool neg', .slice A' n' c'] 24)).alloc (.cells #[.bool false, .slice none 0 0] 24)) = W0 at F0 hA0 hB0
  have HW := Lib.hid hW
  clear hW
  obtain ⟨p0, p1, p2, p3⟩ := F0.2.1.facts
  obtain ⟨q0, q1, q2, q3⟩ := F0.2.2.1.facts
  obtain ⟨r0, r1, r2, r3⟩ := F0.2.2.2.1.facts
  have hz2 : ¬ w.heap.size + 1 + 1 = w.heap.size := by omega
  have hz3 : ¬ w.heap.size + 1 + 1 = w.heap.size + 1 := by omega
  obtain ⟨Z, HZZ⟩ : ∃ Z, Hid (Z = -zOf neg' (val db)) := ⟨_, rfl⟩
  have HL : Hid ((digs Z.natAbs).length ≤ 100000) := by unfold Hid; rw [HZZ.out, Int.natAbs_neg, zOf_natAbs]; exact Nat.le_trans (digs_length_le (by have := val_lt h'.dig; rw [h'.len] at this; exact this)) hs'
  have HZ : Hid (zOf neg (val da) - zOf neg' (val db) = zOf neg (val da) + zOf (decide (Z < 0)) (val (digs Z.natAbs))) := by
    unfold Hid; rw [val_digs, zOf_self, HZZ.out]; omega
  go_enter Try.func81, Try.ntmps81
  go_wp2
  rw [HW.out]
  have F5 := F0.alike (fun B => (Below.refl B W0).drew)
  have hAd : Dgs W0.drew W0.drew.heap.size A n da := hA0
  have hBd : Dgs W0.drew W0.drew.heap.size A' n' db := hB0
  go_region_held3 (fun w' => w'.cell? ⟨w.heap.size, 0, none⟩ = some (.bool neg) ∧ w'.cell? ⟨w.heap.size, 1, none⟩ = some (.slice A n c) ∧ w'.cell? ⟨w.heap.size + 1, 0, none⟩ = some (.bool neg') ∧ w'.cell? ⟨w.heap.size + 1, 1, none⟩ = some (.slice A' n' c'))
    (go_keep)
    (first
      | (go_at_call 53; refine (rnegate_any neg' A' n' c' db _ hBd hc' hm' (by omega)).mono ?_; rw [← HZZ.out]; rintro e w6 ⟨A6, n6, c6, rfl, hd6, hn6, hc6, hb6⟩; have F6 := F5.call hb6; have hA6 := (hAd.below hb6).more hb6.size; obtain ⟨p0, p1, p2, p3⟩ := F6.2.1.facts; obtain ⟨q0, q1, q2, q3⟩ := F6.2.2.1.facts)
      | (go_at_call 82; refine (radd_any neg _ A A6 n n6 c c6 da _ _ hA6 hd6 hc hm hn6 hc6 hs (by rw [← hd6.len]; exact HL.out)).mono ?_; rintro e w7 ⟨A7, n7, c7, rfl, hd7, hn7, hc7, hb7⟩; have F7 := F6.call hb7; obtain ⟨p0, p1, p2, p3⟩ := F7.2.1.facts; obtain ⟨q0, q1, q2, q3⟩ := F7.2.2.1.facts; obtain ⟨r0, r1, r2, r3⟩ := F7.2.2.2.1.facts)
      | fail)
  go_wp2
  rw [HZ.out]
  refine bodyPost_ret (v := .agg #[.bool (decide (zOf neg (val da) + zOf (decide (Z < 0)) (val (digs Z.natAbs)) < 0)), .slice A7 n7 c7]) (by simp [results, Try.results81, go_sem, r0, r1, r2, r3]) rfl ?_
  exact RetZ.end3 F7 rfl hd7 hn7 hc7 _ _

section
variable {w w' w'' : World} {neg neg' : Bool} {A A' : Option Addr} {n c n' c' : Nat} {x y : Int}
theorem compare_at (h : IntAt w neg A n c x) (h' : IntAt w neg' A' n' c' y) : Calls Try.prog 11 #[.agg #[.bool neg, .slice A n c], .agg #[.bool neg', .slice A' n' c']] w (RetN w (cmpI x y)) := by
  obtain ⟨ds, h1, h2, h3, rfl, h5⟩ := h
  obtain ⟨ds', h1', h2', h3', rfl, h5'⟩ := h'
  exact compare_any neg neg' A A' n n' c c' ds ds' w h1 h1' h2 h3 h2' h3'
theorem rcompare_at (h : IntAt w neg A n c x) (h' : IntAt w neg' A' n' c' y) : Calls Try.prog 56 #[.agg #[.bool neg, .slice A n c], .agg #[.bool neg', .slice A' n' c']] w (RetN w (cmpI x y)) := by
  obtain ⟨ds, h1, h2, h3, rfl, h5⟩ := h
  obtain ⟨ds', h1', h2', h3', rfl, h5'⟩ := h'
  exact rcompare_any neg neg' A A' n n' c c' ds ds' w h1 h1' h2 h3 h2' h3' h5 h5'
theorem rsign_at (h : IntAt w neg A n c x) : Calls Try.prog 58 #[.agg #[.bool neg, .slice A n c]] w (RetN w (sgn x)) := by
  obtain ⟨ds, h1, h2, h3, rfl, h5⟩ := h
  exact rsign_any neg A n c ds w h1 h2 h3 h5
theorem negate_at (h : IntAt w neg A n c x) : Calls Try.prog 39 #[.agg #[.bool neg, .slice A n c]] w (RetZ w (-x)) := by
  obtain ⟨ds, h1, h2, h3, rfl, h5⟩ := h
  exact negate_any neg A n c ds w h1 h2 h3 h5
theorem rnegate_at (h : IntAt w neg A n c x) : Calls Try.prog 53 #[.agg #[.bool neg, .slice A n c]] w (RetZ w (-x)) := by
  obtain ⟨ds, h1, h2, h3, rfl, h5⟩ := h
  exact rnegate_any neg A n c ds w h1 h2 h3 h5
theorem radd_at (h : IntAt w neg A n c x) (h' : IntAt w neg' A' n' c' y) (k : n ≤ 100000) (k' : n' ≤ 100000) : Calls Try.prog 82 #[.agg #[.bool neg, .slice A n c], .agg #[.bool neg', .slice A' n' c']] w (RetZ w (x + y)) := by
  obtain ⟨ds, h1, h2, h3, rfl, h5⟩ := h
  obtain ⟨ds', h1', h2', h3', rfl, h5'⟩ := h'
  exact radd_any neg neg' A A' n n' c c' ds ds' w h1 h1' h2 h3 h2' h3' k k'
theorem rsub_at (h : IntAt w neg A n c x) (h' : IntAt w neg' A' n' c' y) (k : n ≤ 100000) (k' : n' ≤ 100000) : Calls Try.prog 81 #[.agg #[.bool neg, .slice A n c], .agg #[.bool neg', .slice A' n' c']] w (RetZ w (x - y)) := by
  obtain ⟨ds, h1, h2, h3, rfl, h5⟩ := h
  obtain ⟨ds', h1', h2', h3', rfl, h5'⟩ := h'
  exact rsub_any neg neg' A A' n n' c c' ds ds' w h1 h1' h2 h3 h2' h3' k k'
theorem rmul_at (h : IntAt w neg A n c x) (h' : IntAt w neg' A' n' c' y) (k : n ≤ 100000) (k' : n' ≤ 100000) : Calls Try.prog 57 #[.agg #[.bool neg, .slice A n c], .agg #[.bool neg', .slice A' n' c']] w (RetZ w (x * y)) := by
  obtain ⟨ds, h1, h2, h3, rfl, h5⟩ := h
  obtain ⟨ds', h1', h2', h3', rfl, h5'⟩ := h'
  exact rmul_any neg neg' A A' n n' c c' ds ds' w h1 h1' h2 h3 h2' h3' k k'

/-- The two arguments in the call's own variables. -/
def Env2 (w w' : World) (x1 x2 : Bool) (A1 A2 : Option Addr) (n1 c1 n2 c2 : Nat) (a b : Int) : Prop :=
  Own w' w.heap.size 24 (.bool x1) (.slice A1 n1 c1) ∧ Own w' (w.heap.size + 1) 24 (.bool x2) (.slice A2 n2 c2) ∧ IntAt w' x1 A1 n1 c1 a ∧ IntAt w' x2 A2 n2 c2 b ∧ Below w.heap.size w w'
variable {x1 x2 : Bool} {A1 A2 : Option Addr} {n1 c1 n2 c2 : Nat} {a b : Int}
theorem Env2.call (h : Env2 w w' x1 x2 A1 A2 n1 c1 n2 c2 a b) (hb : Below w'.heap.size w' w'') : Env2 w w'' x1 x2 A1 A2 n1 c1 n2 c2 a b := by
  obtain ⟨h1, h2, h4, h5, h7⟩ := h
  exact ⟨h1.below hb, h2.below hb, h4.call hb, h5.call hb, bcall h7 hb⟩
theorem Env2.drew (h : Env2 w w' x1 x2 A1 A2 n1 c1 n2 c2 a b) : Env2 w w'.drew x1 x2 A1 A2 n1 c1 n2 c2 a b := by
  obtain ⟨h1, h2, h4, h5, h7⟩ := h
  exact ⟨h1, h2, h4, h5, h7.drew⟩
theorem Env2.ia (h : Env2 w w' x1 x2 A1 A2 n1 c1 n2 c2 a b) : IntAt w' x1 A1 n1 c1 a := h.2.2.1
theorem Env2.ib (h : Env2 w w' x1 x2 A1 A2 n1 c1 n2 c2 a b) : IntAt w' x2 A2 n2 c2 b := h.2.2.2.1
theorem Env2.below (h : Env2 w w' x1 x2 A1 A2 n1 c1 n2 c2 a b) : Below w.heap.size w w' := h.2.2.2.2
theorem Env2.facts (h : Env2 w w' x1 x2 A1 A2 n1 c1 n2 c2 a b) :
    w'.cell? ⟨w.heap.size, 0, none⟩ = some (.bool x1) ∧ w'.cell? ⟨w.heap.size, 1, none⟩ = some (.slice A1 n1 c1) ∧ w'.cell? ⟨w.heap.size + 1, 0, none⟩ = some (.bool x2) ∧ w'.cell? ⟨w.heap.size + 1, 1, none⟩ = some (.slice A2 n2 c2) := by
  obtain ⟨h1, h2, _⟩ := h
  exact ⟨h1.facts.1, h1.facts.2.1, h2.facts.1, h2.facts.2.1⟩
end

theorem light2 {w : World} {x1 x2 : Bool} {A1 A2 : Option Addr} {n1 c1 n2 c2 g : Nat} (hg : g = w.heap.size) (h1 : n1 ≤ 140737488351232) (h2 : n2 ≤ 140737488351232) (b : Bool) (hb : b = decide (n1 + n2 ≤ 60)) :
    Calls Try.prog 17 #[.slice (some ⟨g, 0, none⟩) 2 2] (w.alloc (.cells #[.bool x1, .slice A1 n1 c1, .bool x2, .slice A2 n2 c2] 24)) fun e w' => e = .returned (.bool b) ∧ (w.alloc (.cells #[.bool x1, .slice A1 n1 c1, .bool x2, .slice A2 n2 c2] 24)) = w' := by
  subst hg hb
  have hh := Go.Deep.blk_alloc_new w (.cells #[.bool x1, .slice A1 n1 c1, .bool x2, .slice A2 n2 c2] 24)
  have := light_any w.heap.size 2 2 (fun i => if i = 0 then A1 else A2) (fun i => if i = 0 then n1 else n2) (fun i => if i = 0 then c1 else c2) (w.alloc (.cells #[.bool x1, .slice A1 n1 c1, .bool x2, .slice A2 n2 c2] 24)) (by omega)
    (fun i _ => by by_cases e0 : i = 0 <;> simp [e0] <;> omega)
    (fun i hi => by
      obtain rfl | rfl : i = 0 ∨ i = 1 := by omega
      · unfold World.cell?; rw [hh]; rfl
      · unfold World.cell?; rw [hh]; rfl)
  have e : sumN (fun i => if i = 0 then n1 else n2) 2 = n1 + n2 := by simp [sumN]
  rw [e] at this
  exact this
end Go.Proofs.Ytgjkgmlcfieodaa

