/-
  Sums, differences, products, signs and the order of integers.
  Sums of integers.
  Differences, signs, negatives and absolute values of integers.
  Integers in variables, handed from call to call.
-/
import Derived.Test.YtgjkgmlcfieodaaDig
import Derived.Test.YtgjkgmlcfieodaaDivM
import Derived.Test.YtgjkgmlcfieodaaCmpC
import Derived.Test.YtgjkgmlcfieodaaForm2
import Derived.Test.YtgjkgmlcfieodaaRows2
set_option linter.unusedVariables false
set_option linter.unusedSimpArgs false
namespace Go.Proofs.Ytgjkgmlcfieodaa
open Go.RowKit

/-- Two integers in variables of the call's own, and one more for the result. -/
def Three (w w' : World) (g : Nat) (a0 a1 b0 b1 c0 c1 : Value) : Prop :=
  w.heap.size ≤ g ∧ Own w' g 24 a0 a1 ∧ Own w' (g + 1) 24 b0 b1 ∧ Own w' (g + 1 + 1) 24 c0 c1 ∧ Below w.heap.size w w'
section
variable {w w' w'' : World} {g : Nat} {a0 a1 b0 b1 c0 c1 : Value}
theorem Three.call (h : Three w w' g a0 a1 b0 b1 c0 c1) (hb : Below w'.heap.size w' w'') : Three w w'' g a0 a1 b0 b1 c0 c1 := by
  obtain ⟨h0, h1, h2, h3, h5⟩ := h
  exact ⟨h0, h1.below hb, h2.below hb, h3.below hb, bcall h5 hb⟩
theorem Three.alike (h : Three w w' g a0 a1 b0 b1 c0 c1) (hb : ∀ B, Below B w' w'') : Three w w'' g a0 a1 b0 b1 c0 c1 := h.call (hb _)
theorem Three.setA (h : Three w w' g a0 a1 b0 b1 c0 c1) (u v : Value) : Three w ((w'.setCell ⟨g, 0, none⟩ u).setCell ⟨g, 1, none⟩ v) g u v b0 b1 c0 c1 := by
  obtain ⟨h0, h1, h2, h3, h5⟩ := h
  exact ⟨h0, h1.set2 u v, h2.far2 (by omega) u v, h3.far2 (by omega) u v, (h5.setCell h0 _).setCell h0 _⟩
theorem Three.setB (h : Three w w' g a0 a1 b0 b1 c0 c1) (u v : Value) : Three w ((w'.setCell ⟨g + 1, 0, none⟩ u).setCell ⟨g + 1, 1, none⟩ v) g a0 a1 u v c0 c1 := by
  obtain ⟨h0, h1, h2, h3, h5⟩ := h
  exact ⟨h0, h1.far2 (by omega) u v, h2.set2 u v, h3.far2 (by omega) u v, (h5.setCell (p := ⟨g + 1, 0, none⟩) (by show _ ≤ g + 1; omega) _).setCell (p := ⟨g + 1, 1, none⟩) (by show _ ≤ g + 1; omega) _⟩
theorem Three.new (w : World) (a0 a1 b0 b1 c0 c1 : Value) :
    Three w (((w.alloc (.cells #[a0, a1] 24)).alloc (.cells #[b0, b1] 24)).alloc (.cells #[c0, c1] 24)) w.heap.size a0 a1 b0 b1 c0 c1 := by
  refine ⟨Nat.le_refl _, ((Own.new _ _ _ _).alloc _).alloc _, ?_, ?_, ?_⟩
  · have := (Own.new (w.alloc (.cells #[a0, a1] 24)) 24 b0 b1).alloc (.cells #[c0, c1] 24); simpa using this
  · have := Own.new ((w.alloc (.cells #[a0, a1] 24)).alloc (.cells #[b0, b1] 24)) 24 c0 c1; simpa using this
  · exact (bnew2 _ _ _).alloc (by simp; omega) _
end

/-- Both integers are canonical, the variable of the result is as it was. -/
def Can3 (w wx : World) (x y : Int) : Prop :=
  ∃ A1 n1 c1 A2 n2 c2, Three w wx w.heap.size (.bool (decide (x < 0))) (.slice A1 n1 c1) (.bool (decide (y < 0))) (.slice A2 n2 c2) (.bool false) (.slice none 0 0) ∧
    Dgs wx wx.heap.size A1 n1 (digs x.natAbs) ∧ n1 ≤ c1 ∧ c1 ≤ maxLen ∧ Dgs wx wx.heap.size A2 n2 (digs y.natAbs) ∧ n2 ≤ c2 ∧ c2 ≤ maxLen

theorem digs_val_le {ds : List Nat} {n : Nat} (hd : Dig ds) (hl : ds.length = n) (hs : n ≤ 1000000) : (digs (val ds)).length ≤ 1000000 := by
  have h := val_lt hd
  rw [hl] at h
  have := digs_length_le h
  omega

theorem zOf_add_same (x y : Int) (h : decide (x < 0) = decide (y < 0)) : zOf (decide (x < 0)) (x.natAbs + y.natAbs) = x + y := by
  have h' : x < 0 ↔ y < 0 := by simpa using h
  unfold zOf; by_cases hx : x < 0 <;> simp [hx] <;> omega
theorem zOf_add_diff (x y : Int) (h : decide (x < 0) ≠ decide (y < 0)) (hle : y.natAbs ≤ x.natAbs) : zOf (decide (x < 0)) (x.natAbs - y.natAbs) = x + y := by
  have h' : ¬ (x < 0 ↔ y < 0) := by simpa using h
  unfold zOf; by_cases hx : x < 0 <;> simp [hx] <;> omega
theorem zOf_mul (x y : Int) : zOf (!(decide (x < 0) == decide (y < 0))) (x.natAbs * y.natAbs) = x * y := by
  rcases Int.lt_or_le x 0 with hx | hx <;> rcases Int.lt_or_le y 0 with hy | hy
  · have e1 : x = -(x.natAbs : Int) := by omega
    have e2 : y = -(y.natAbs : Int) := by omega
    have h1 : decide (x < 0) = true := by simp [hx]
    have h2 : decide (y < 0) = true := by simp [hy]
    rw [h1, h2]
    show (((x.natAbs * y.natAbs : Nat) : Int)) = x * y
    rw [Int.natCast_mul]
    conv => rhs; rw [e1, e2, Int.neg_mul_neg]
  · have e1 : x = -(x.natAbs : Int) := by omega
    have e2 : y = (y.natAbs : Int) := by omega
    have h1 : decide (x < 0) = true := by simp [hx]
    have h2 : decide (y < 0) = false := by simp; omega
    rw [h1, h2]
    show -(((x.natAbs * y.natAbs : Nat) : Int)) = x * y
    rw [Int.natCast_mul]
    conv => rhs; rw [e1, e2, Int.neg_mul]
  · have e1 : x = (x.natAbs : Int) := by omega
    have e2 : y = -(y.natAbs : Int) := by omega
    have h1 : decide (x < 0) = false := by simp; omega
    have h2 : decide (y < 0) = true := by simp [hy]
    rw [h1, h2]
    show -(((x.natAbs * y.natAbs : Nat) : Int)) = x * y
    rw [Int.natCast_mul]
    conv => rhs; rw [e1, e2, Int.mul_neg]
  · have e1 : x = (x.natAbs : Int) := by omega
    have e2 : y = (y.natAbs : Int) := by omega
    have h1 : decide (x < 0) = false := by simp; omega
    have h2 : decide (y < 0) = false := by simp; omega
    rw [h1, h2]
    show (((x.natAbs * y.natAbs : Nat) : Int)) = x * y
    rw [Int.natCast_mul, ← e1, ← e2]

theorem RetZ.end3 {w w5 : World} {a0 a1 b0 b1 : Value} {x1 : Bool} {s1 : Option Addr} {l1 k1 : Nat} {A : Option Addr} {n c : Nat} {z : Int} {neg : Bool}
    (F : Three w w5 w.heap.size a0 a1 b0 b1 (.bool x1) (.slice s1 l1 k1)) (hn : neg = decide (z < 0))
    (hd : Dgs w5 w5.heap.size A n (digs z.natAbs)) (hc : n ≤ c) (hm : c ≤ maxLen) (u v : Value) :
    RetZ w z (.returned (.agg #[.bool neg, .slice A n c])) ((w5.setCell ⟨w.heap.size + 1 + 1, 0, none⟩ u).setCell ⟨w.heap.size + 1 + 1, 1, none⟩ v) :=
  RetZ.store_ F.2.2.2.1 (by omega) hn hd hc hm F.2.2.2.2 u v

set_option maxHeartbeats 2000000 in
set_option maxRecDepth 100000 in
theorem mul_any (neg neg' : Bool) (A A' : Option Addr) (n n' c c' : Nat) (da db : List Nat) (w : World) (h : Dgs w w.heap.size A n da) (h' : Dgs w w.heap.size A' n' db) (hc : n ≤ c) (hm : c ≤ maxLen) (hc' : n' ≤ c') (hm' : c' ≤ maxLen) (hs : n ≤ 1000000) (hs' : n' ≤ 1000000) :
    Calls Try.prog 34 #[.agg #[.bool neg, .slice A n c], .agg #[.bool neg', .slice A' n' c']] w (RetZ w (zOf neg (val da) * zOf neg' (val db))) := by
  have HF0 := Lib.hid (Three.new w (.bool neg) (.slice A n c) (.bool neg') (.slice A' n' c') (.bool false) (.slice none 0 0))
  go_enter Try.func34, Try.ntmps34
  go_upto_region 1 with fail
  have F0 := HF0.out
  clear HF0
  generalize (((w.alloc (.cells #[.bool neg, .slice A n c] 24)).alloc (.cells #[.bool neg', .slice A' n' c'] 24)).alloc (.cells #[.bool false, .slice none 0 0] 24)) = W0 at F0 ⊢
  have hA0 := (h.below F0.2.2.2.2).more F0.2.2.2.2.size
  have hB0 := (h'.below F0.2.2.2.2).more F0.2.2.2.2.size
  obtain ⟨p0, p1, p2, p3⟩ := F0.2.1.facts
  obtain ⟨q0, q1, q2, q3⟩ := F0.2.2.1.facts
  have F0d := F0.alike (fun B => (Below.refl B W0).drew)
  have hA0d : Dgs W0.drew W0.drew.heap.size A n da := hA0
  have hB0d : Dgs W0.drew W0.drew.heap.size A' n' db := hB0
  clear hA0 hB0
  go_cut [] (fun wx => Can3 w wx (zOf neg (val da)) (zOf neg' (val db)))
  case first =>
    go_region_with (first
      | (go_at_call_of 35 (Value.agg #[Value.bool neg, Value.slice A n c]); refine (canonical_any neg A n c da _ hA0d hc hm).mono ?_; rintro e w1 ⟨A1, n1, c1, rfl, hd1, hn1, hc1, hb1⟩; have F1 := F0d.call hb1; obtain ⟨p0, p1, p2, p3⟩ := F1.2.1.facts; obtain ⟨q0, q1, q2, q3⟩ := F1.2.2.1.facts; have hB1 := (hB0d.below hb1).more hb1.size)
      | (go_at_call_of 35 (Value.agg #[Value.bool neg', Value.slice A' n' c']); refine (canonical_any neg' A' n' c' db _ hB1 hc' hm').mono ?_; rintro e w2 ⟨A2, n2, c2, rfl, hd2, hn2, hc2, hb2⟩; have F2 := F1.call hb2; obtain ⟨p0, p1, p2, p3⟩ := F2.2.1.facts; obtain ⟨q0, q1, q2, q3⟩ := F2.2.2.1.facts))
    all_goals (go_wp2_with fail; go_meet; exact ⟨A1, n1, c1, A2, n2, c2, (F2.setA _ _).setB _ _, (Dgs.storeS ((hd1.below hb2).more hb2.size) F2.2.1 _ _).storeS (F2.setA _ _).2.2.1 _ _, hn1, hc1, (Dgs.storeS hd2 F2.2.1 _ _).storeS (F2.setA _ _).2.2.1 _ _, hn2, hc2⟩)
  case rest =>
    clear F0 F0d hA0d hB0d p0 p1 p2 p3 q0 q1 q2 q3 W0
    have hX0 : (digs (zOf neg (val da)).natAbs).length ≤ 1000000 := by rw [zOf_natAbs]; exact digs_val_le h.dig h.len hs
    have hY0 : (digs (zOf neg' (val db)).natAbs).length ≤ 1000000 := by rw [zOf_natAbs]; exact digs_val_le h'.dig h'.len hs'
    generalize zOf neg (val da) = x at *
    generalize zOf neg' (val db) = y at *
    clear h h'
    obtain ⟨A1, n1, c1, A2, n2, c2, F1, hd1, hn1, hc1, hd2, hn2, hc2⟩ := hcut
    have hs1 : n1 ≤ 1000000 := by rw [← hd1.len]; exact hX0
    have hs2 : n2 ≤ 1000000 := by rw [← hd2.len]; exact hY0
    obtain ⟨X, HX⟩ : ∃ X, Hid (X = x.natAbs) := ⟨_, rfl⟩
    obtain ⟨Y, HY⟩ : ∃ Y, Hid (Y = y.natAbs) := ⟨_, rfl⟩
    obtain ⟨sx, HSX⟩ : ∃ s, Hid (s = decide (x < 0)) := ⟨_, rfl⟩
    obtain ⟨sy, HSY⟩ : ∃ s, Hid (s = decide (y < 0)) := ⟨_, rfl⟩
    rw [← HX.out] at hd1
    rw [← HY.out] at hd2
    rw [← HSX.out, ← HSY.out] at F1
    obtain ⟨p0, p1, p2, p3⟩ := F1.2.1.facts
    obtain ⟨q0, q1, q2, q3⟩ := F1.2.2.1.facts
    obtain ⟨r0, r1, r2, r3⟩ := F1.2.2.2.1.facts
    have hz2 : ¬ w.heap.size + 1 + 1 = w.heap.size := by omega
    have hz3 : ¬ w.heap.size + 1 + 1 = w.heap.size + 1 := by omega
    have hd1d : Dgs wc.drew wc.drew.heap.size A1 n1 (digs X) := hd1
    have hd2d : Dgs wc.drew wc.drew.heap.size A2 n2 (digs Y) := hd2
    have HZ : Hid (x * y = zOf (!(sx == sy)) (val (digs (val (digs X) * val (digs Y))))) := by
      unfold Hid
      rw [val_digs, val_digs, val_digs, HX.out, HY.out, HSX.out, HSY.out, zOf_mul]
    go_wp2
    have F5 := F1.alike (fun B => (Below.refl B wc).drew)
    go_region_held3 (fun w' => w'.cell? ⟨w.heap.size, 0, none⟩ = some (.bool sx) ∧ w'.cell? ⟨w.heap.size, 1, none⟩ = some (.slice A1 n1 c1) ∧ w'.cell? ⟨w.heap.size + 1, 0, none⟩ = some (.bool sy) ∧ w'.cell? ⟨w.heap.size + 1, 1, none⟩ = some (.slice A2 n2 c2))
      (go_keep)
      (first
        | (go_at_call 66; refine (mulDigits_any A1 A2 n1 n2 c1 c2 _ _ _ hd1d hd2d hs1 hs2).mono ?_; rintro e w6 ⟨A6, n6, c6, rfl, hd6, hn6, hc6, hb6⟩; have F6 := F5.call hb6; obtain ⟨p0, p1, p2, p3⟩ := F6.2.1.facts; obtain ⟨q0, q1, q2, q3⟩ := F6.2.2.1.facts)
        | (go_at_call 37; refine (newInt_any _ A6 n6 c6 _ _ hd6 hn6 hc6).mono ?_; rintro e w7 ⟨A7, n7, c7, rfl, hd7, hn7, hc7, hb7⟩; have F7 := F6.call hb7; obtain ⟨p0, p1, p2, p3⟩ := F7.2.1.facts; obtain ⟨q0, q1, q2, q3⟩ := F7.2.2.1.facts; obtain ⟨r0, r1, r2, r3⟩ := F7.2.2.2.1.facts))
    go_wp2
    rw [HZ.out]
    refine bodyPost_ret (v := .agg #[.bool (decide (zOf (!(sx == sy)) (val (digs (val (digs X) * val (digs Y)))) < 0)), .slice A7 n7 c7]) (by simp [results, Try.results34, go_sem, r0, r1, r2, r3]) rfl ?_
    exact RetZ.end3 F7 rfl hd7 hn7 hc7 _ _

set_option maxHeartbeats 2000000 in
set_option maxRecDepth 100000 in
theorem add_any (neg neg' : Bool) (A A' : Option Addr) (n n' c c' : Nat) (da db : List Nat) (w : World) (h : Dgs w w.heap.size A n da) (h' : Dgs w w.heap.size A' n' db) (hc : n ≤ c) (hm : c ≤ maxLen) (hc' : n' ≤ c') (hm' : c' ≤ maxLen) (hs : n ≤ 1000000) (hs' : n' ≤ 1000000) :
    Calls Try.prog 46 #[.agg #[.bool neg, .slice A n c], .agg #[.bool neg', .slice A' n' c']] w (RetZ w (zOf neg (val da) + zOf neg' (val db))) := by
  have HF0 := Lib.hid (Three.new w (.bool neg) (.slice A n c) (.bool neg') (.slice A' n' c') (.bool false) (.slice none 0 0))
  go_enter Try.func46, Try.ntmps46
  go_upto_region 1 with fail
  have F0 := HF0.out
  clear HF0
  generalize (((w.alloc (.cells #[.bool neg, .slice A n c] 24)).alloc (.cells #[.bool neg', .slice A' n' c'] 24)).alloc (.cells #[.bool false, .slice none 0 0] 24)) = W0 at F0 ⊢
  have hA0 := (h.below F0.2.2.2.2).more F0.2.2.2.2.size
  have hB0 := (h'.below F0.2.2.2.2).more F0.2.2.2.2.size
  obtain ⟨p0, p1, p2, p3⟩ := F0.2.1.facts
  obtain ⟨q0, q1, q2, q3⟩ := F0.2.2.1.facts
  have F0d := F0.alike (fun B => (Below.refl B W0).drew)
  have hA0d : Dgs W0.drew W0.drew.heap.size A n da := hA0
  have hB0d : Dgs W0.drew W0.drew.heap.size A' n' db := hB0
  clear hA0 hB0
  go_cut [] (fun wx => Can3 w wx (zOf neg (val da)) (zOf neg' (val db)))
  case first =>
    go_region_with (first
      | (go_at_call_of 35 (Value.agg #[Value.bool neg, Value.slice A n c]); refine (canonical_any neg A n c da _ hA0d hc hm).mono ?_; rintro e w1 ⟨A1, n1, c1, rfl, hd1, hn1, hc1, hb1⟩; have F1 := F0d.call hb1; obtain ⟨p0, p1, p2, p3⟩ := F1.2.1.facts; obtain ⟨q0, q1, q2, q3⟩ := F1.2.2.1.facts; have hB1 := (hB0d.below hb1).more hb1.size)
      | (go_at_call_of 35 (Value.agg #[Value.bool neg', Value.slice A' n' c']); refine (canonical_any neg' A' n' c' db _ hB1 hc' hm').mono ?_; rintro e w2 ⟨A2, n2, c2, rfl, hd2, hn2, hc2, hb2⟩; have F2 := F1.call hb2; obtain ⟨p0, p1, p2, p3⟩ := F2.2.1.facts; obtain ⟨q0, q1, q2, q3⟩ := F2.2.2.1.facts))
    all_goals (go_wp2_with fail; go_meet; exact ⟨A1, n1, c1, A2, n2, c2, (F2.setA _ _).setB _ _, (Dgs.storeS ((hd1.below hb2).more hb2.size) F2.2.1 _ _).storeS (F2.setA _ _).2.2.1 _ _, hn1, hc1, (Dgs.storeS hd2 F2.2.1 _ _).storeS (F2.setA _ _).2.2.1 _ _, hn2, hc2⟩)
  case rest =>
    clear F0 F0d hA0d hB0d p0 p1 p2 p3 q0 q1 q2 q3 W0
    have hX0 : (digs (zOf neg (val da)).natAbs).length ≤ 1000000 := by rw [zOf_natAbs]; exact digs_val_le h.dig h.len hs
    have hY0 : (digs (zOf neg' (val db)).natAbs).length ≤ 1000000 := by rw [zOf_natAbs]; exact digs_val_le h'.dig h'.len hs'
    generalize zOf neg (val da) = x at *
    generalize zOf neg' (val db) = y at *
    clear h h'
    obtain ⟨A1, n1, c1, A2, n2, c2, F1, hd1, hn1, hc1, hd2, hn2, hc2⟩ := hcut
    have hs1 : n1 ≤ 1000000 := by rw [← hd1.len]; exact hX0
    have hs2 : n2 ≤ 1000000 := by rw [← hd2.len]; exact hY0
    obtain ⟨X, HX⟩ : ∃ X, Hid (X = x.natAbs) := ⟨_, rfl⟩
    obtain ⟨Y, HY⟩ : ∃ Y, Hid (Y = y.natAbs) := ⟨_, rfl⟩
    obtain ⟨sx, HSX⟩ : ∃ s, Hid (s = decide (x < 0)) := ⟨_, rfl⟩
    obtain ⟨sy, HSY⟩ : ∃ s, Hid (s = decide (y < 0)) := ⟨_, rfl⟩
    rw [← HX.out] at hd1
    rw [← HY.out] at hd2
    rw [← HSX.out, ← HSY.out] at F1
    obtain ⟨p0, p1, p2, p3⟩ := F1.2.1.facts
    obtain ⟨q0, q1, q2, q3⟩ := F1.2.2.1.facts
    obtain ⟨r0, r1, r2, r3⟩ := F1.2.2.2.1.facts
    have hz2 : ¬ w.heap.size + 1 + 1 = w.heap.size := by omega
    have hz3 : ¬ w.heap.size + 1 + 1 = w.heap.size + 1 := by omega
    by_cases hss : sx = sy
    · subst hss
      have HZ : Hid (x + y = zOf sx (val (digs (val (digs X) + val (digs Y))))) := by
        unfold Hid
        rw [val_digs, val_digs, val_digs, HX.out, HY.out, HSX.out, zOf_add_same x y (HSX.out.symm.trans HSY.out)]
      have hd1d : Dgs wc.drew wc.drew.heap.size A1 n1 (digs X) := hd1
      have hd2d : Dgs wc.drew wc.drew.heap.size A2 n2 (digs Y) := hd2
      go_wp2
      have F5 := F1.alike (fun B => (Below.refl B wc).drew)
      go_region_held3 (fun w' => w'.cell? ⟨w.heap.size, 0, none⟩ = some (.bool sx) ∧ w'.cell? ⟨w.heap.size, 1, none⟩ = some (.slice A1 n1 c1) ∧ w'.cell? ⟨w.heap.size + 1, 1, none⟩ = some (.slice A2 n2 c2))
        (go_keep)
        (first
          | (go_at_call 72; refine (addDigits_any A1 A2 n1 n2 c1 c2 _ _ _ hd1d hd2d hs1 hs2).mono ?_; rintro e w6 ⟨A6, n6, c6, rfl, hd6, hn6, hc6, hb6⟩; have F6 := F5.call hb6; obtain ⟨p0, p1, p2, p3⟩ := F6.2.1.facts; obtain ⟨q0, q1, q2, q3⟩ := F6.2.2.1.facts)
          | (go_at_call 37; refine (newInt_any _ A6 n6 c6 _ _ hd6 hn6 hc6).mono ?_; rintro e w7 ⟨A7, n7, c7, rfl, hd7, hn7, hc7, hb7⟩; have F7 := F6.call hb7; obtain ⟨p0, p1, p2, p3⟩ := F7.2.1.facts; obtain ⟨q0, q1, q2, q3⟩ := F7.2.2.1.facts; obtain ⟨r0, r1, r2, r3⟩ := F7.2.2.2.1.facts))
      go_wp2
      rw [HZ.out]
      refine bodyPost_ret (v := .agg #[.bool (decide (zOf sx (val (digs (val (digs X) + val (digs Y)))) < 0)), .slice A7 n7 c7]) (by simp [results, Try.results46, go_sem, r0, r1, r2, r3]) rfl ?_
      exact RetZ.end3 F7 rfl hd7 hn7 hc7 _ _
    · have HNE : Hid (decide (x < 0) ≠ decide (y < 0)) := by rw [← HSX.out, ← HSY.out]; exact hss
      have hne : (sx == sy) = false := by cases sx <;> cases sy <;> simp_all
      clear hss
      by_cases hXY : X < Y
      · have HC : Hid (cmpI (X : Int) Y = -1) := cmpI_lt (by omega)
        have HZ : Hid (x + y = zOf sy (val (digs (val (digs Y) - val (digs X))))) := by
          unfold Hid
          rw [val_digs, val_digs, val_digs, HX.out, HY.out, HSY.out, Int.add_comm, zOf_add_diff y x HNE.out.symm (by rw [← HX.out, ← HY.out]; omega)]
        have HLE : Hid (val (digs X) ≤ val (digs Y)) := by unfold Hid; rw [val_digs, val_digs]; omega
        clear hXY
        go_wp2_with (go_at_call 36; (with_reducible refine (compareDigits_any A1 A2 n1 n2 c1 c2 _ _ X Y _ hd1 hd2 (by unfold maxLen; omega) (by unfold maxLen; omega)).mono ?_); rw [HC.out]; rintro e w3 ⟨rfl, hw3⟩; have F2 := F1.alike (fun B => hw3.below B); obtain ⟨p0, p1, p2, p3⟩ := F2.2.1.facts; obtain ⟨q0, q1, q2, q3⟩ := F2.2.2.1.facts; have F3 := (F2.setA (.bool sy) (.slice A2 n2 c2)).setB (.bool sx) (.slice A1 n1 c1); have hd3 := (Dgs.storeS (hw3.dgs' hd1) F2.2.1 (.bool sy) (.slice A2 n2 c2)).storeS (F2.setA (.bool sy) (.slice A2 n2 c2)).2.2.1 (.bool sx) (.slice A1 n1 c1); have hd4 := (Dgs.storeS (hw3.dgs' hd2) F2.2.1 (.bool sy) (.slice A2 n2 c2)).storeS (F2.setA (.bool sy) (.slice A2 n2 c2)).2.2.1 (.bool sx) (.slice A1 n1 c1))
        generalize (((w3.setCell ⟨w.heap.size, 0, none⟩ (.bool sy)).setCell ⟨w.heap.size, 1, none⟩ (.slice A2 n2 c2)).setCell ⟨w.heap.size + 1, 0, none⟩ (.bool sx)).setCell ⟨w.heap.size + 1, 1, none⟩ (.slice A1 n1 c1) = W3 at F3 hd3 hd4 ⊢
        clear p0 p1 p2 p3 q0 q1 q2 q3
        obtain ⟨p0, p1, p2, p3⟩ := F3.2.1.facts
        obtain ⟨q0, q1, q2, q3⟩ := F3.2.2.1.facts
        have hd1d : Dgs W3.drew W3.drew.heap.size A1 n1 (digs X) := hd3
        have hd2d : Dgs W3.drew W3.drew.heap.size A2 n2 (digs Y) := hd4
        have F5 := F3.alike (fun B => (Below.refl B W3).drew)
        go_region_held3 (fun w' => w'.cell? ⟨w.heap.size, 0, none⟩ = some (.bool sy) ∧ w'.cell? ⟨w.heap.size, 1, none⟩ = some (.slice A2 n2 c2) ∧ w'.cell? ⟨w.heap.size + 1, 1, none⟩ = some (.slice A1 n1 c1))
          (go_keep)
          (first
            | (go_at_call 73; refine (subDigits_any A2 A1 n2 n1 c2 c1 _ _ _ hd2d hd1d hs2 hs1 HLE.out).mono ?_; rintro e w6 ⟨A6, n6, c6, rfl, hd6, hn6, hc6, hb6⟩; have F6 := F5.call hb6; obtain ⟨p0, p1, p2, p3⟩ := F6.2.1.facts; obtain ⟨q0, q1, q2, q3⟩ := F6.2.2.1.facts)
            | (go_at_call 37; refine (newInt_any _ A6 n6 c6 _ _ hd6 hn6 hc6).mono ?_; rintro e w7 ⟨A7, n7, c7, rfl, hd7, hn7, hc7, hb7⟩; have F7 := F6.call hb7; obtain ⟨p0, p1, p2, p3⟩ := F7.2.1.facts; obtain ⟨q0, q1, q2, q3⟩ := F7.2.2.1.facts; obtain ⟨r0, r1, r2, r3⟩ := F7.2.2.2.1.facts))
        go_wp2
        rw [HZ.out]
        refine bodyPost_ret (v := .agg #[.bool (decide (zOf sy (val (digs (val (digs Y) - val (digs X)))) < 0)), .slice A7 n7 c7]) (by simp [results, Try.results46, go_sem, r0, r1, r2, r3]) rfl ?_
        exact RetZ.end3 F7 rfl hd7 hn7 hc7 _ _
      · have HC : Hid (¬ cmpI (X : Int) Y < 0) := by
          unfold Hid cmpI
          split
          · omega
          · split <;> omega
        obtain ⟨v, HV⟩ : ∃ v, Hid (v = cmpI (X : Int) Y) := ⟨_, rfl⟩
        have hv : ¬ v < 0 := by rw [HV.out]; exact HC.out
        have HZ : Hid (x + y = zOf sx (val (digs (val (digs X) - val (digs Y))))) := by
          unfold Hid
          rw [val_digs, val_digs, val_digs, HX.out, HY.out, HSX.out, zOf_add_diff x y HNE.out (by rw [← HX.out, ← HY.out]; omega)]
        have HLE : Hid (val (digs Y) ≤ val (digs X)) := by unfold Hid; rw [val_digs, val_digs]; omega
        clear hXY
        go_wp2_with (go_at_call 36; (with_reducible refine (compareDigits_any A1 A2 n1 n2 c1 c2 _ _ X Y _ hd1 hd2 (by unfold maxLen; omega) (by unfold maxLen; omega)).mono ?_); rw [← HV.out]; rintro e w3 ⟨rfl, hw3⟩; have F3 := F1.alike (fun B => hw3.below B); obtain ⟨p0, p1, p2, p3⟩ := F3.2.1.facts; obtain ⟨q0, q1, q2, q3⟩ := F3.2.2.1.facts)
        have hd1d : Dgs w3.drew w3.drew.heap.size A1 n1 (digs X) := hw3.dgs' hd1
        have hd2d : Dgs w3.drew w3.drew.heap.size A2 n2 (digs Y) := hw3.dgs' hd2
        have F5 := F3.alike (fun B => (Below.refl B w3).drew)
        go_region_held3 (fun w' => w'.cell? ⟨w.heap.size, 0, none⟩ = some (.bool sx) ∧ w'.cell? ⟨w.heap.size, 1, none⟩ = some (.slice A1 n1 c1) ∧ w'.cell? ⟨w.heap.size + 1, 1, none⟩ = some (.slice A2 n2 c2))
          (go_keep)
          (first
            | (go_at_call 73; refine (subDigits_any A1 A2 n1 n2 c1 c2 _ _ _ hd1d hd2d hs1 hs2 HLE.out).mono ?_; rintro e w6 ⟨A6, n6, c6, rfl, hd6, hn6, hc6, hb6⟩; have F6 := F5.call hb6; obtain ⟨p0, p1, p2, p3⟩ := F6.2.1.facts; obtain ⟨q0, q1, q2, q3⟩ := F6.2.2.1.facts)
            | (go_at_call 37; refine (newInt_any _ A6 n6 c6 _ _ hd6 hn6 hc6).mono ?_; rintro e w7 ⟨A7, n7, c7, rfl, hd7, hn7, hc7, hb7⟩; have F7 := F6.call hb7; obtain ⟨p0, p1, p2, p3⟩ := F7.2.1.facts; obtain ⟨q0, q1, q2, q3⟩ := F7.2.2.1.facts; obtain ⟨r0, r1, r2, r3⟩ := F7.2.2.2.1.facts))
        go_wp2
        rw [HZ.out]
        refine bodyPost_ret (v := .agg #[.bool (decide (zOf sx (val (digs (val (digs X) - val (digs Y)))) < 0)), .slice A7 n7 c7]) (by simp [results, Try.results46, go_sem, r0, r1, r2, r3]) rfl ?_
        exact RetZ.end3 F7 rfl hd7 hn7 hc7 _ _

theorem zOf_not (b : Bool) (v : Nat) : zOf (!b) v = -zOf b v := by cases b <;> simp [zOf]

/-- The sign of a number. -/
def sgn (z : Int) : Int := cmpI z 0
/-- A number is handed back; what was there is as it was. -/
def RetN (w : World) (v : Int) (e : Ending) (w' : World) : Prop := e = .returned (.int .i64 v) ∧ Below w.heap.size w w'

set_option maxHeartbeats 1000000 in
set_option maxRecDepth 100000 in
theorem sign_any (neg : Bool) (A : Option Addr) (n c : Nat) (ds : List Nat) (w : World) (h : Dgs w w.heap.size A n ds) (hc : n ≤ c) (hm : c ≤ maxLen) :
    Calls Try.prog 45 #[.agg #[.bool neg, .slice A n c]] w (RetN w (sgn (zOf neg (val ds)))) := by
  have hcan := fun w' h' => canonical_any neg A n c ds w' h' hc hm
  generalize zOf neg (val ds) = z at hcan ⊢
  by_cases hz : z < 0
  · have HD : Hid (sgn z = -1) := cmpI_lt hz
    have e2 : decide (z < 0) = true := decide_eq_true hz
    go_enter Try.func45, Try.ntmps45
    go_wp2_with (go_at_call 35; refine (hcan _ ((h.alloc (Nat.le_refl _) _).more (by simp))).mono ?_; rintro e w2 ⟨A2, n2, c2, rfl, hd2, hn2, hc2, hb2⟩; have O2 := (Own.new _ _ _ _).below hb2; obtain ⟨q0, q1, q2, q3⟩ := O2.facts)
    go_ret
    rw [HD.out]
    exact ⟨rfl, ((bcall (bnew _ _) hb2).setCell (Nat.le_refl _) _).setCell (Nat.le_refl _) _⟩
  · have e2 : decide (z < 0) = false := decide_eq_false hz
    by_cases hz0 : z = 0
    · have HD : Hid (sgn z = 0) := cmpI_eq hz0
      have HL : Hid ((digs z.natAbs).length = 0) := by rw [hz0]; unfold Hid; simp [digs_zero]
      clear hz0
      go_enter Try.func45, Try.ntmps45
      go_wp2_with (go_at_call 35; refine (hcan _ ((h.alloc (Nat.le_refl _) _).more (by simp))).mono ?_; rintro e w2 ⟨A2, n2, c2, rfl, hd2, hn2, hc2, hb2⟩; have O2 := (Own.new _ _ _ _).below hb2; obtain ⟨q0, q1, q2, q3⟩ := O2.facts; obtain rfl : n2 = 0 := hd2.len.symm.trans HL.out)
      go_ret
      rw [HD.out]
      exact ⟨rfl, ((bcall (bnew _ _) hb2).setCell (Nat.le_refl _) _).setCell (Nat.le_refl _) _⟩
    · have HD : Hid (sgn z = 1) := cmpI_gt (by omega)
      have HLP : Hid (0 < (digs z.natAbs).length) := digs_pos_len (by omega)
      clear hz0
      go_enter Try.func45, Try.ntmps45
      go_wp2_with (go_at_call 35; refine (hcan _ ((h.alloc (Nat.le_refl _) _).more (by simp))).mono ?_; rintro e w2 ⟨A2, n2, c2, rfl, hd2, hn2, hc2, hb2⟩; have O2 := (Own.new _ _ _ _).below hb2; obtain ⟨q0, q1, q2, q3⟩ := O2.facts; have hn20 : 0 < n2 := Nat.lt_of_lt_of_eq HLP.out hd2.len)
      go_ret
      rw [HD.out]
      exact ⟨rfl, ((bcall (bnew _ _) hb2).setCell (Nat.le_refl _) _).setCell (Nat.le_refl _) _⟩

set_option maxHeartbeats 1000000 in
set_option maxRecDepth 100000 in
theorem negate_any (neg : Bool) (A : Option Addr) (n c : Nat) (ds : List Nat) (w : World) (h : Dgs w w.heap.size A n ds) (hc : n ≤ c) (hm : c ≤ maxLen) (hs : n ≤ 1000000) :
    Calls Try.prog 39 #[.agg #[.bool neg, .slice A n c]] w (RetZ w (-zOf neg (val ds))) := by
  have hO : Own ((w.alloc (.cells #[.bool neg, .slice A n c] 24)).alloc (.cells #[.bool false, .slice none 0 0] 24)) (w.heap.size + 1) 24 (.bool false) (.slice none 0 0) := by
    have := Own.new (w.alloc (.cells #[.bool neg, .slice A n c] 24)) 24 (.bool false) (.slice none 0 0)
    rwa [World.size_alloc] at this
  have hO' : Own ((w.alloc (.cells #[.bool neg, .slice A n c] 24)).alloc (.cells #[.bool false, .slice none 0 0] 24)) w.heap.size 24 (.bool neg) (.slice A n c) := (Own.new _ _ _ _).alloc _
  have hd : Dgs ((w.alloc (.cells #[.bool neg, .slice A n c] 24)).alloc (.cells #[.bool false, .slice none 0 0] 24)) ((w.alloc (.cells #[.bool neg, .slice A n c] 24)).alloc (.cells #[.bool false, .slice none 0 0] 24)).heap.size A n ds := (((h.alloc (Nat.le_refl _) _).alloc (by simp) _).more (by simp; omega))
  have hb := bnew2 w (.cells #[.bool neg, .slice A n c] 24) (.cells #[.bool false, .slice none 0 0] 24)
  have HO := Lib.hid hO
  have HO' := Lib.hid hO'
  clear hO hO'
  go_enter Try.func39, Try.ntmps39
  go_wp2
  have O0 := HO.out
  have O1 := HO'.out
  clear HO HO'
  generalize ((w.alloc (.cells #[.bool neg, .slice A n c] 24)).alloc (.cells #[.bool false, .slice none 0 0] 24)) = W0 at O0 O1 hd hb ⊢
  obtain ⟨p0, p1, p2, p3⟩ := O1.facts
  have hz1 : ¬ w.heap.size + 1 = w.heap.size := by omega
  have hdd : Dgs W0.drew W0.drew.heap.size A n ds := hd
  have O0d : Own W0.drew (w.heap.size + 1) 24 (.bool false) (.slice none 0 0) := O0
  have O1d : Own W0.drew w.heap.size 24 (.bool neg) (.slice A n c) := O1
  go_region_held3 (fun w' => w'.cell? ⟨w.heap.size, 0, none⟩ = some (.bool neg) ∧ w'.cell? ⟨w.heap.size, 1, none⟩ = some (.slice A n c))
    (go_keep)
    (first
      | (go_at_call 70; refine (clone_any A n c ds _ hdd hc hm hs).mono ?_; rintro e w6 ⟨A6, n6, c6, rfl, hd6, hn6, hc6, hb6⟩; have O6 := O1d.below hb6; obtain ⟨p0, p1, p2, p3⟩ := O6.facts)
      | (go_at_call 37; refine (newInt_any _ A6 n6 c6 _ _ hd6 hn6 hc6).mono ?_; rintro e w7 ⟨A7, n7, c7, rfl, hd7, hn7, hc7, hb7⟩; have O7 := O6.below hb7; obtain ⟨p0, p1, p2, p3⟩ := O7.facts; have O8 := (O0d.below hb6).below hb7; obtain ⟨r0, r1, r2, r3⟩ := O8.facts))
  go_wp2
  rw [← zOf_not]
  refine bodyPost_ret (v := .agg #[.bool (decide (zOf (!neg) (val ds) < 0)), .slice A7 n7 c7]) (by simp [results, Try.results39, go_sem, r0, r1, r2, r3]) rfl ?_
  exact RetZ.store_ O8 (by omega) rfl hd7 hn7 hc7 (bcall (bcall hb.drew hb6) hb7) _ _

/-- The integer value with this sign and slice denotes z, and has at most a million digits. -/
def IntAt (w : World) (neg : Bool) (A : Option Addr) (n c : Nat) (z : Int) : Prop :=
  ∃ ds, Dgs w w.heap.size A n ds ∧ n ≤ c ∧ c ≤ maxLen ∧ zOf neg (val ds) = z ∧ n ≤ 1000000
section
variable {w w' w'' : World} {neg neg' : Bool} {A A' : Option Addr} {n c n' c' : Nat} {z x y : Int}
theorem IntAt.call (h : IntAt w neg A n c z) (hb : Below w.heap.size w w') : IntAt w' neg A n c z := by
  obtain ⟨ds, h1, h2⟩ := h
  exact ⟨ds, (h1.below hb).more hb.size, h2⟩
theorem IntAt.of_ret (hd : Dgs w w.heap.size A n (digs z.natAbs)) (hc : n ≤ c) (hm : c ≤ maxLen) (hz : (digs z.natAbs).length ≤ 1000000) : IntAt w (decide (z < 0)) A n c z :=
  ⟨_, hd, hc, hm, by rw [val_digs, ← zOf_abs], by rw [← hd.len]; exact hz⟩

theorem add_at (h : IntAt w neg A n c x) (h' : IntAt w neg' A' n' c' y) : Calls Try.prog 46 #[.agg #[.bool neg, .slice A n c], .agg #[.bool neg', .slice A' n' c']] w (RetZ w (x + y)) := by
  obtain ⟨ds, h1, h2, h3, rfl, h5⟩ := h
  obtain ⟨ds', h1', h2', h3', rfl, h5'⟩ := h'
  exact add_any neg neg' A A' n n' c c' ds ds' w h1 h1' h2 h3 h2' h3' h5 h5'
theorem IntAt.zero (hd : Dgs w w.heap.size A n (digs (0 : Int).natAbs)) (hc : n ≤ c) (hm : c ≤ maxLen) : IntAt w false A n c 0 := IntAt.of_ret hd hc hm (by simp [digs_zero])
theorem mul_at (h : IntAt w neg A n c x) (h' : IntAt w neg' A' n' c' y) : Calls Try.prog 34 #[.agg #[.bool neg, .slice A n c], .agg #[.bool neg', .slice A' n' c']] w (RetZ w (x * y)) := by
  obtain ⟨ds, h1, h2, h3, rfl, h5⟩ := h
  obtain ⟨ds', h1', h2', h3', rfl, h5'⟩ := h'
  exact mul_any neg neg' A A' n n' c c' ds ds' w h1 h1' h2 h3 h2' h3' h5 h5'
theorem sign_at (h : IntAt w neg A n c x) : Calls Try.prog 45 #[.agg #[.bool neg, .slice A n c]] w (RetN w (sgn x)) := by
  obtain ⟨ds, h1, h2, h3, rfl, h5⟩ := h
  exact sign_any neg A n c ds w h1 h2 h3

/-- A canonical integer value. -/
def CanAt (w : World) (neg : Bool) (A : Option Addr) (n c : Nat) (z : Int) : Prop :=
  neg = decide (z < 0) ∧ Dgs w w.heap.size A n (digs z.natAbs) ∧ n ≤ c ∧ c ≤ maxLen
theorem CanAt.mk_ (hd : Dgs w w.heap.size A n (digs z.natAbs)) (hc : n ≤ c) (hm : c ≤ maxLen) : CanAt w (decide (z < 0)) A n c z := ⟨rfl, hd, hc, hm⟩
theorem CanAt.call (h : CanAt w neg A n c z) (hb : Below w.heap.size w w') : CanAt w' neg A n c z :=
  ⟨h.1, (h.2.1.below hb).more hb.size, h.2.2⟩
theorem CanAt.at_ (h : CanAt w neg A n c z) (hz : (digs z.natAbs).length ≤ 1000000) : IntAt w neg A n c z := by
  obtain ⟨rfl, h1, h2, h3⟩ := h
  exact IntAt.of_ret h1 h2 h3 hz
/-- A canonical integer in a variable of the call's own. -/
def Box (w : World) (g : Nat) (neg : Bool) (A : Option Addr) (n c : Nat) (z : Int) : Prop := Own w g 24 (.bool neg) (.slice A n c) ∧ CanAt w neg A n c z
theorem Box.call {g : Nat} (h : Box w g neg A n c z) (hb : Below w.heap.size w w') : Box w' g neg A n c z := ⟨h.1.below hb, h.2.call hb⟩
theorem Box.drew {g : Nat} (h : Box w g neg A n c z) : Box w.drew g neg A n c z := h
theorem Box.can {g : Nat} (h : Box w g neg A n c z) : CanAt w neg A n c z := h.2
theorem Box.facts {g : Nat} (h : Box w g neg A n c z) : w.cell? ⟨g, 0, none⟩ = some (.bool neg) ∧ w.cell? ⟨g, 1, none⟩ = some (.slice A n c) := ⟨h.1.facts.1, h.1.facts.2.1⟩
theorem Box.lt {g : Nat} (h : Box w g neg A n c z) : g < w.heap.size := h.1.lt
theorem IntAt.alloc (h : IntAt w neg A n c z) (o : Obj) : IntAt (w.alloc o) neg A n c z := h.call (bnew w o)
theorem IntAt.store (h : IntAt w neg A n c z) {g : Nat} {t : TypeId} {x : Bool} {a : Option Addr} {l k : Nat} (ho : Own w g t (.bool x) (.slice a l k)) (u v : Value) : IntAt ((w.setCell ⟨g, 0, none⟩ u).setCell ⟨g, 1, none⟩ v) neg A n c z := by
  obtain ⟨ds, h1, h2⟩ := h
  exact ⟨ds, h1.storeS ho u v, h2⟩
theorem CanAt.store (h : CanAt w neg A n c z) {g : Nat} {t : TypeId} {x : Bool} {a : Option Addr} {l k : Nat} (ho : Own w g t (.bool x) (.slice a l k)) (u v : Value) : CanAt ((w.setCell ⟨g, 0, none⟩ u).setCell ⟨g, 1, none⟩ v) neg A n c z :=
  ⟨h.1, h.2.1.storeS ho u v, h.2.2⟩
theorem Box.store {p : Nat} (h : Box w p neg A n c z) {g : Nat} {t : TypeId} {x : Bool} {a : Option Addr} {l k : Nat} (ho : Own w g t (.bool x) (.slice a l k)) (hne : p ≠ g) (u v : Value) : Box ((w.setCell ⟨g, 0, none⟩ u).setCell ⟨g, 1, none⟩ v) p neg A n c z :=
  ⟨h.1.far2 hne u v, h.2.store ho u v⟩
theorem Box.stored {g : Nat} {x : Bool} {a : Option Addr} {l k : Nat} (ho : Own w g 24 (.bool x) (.slice a l k)) (hn : neg = decide (z < 0)) (hd : Dgs w w.heap.size A n (digs z.natAbs)) (hc : n ≤ c) (hm : c ≤ maxLen) :
    Box ((w.setCell ⟨g, 0, none⟩ (.bool neg)).setCell ⟨g, 1, none⟩ (.slice A n c)) g neg A n c z :=
  ⟨ho.set2 _ _, hn, hd.storeS ho _ _, hc, hm⟩
theorem Box.new (hn : neg = decide (z < 0)) (hd : Dgs w w.heap.size A n (digs z.natAbs)) (hc : n ≤ c) (hm : c ≤ maxLen) : Box (w.alloc (.cells #[.bool neg, .slice A n c] 24)) w.heap.size neg A n c z :=
  ⟨Own.new _ _ _ _, hn, (hd.alloc (Nat.le_refl _) _).more (by simp), hc, hm⟩

/-- The three arguments in the call's own variables. -/
def Env (w w' : World) (x1 x2 x3 : Bool) (A1 A2 A3 : Option Addr) (n1 c1 n2 c2 n3 c3 : Nat) (a b c : Int) : Prop :=
  Own w' w.heap.size 24 (.bool x1) (.slice A1 n1 c1) ∧ Own w' (w.heap.size + 1) 24 (.bool x2) (.slice A2 n2 c2) ∧ Own w' (w.heap.size + 1 + 1) 24 (.bool x3) (.slice A3 n3 c3) ∧
    IntAt w' x1 A1 n1 c1 a ∧ IntAt w' x2 A2 n2 c2 b ∧ IntAt w' x3 A3 n3 c3 c ∧ Below w.heap.size w w'
section
variable {x1 x2 x3 : Bool} {A1 A2 A3 : Option Addr} {n1 c1 n2 c2 n3 c3 : Nat} {a b cc : Int}
theorem Env.call (h : Env w w' x1 x2 x3 A1 A2 A3 n1 c1 n2 c2 n3 c3 a b cc) (hb : Below w'.heap.size w' w'') : Env w w'' x1 x2 x3 A1 A2 A3 n1 c1 n2 c2 n3 c3 a b cc := by
  obtain ⟨h1, h2, h3, h4, h5, h6, h7⟩ := h
  exact ⟨h1.below hb, h2.below hb, h3.below hb, h4.call hb, h5.call hb, h6.call hb, bcall h7 hb⟩
theorem Env.drew (h : Env w w' x1 x2 x3 A1 A2 A3 n1 c1 n2 c2 n3 c3 a b cc) : Env w w'.drew x1 x2 x3 A1 A2 A3 n1 c1 n2 c2 n3 c3 a b cc := by
  obtain ⟨h1, h2, h3, h4, h5, h6, h7⟩ := h
  exact ⟨h1, h2, h3, h4, h5, h6, h7.drew⟩
theorem Env.alloc (h : Env w w' x1 x2 x3 A1 A2 A3 n1 c1 n2 c2 n3 c3 a b cc) (o : Obj) : Env w (w'.alloc o) x1 x2 x3 A1 A2 A3 n1 c1 n2 c2 n3 c3 a b cc := h.call (bnew w' o)
theorem Env.ia (h : Env w w' x1 x2 x3 A1 A2 A3 n1 c1 n2 c2 n3 c3 a b cc) : IntAt w' x1 A1 n1 c1 a := h.2.2.2.1
theorem Env.ib (h : Env w w' x1 x2 x3 A1 A2 A3 n1 c1 n2 c2 n3 c3 a b cc) : IntAt w' x2 A2 n2 c2 b := h.2.2.2.2.1
theorem Env.ic (h : Env w w' x1 x2 x3 A1 A2 A3 n1 c1 n2 c2 n3 c3 a b cc) : IntAt w' x3 A3 n3 c3 cc := h.2.2.2.2.2.1
theorem Env.lt (h : Env w w' x1 x2 x3 A1 A2 A3 n1 c1 n2 c2 n3 c3 a b cc) : w.heap.size + 1 + 1 < w'.heap.size := h.2.2.1.lt
theorem Env.store (h : Env w w' x1 x2 x3 A1 A2 A3 n1 c1 n2 c2 n3 c3 a b cc) {g : Nat} {t : TypeId} {x : Bool} {l : Option Addr} {k m : Nat} (ho : Own w' g t (.bool x) (.slice l k m)) (hg : w.heap.size + 1 + 1 < g) (u v : Value) :
    Env w ((w'.setCell ⟨g, 0, none⟩ u).setCell ⟨g, 1, none⟩ v) x1 x2 x3 A1 A2 A3 n1 c1 n2 c2 n3 c3 a b cc := by
  obtain ⟨h1, h2, h3, h4, h5, h6, h7⟩ := h
  exact ⟨h1.far2 (by omega) u v, h2.far2 (by omega) u v, h3.far2 (by omega) u v, h4.store ho u v, h5.store ho u v, h6.store ho u v, (h7.setCell (p := ⟨g, 0, none⟩) (by show _ ≤ g; omega) _).setCell (p := ⟨g, 1, none⟩) (by show _ ≤ g; omega) _⟩
theorem Env.facts (h : Env w w' x1 x2 x3 A1 A2 A3 n1 c1 n2 c2 n3 c3 a b cc) :
    w'.cell? ⟨w.heap.size, 0, none⟩ = some (.bool x1) ∧ w'.cell? ⟨w.heap.size, 1, none⟩ = some (.slice A1 n1 c1) ∧ w'.cell? ⟨w.heap.size + 1, 0, none⟩ = some (.bool x2) ∧ w'.cell? ⟨w.heap.size + 1, 1, none⟩ = some (.slice A2 n2 c2) ∧
    w'.cell? ⟨w.heap.size + 1 + 1, 0, none⟩ = some (.bool x3) ∧ w'.cell? ⟨w.heap.size + 1 + 1, 1, none⟩ = some (.slice A3 n3 c3) := by
  obtain ⟨h1, h2, h3, _⟩ := h
  exact ⟨h1.facts.1, h1.facts.2.1, h2.facts.1, h2.facts.2.1, h3.facts.1, h3.facts.2.1⟩
end
end

/-- Fewer than so many digits. -/
def Sz (z : Int) (k : Nat) : Prop := z.natAbs < BB ^ k
theorem Sz.len {z : Int} {k : Nat} (h : Sz z k) : (digs z.natAbs).length ≤ k := digs_length_le h
theorem Sz.add {x y : Int} {k : Nat} (h : Sz x k) (h' : Sz y k) : Sz (x + y) (k + 1) := by
  unfold Sz at *
  have e : BB ^ (k + 1) = BB ^ k * 4294967296 := by rw [Nat.pow_succ, BB_eq]
  have hp : 0 < BB ^ k := Nat.pow_pos BB_pos
  rw [e]; omega
theorem Sz.mul {x y : Int} {k l : Nat} (h : Sz x k) (h' : Sz y l) : Sz (x * y) (k + l) := by
  unfold Sz at *
  rw [Int.natAbs_mul, Nat.pow_add]
  exact Nat.mul_lt_mul'' h h'
theorem Sz.mono {x : Int} {k l : Nat} (h : Sz x k) (hkl : k ≤ l) : Sz x l := Nat.lt_of_lt_of_le h (Nat.pow_le_pow_right BB_pos hkl)
theorem Sz.neg {x : Int} {k : Nat} (h : Sz x k) : Sz (-x) k := by unfold Sz at *; omega
theorem Sz.sub {x y : Int} {k : Nat} (h : Sz x k) (h' : Sz y k) : Sz (x - y) (k + 1) := by rw [Int.sub_eq_add_neg]; exact h.add h'.neg
theorem sz_of {w : World} {B n : Nat} {A : Option Addr} {ds : List Nat} (h : Dgs w B A n ds) (neg : Bool) : Sz (zOf neg (val ds)) n := by
  unfold Sz; rw [zOf_natAbs, ← h.len]; exact val_lt h.dig
end Go.Proofs.Ytgjkgmlcfieodaa

