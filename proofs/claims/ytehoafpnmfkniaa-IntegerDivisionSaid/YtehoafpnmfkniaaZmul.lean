/-
  Sums, differences, products, signs and the order of integers.
-/
import Derived.Test.YtehoafpnmfkniaaAdd
import Derived.Test.YtehoafpnmfkniaaSub
import Derived.Test.YtehoafpnmfkniaaMul
import Derived.Test.YtehoafpnmfkniaaDivM
set_option linter.unusedVariables false
set_option linter.unusedSimpArgs false
namespace Go.Proofs.Ytehoafpnmfkniaa
open Go.RowKit

/-- Two integers in variables of the call's own, and one more for the result. -/
def Three (w w' : World) (g : Nat) (a0 a1 b0 b1 c0 c1 : Value) : Prop :=
  w.heap.size ≤ g ∧ Own w' g 24 a0 a1 ∧ Own w' (g + 1) 24 b0 b1 ∧ Own w' (g + 1 + 1) 24 c0 c1 ∧ Below w.heap.size w w'
section
variable {w w' w'' : World} {g : Nat} {a0 a1 b0 b1 c0 c1 : Value}
theorem Three.call (h : Three w w' g a0 a1 b0 b1 c0 c1) (hb : Below w'.heap.size w' w'') : Three w w'' g a0 a1 b0 b1 c0 c1 := by
  obtain ⟨h0, h1, h2, h3, h5⟩ := h
  exact ⟨h0, h1.below hb, h2.below hb, h3.below hb, bcall h5 hb⟩
theorem Three.alike (h : Three w w' g a0 a1 b0 b1 c0 c1) (hb : ∀ B, Below B w' w'') : Three w w'' g a0 a1 b0 b1 c0 c1 := h.call (hb _)
theorem Three.setA (h : Three w w' g a0 a1 b0 b1 c0 c1) (u v : Value) : Three w ((w'.setCell ⟨g, 0, none⟩ u).setCell ⟨g, 1, none⟩ v) g u v b0 b1 c0 c1 := by
  obtain ⟨h0, h1, h2, h3, h5⟩ := h
  exact ⟨h0, h1.set2 u v, h2.far2 (by omega) u v, h3.far2 (by omega) u v, (h5.setCell h0 _).setCell h0 _⟩
theorem Three.setB (h : Three w w' g a0 a1 b0 b1 c0 c1) (u v : Value) : Three w ((w'.setCell ⟨g + 1, 0, none⟩ u).setCell ⟨g + 1, 1, none⟩ v) g a0 a1 u v c0 c1 := by
  obtain ⟨h0, h1, h2, h3, h5⟩ := h
  exact ⟨h0, h1.far2 (by omega) u v, h2.set2 u v, h3.far2 (by omega) u v, (h5.setCell (p := ⟨g + 1, 0, none⟩) (by show _ ≤ g + 1; omega) _).setCell (p := ⟨g + 1, 1, none⟩) (by show _ ≤ g + 1; omega) _⟩
theorem Three.new (w : World) (a0 a1 b0 b1 c0 c1 : Value) :
    Three w (((w.alloc (.cells #[a0, a1] 24)).alloc (.cells #[b0, b1] 24)).alloc (.cells #[c0, c1] 24)) w.heap.size a0 a1 b0 b1 c0 c1 := by
  refine ⟨Nat.le_refl _, ((Own.new _ _ _ _).alloc _).alloc _, ?_, ?_, ?_⟩
  · have := (Own.new (w.alloc (.cells #[a0, a1] 24)) 24 b0 b1).alloc (.cells #[c0, c1] 24); simpa using this
  · have := Own.new ((w.alloc (.cells #[a0, a1] 24)).alloc (.cells #[b0, b1] 24)) 24 c0 c1; simpa using this
  · exact (bnew2 _ _ _).alloc (by simp; omega) _
end

/-- Both integers are canonical, the variable of the result is as it was. -/
def Can3 (w wx : World) (x y : Int) : Prop :=
  ∃ A1 n1 c1 A2 n2 c2, Three w wx w.heap.size (.bool (decide (x < 0))) (.slice A1 n1 c1) (.bool (decide (y < 0))) (.slice A2 n2 c2) (.bool false) (.slice none 0 0) ∧
    Dgs wx wx.heap.size A1 n1 (digs x.natAbs) ∧ n1 ≤ c1 ∧ c1 ≤ maxLen ∧ Dgs wx wx.heap.size A2 n2 (digs y.natAbs) ∧ n2 ≤ c2 ∧ c2 ≤ maxLen

theorem digs_val_le {ds : List Nat} {n : Nat} (hd : Dig ds) (hl : ds.length = n) (hs : n ≤ 1000000) : (digs (val ds)).length ≤ 1000000 := by
  have h := val_lt hd
  rw [hl] at h
  have := digs_length_le h
  omega

theorem zOf_add_same (x y : Int) (h : decide (x < 0) = decide (y < 0)) : zOf (decide (x < 0)) (x.natAbs + y.natAbs) = x + y := by
  have h' : x < 0 ↔ y < 0 := by simpa using h
  unfold zOf; by_cases hx : x < 0 <;> simp [hx] <;> omega
theorem zOf_add_diff (x y : Int) (h : decide (x < 0) ≠ decide (y < 0)) (hle : y.natAbs ≤ x.natAbs) : zOf (decide (x < 0)) (x.natAbs - y.natAbs) = x + y := by
  have h' : ¬ (x < 0 ↔ y < 0) := by simpa using h
  unfold zOf; by_cases hx : x < 0 <;> simp [hx] <;> omega
theorem zOf_mul (x y : Int) : zOf (!(decide (x < 0) == decide (y < 0))) (x.natAbs * y.natAbs) = x * y := by
  rcases Int.lt_or_le x 0 with hx | hx <;> rcases Int.lt_or_le y 0 with hy | hy
  · have e1 : x = -(x.natAbs : Int) := by omega
    have e2 : y = -(y.natAbs : Int) := by omega
    have h1 : decide (x < 0) = true := by simp [hx]
    have h2 : decide (y < 0) = true := by simp [hy]
    rw [h1, h2]
    show (((x.natAbs * y.natAbs : Nat) : Int)) = x * y
    rw [Int.natCast_mul]
    conv => rhs; rw [e1, e2, Int.neg_mul_neg]
  · have e1 : x = -(x.natAbs : Int) := by omega
    have e2 : y = (y.natAbs : Int) := by omega
    have h1 : decide (x < 0) = true := by simp [hx]
    have h2 : decide (y < 0) = false := by simp; omega
    rw [h1, h2]
    show -(((x.natAbs * y.natAbs : Nat) : Int)) = x * y
    rw [Int.natCast_mul]
    conv => rhs; rw [e1, e2, Int.neg_mul]
  · have e1 : x = (x.natAbs : Int) := by omega
    have e2 : y = -(y.natAbs : Int) := by omega
    have h1 : decide (x < 0) = false := by simp; omega
    have h2 : decide (y < 0) = true := by simp [hy]
    rw [h1, h2]
    show -(((x.natAbs * y.natAbs : Nat) : Int)) = x * y
    rw [Int.natCast_mul]
    conv => rhs; rw [e1, e2, Int.mul_neg]
  · have e1 : x = (x.natAbs : Int) := by omega
    have e2 : y = (y.natAbs : Int) := by omega
    have h1 : decide (x < 0) = false := by simp; omega
    have h2 : decide (y < 0) = false := by simp; omega
    rw [h1, h2]
    show (((x.natAbs * y.natAbs : Nat) : Int)) = x * y
    rw [Int.natCast_mul, ← e1, ← e2]

theorem RetZ.end3 {w w5 : World} {a0 a1 b0 b1 : Value} {x1 : Bool} {s1 : Option Addr} {l1 k1 : Nat} {A : Option Addr} {n c : Nat} {z : Int} {neg : Bool}
    (F : Three w w5 w.heap.size a0 a1 b0 b1 (.bool x1) (.slice s1 l1 k1)) (hn : neg = decide (z < 0))
    (hd : Dgs w5 w5.heap.size A n (digs z.natAbs)) (hc : n ≤ c) (hm : c ≤ maxLen) (u v : Value) :
    RetZ w z (.returned (.agg #[.bool neg, .slice A n c])) ((w5.setCell ⟨w.heap.size + 1 + 1, 0, none⟩ u).setCell ⟨w.heap.size + 1 + 1, 1, none⟩ v) :=
  RetZ.store_ F.2.2.2.1 (by omega) hn hd hc hm F.2.2.2.2 u v

set_option maxHeartbeats 2000000 in
set_option maxRecDepth 100000 in
theorem mul_any (neg neg' : Bool) (A A' : Option Addr) (n n' c c' : Nat) (da db : List Nat) (w : World) (h : Dgs w w.heap.size A n da) (h' : Dgs w w.heap.size A' n' db) (hc : n ≤ c) (hm : c ≤ maxLen) (hc' : n' ≤ c') (hm' : c' ≤ maxLen) (hs : n ≤ 1000000) (hs' : n' ≤ 1000000) :
    Calls Try.prog 23 #[.agg #[.bool neg, .slice A n c], .agg #[.bool neg', .slice A' n' c']] w (RetZ w (zOf neg (val da) * zOf neg' (val db))) := by
  have HF0 := Lib.hid (Three.new w (.bool neg) (.slice A n c) (.bool neg') (.slice A' n' c') (.bool false) (.slice none 0 0))
  go_enter Try.func23, Try.ntmps23
  go_upto_region 1 with fail
  have F0 := HF0.out
  clear HF0
  generalize (((w.alloc (.cells #[.bool neg, .slice A n c] 24)).alloc (.cells #[.bool neg', .slice A' n' c'] 24)).alloc (.cells #[.bool false, .slice none 0 0] 24)) = W0 at F0 ⊢
  have hA0 := (h.below F0.2.2.2.2).more F0.2.2.2.2.size
  have hB0 := (h'.below F0.2.2.2.2).more F0.2.2.2.2.size
  obtain ⟨p0, p1, p2, p3⟩ := F0.2.1.facts
  obtain ⟨q0, q1, q2, q3⟩ := F0.2.2.1.facts
  have F0d := F0.alike (fun B => (Below.refl B W0).drew)
  have hA0d : Dgs W0.drew W0.drew.heap.size A n da := hA0
  have hB0d : Dgs W0.drew W0.drew.heap.size A' n' db := hB0
  clear hA0 hB0
  go_cut [] (fun wx => Can3 w wx (zOf neg (val da)) (zOf neg' (val db)))
  case first =>
    go_region_with (first
      | (go_at_call_of 77 (Value.agg #[Value.bool neg, Value.slice A n c]); refine (canonical_any neg A n c da _ hA0d hc hm).mono ?_; rintro e w1 ⟨A1, n1, c1, rfl, hd1, hn1, hc1, hb1⟩; have F1 := F0d.call hb1; obtain ⟨p0, p1, p2, p3⟩ := F1.2.1.facts; obtain ⟨q0, q1, q2, q3⟩ := F1.2.2.1.facts; have hB1 := (hB0d.below hb1).more hb1.size)
      | (go_at_call_of 77 (Value.agg #[Value.bool neg', Value.slice A' n' c']); refine (canonical_any neg' A' n' c' db _ hB1 hc' hm').mono ?_; rintro e w2 ⟨A2, n2, c2, rfl, hd2, hn2, hc2, hb2⟩; have F2 := F1.call hb2; obtain ⟨p0, p1, p2, p3⟩ := F2.2.1.facts; obtain ⟨q0, q1, q2, q3⟩ := F2.2.2.1.facts))
    all_goals (go_wp2_with fail; go_meet; exact ⟨A1, n1, c1, A2, n2, c2, (F2.setA _ _).setB _ _, (Dgs.storeS ((hd1.below hb2).more hb2.size) F2.2.1 _ _).storeS (F2.setA _ _).2.2.1 _ _, hn1, hc1, (Dgs.storeS hd2 F2.2.1 _ _).storeS (F2.setA _ _).2.2.1 _ _, hn2, hc2⟩)
  case rest =>
    clear F0 F0d hA0d hB0d p0 p1 p2 p3 q0 q1 q2 q3 W0
    have hX0 : (digs (zOf neg (val da)).natAbs).length ≤ 1000000 := by rw [zOf_natAbs]; exact digs_val_le h.dig h.len hs
    have hY0 : (digs (zOf neg' (val db)).natAbs).length ≤ 1000000 := by rw [zOf_natAbs]; exact digs_val_le h'.dig h'.len hs'
    generalize zOf neg (val da) = x at *
    generalize zOf neg' (val db) = y at *
    clear h h'
    obtain ⟨A1, n1, c1, A2, n2, c2, F1, hd1, hn1, hc1, hd2, hn2, hc2⟩ := hcut
    have hs1 : n1 ≤ 1000000 := by rw [← hd1.len]; exact hX0
    have hs2 : n2 ≤ 1000000 := by rw [← hd2.len]; exact hY0
    obtain ⟨X, HX⟩ : ∃ X, Hid (X = x.natAbs) := ⟨_, rfl⟩
    obtain ⟨Y, HY⟩ : ∃ Y, Hid (Y = y.natAbs) := ⟨_, rfl⟩
    obtain ⟨sx, HSX⟩ : ∃ s, Hid (s = decide (x < 0)) := ⟨_, rfl⟩
    obtain ⟨sy, HSY⟩ : ∃ s, Hid (s = decide (y < 0)) := ⟨_, rfl⟩
    rw [← HX.out] at hd1
    rw [← HY.out] at hd2
    rw [← HSX.out, ← HSY.out] at F1
    obtain ⟨p0, p1, p2, p3⟩ := F1.2.1.facts
    obtain ⟨q0, q1, q2, q3⟩ := F1.2.2.1.facts
    obtain ⟨r0, r1, r2, r3⟩ := F1.2.2.2.1.facts
    have hz2 : ¬ w.heap.size + 1 + 1 = w.heap.size := by omega
    have hz3 : ¬ w.heap.size + 1 + 1 = w.heap.size + 1 := by omega
    have hd1d : Dgs wc.drew wc.drew.heap.size A1 n1 (digs X) := hd1
    have hd2d : Dgs wc.drew wc.drew.heap.size A2 n2 (digs Y) := hd2
    have HZ : Hid (x * y = zOf (!(sx == sy)) (val (digs (val (digs X) * val (digs Y))))) := by
      unfold Hid
      rw [val_digs, val_digs, val_digs, HX.out, HY.out, HSX.out, HSY.out, zOf_mul]
    go_wp2
    have F5 := F1.alike (fun B => (Below.refl B wc).drew)
    go_region_held3 (fun w' => w'.cell? ⟨w.heap.size, 0, none⟩ = some (.bool sx) ∧ w'.cell? ⟨w.heap.size, 1, none⟩ = some (.slice A1 n1 c1) ∧ w'.cell? ⟨w.heap.size + 1, 0, none⟩ = some (.bool sy) ∧ w'.cell? ⟨w.heap.size + 1, 1, none⟩ = some (.slice A2 n2 c2))
      (go_keep)
      (first
        | (go_at_call 89; refine (mulDigits_any A1 A2 n1 n2 c1 c2 _ _ _ hd1d hd2d hs1 hs2).mono ?_; rintro e w6 ⟨A6, n6, c6, rfl, hd6, hn6, hc6, hb6⟩; have F6 := F5.call hb6; obtain ⟨p0, p1, p2, p3⟩ := F6.2.1.facts; obtain ⟨q0, q1, q2, q3⟩ := F6.2.2.1.facts)
        | (go_at_call 82; refine (newInt_any _ A6 n6 c6 _ _ hd6 hn6 hc6).mono ?_; rintro e w7 ⟨A7, n7, c7, rfl, hd7, hn7, hc7, hb7⟩; have F7 := F6.call hb7; obtain ⟨p0, p1, p2, p3⟩ := F7.2.1.facts; obtain ⟨q0, q1, q2, q3⟩ := F7.2.2.1.facts; obtain ⟨r0, r1, r2, r3⟩ := F7.2.2.2.1.facts))
    go_wp2
    rw [HZ.out]
    refine bodyPost_ret (v := .agg #[.bool (decide (zOf (!(sx == sy)) (val (digs (val (digs X) * val (digs Y)))) < 0)), .slice A7 n7 c7]) (by simp [results, Try.results23, go_sem, r0, r1, r2, r3]) rfl ?_
    exact RetZ.end3 F7 rfl hd7 hn7 hc7 _ _
end Go.Proofs.Ytehoafpnmfkniaa
