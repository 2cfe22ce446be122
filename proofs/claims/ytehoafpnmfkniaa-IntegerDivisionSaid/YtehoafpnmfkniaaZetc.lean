/-
  Differences, signs, negatives and absolute values of integers.
-/
import Derived.Test.YtehoafpnmfkniaaZadd
import Derived.Test.YtehoafpnmfkniaaClone
set_option linter.unusedVariables false
set_option linter.unusedSimpArgs false
namespace Go.Proofs.Ytehoafpnmfkniaa
open Go.RowKit

theorem zOf_not (b : Bool) (v : Nat) : zOf (!b) v = -zOf b v := by cases b <;> simp [zOf]

set_option maxHeartbeats 1000000 in
set_option maxRecDepth 100000 in
theorem sub_any (neg neg' : Bool) (A A' : Option Addr) (n n' c c' : Nat) (da db : List Nat) (w : World) (h : Dgs w w.heap.size A n da) (h' : Dgs w w.heap.size A' n' db) (hc : n ≤ c) (hm : c ≤ maxLen) (hc' : n' ≤ c') (hm' : c' ≤ maxLen) (hs : n ≤ 1000000) (hs' : n' ≤ 1000000) :
    Calls Try.prog 93 #[.agg #[.bool neg, .slice A n c], .agg #[.bool neg', .slice A' n' c']] w (RetZ w (zOf neg (val da) - zOf neg' (val db))) := by
  have F0 := Three.new w (.bool neg) (.slice A n c) (.bool (!neg')) (.slice A' n' c') (.bool false) (.slice none 0 0)
  have hA0 := (h.below F0.2.2.2.2).more F0.2.2.2.2.size
  have hB0 := (h'.below F0.2.2.2.2).more F0.2.2.2.2.size
  have HZ : Hid (zOf neg (val da) - zOf neg' (val db) = zOf neg (val da) + zOf (!neg') (val db)) := by unfold Hid; rw [zOf_not]; omega
  have HF0 := Lib.hid F0
  clear F0
  go_enter Try.func93, Try.ntmps93
  go_wp2_with (go_at_call 22; (with_reducible refine (add_any neg (!neg') A A' n n' c c' da db _ hA0 hB0 hc hm hc' hm' hs hs').mono ?_); rintro e w6 ⟨A6, n6, c6, rfl, hd6, hn6, hc6, hb6⟩; have F6 := HF0.out.call hb6; obtain ⟨r0, r1, r2, r3⟩ := F6.2.2.2.1.facts)
  rw [HZ.out]
  refine bodyPost_ret (v := .agg #[.bool (decide (zOf neg (val da) + zOf (!neg') (val db) < 0)), .slice A6 n6 c6]) (by simp [results, Try.results93, go_sem, r0, r1, r2, r3]) rfl ?_
  exact RetZ.end3 F6 rfl hd6 hn6 hc6 _ _

/-- The sign of a number. -/
def sgn (z : Int) : Int := cmpI z 0
/-- A number is handed back; what was there is as it was. -/
def RetN (w : World) (v : Int) (e : Ending) (w' : World) : Prop := e = .returned (.int .i64 v) ∧ Below w.heap.size w w'

set_option maxHeartbeats 1000000 in
set_option maxRecDepth 100000 in
theorem sign_any (neg : Bool) (A : Option Addr) (n c : Nat) (ds : List Nat) (w : World) (h : Dgs w w.heap.size A n ds) (hc : n ≤ c) (hm : c ≤ maxLen) :
    Calls Try.prog 21 #[.agg #[.bool neg, .slice A n c]] w (RetN w (sgn (zOf neg (val ds)))) := by
  have hcan := fun w' h' => canonical_any neg A n c ds w' h' hc hm
  generalize zOf neg (val ds) = z at hcan ⊢
  by_cases hz : z < 0
  · have HD : Hid (sgn z = -1) := cmpI_lt hz
    have e2 : decide (z < 0) = true := decide_eq_true hz
    go_enter Try.func21, Try.ntmps21
    go_wp2_with (go_at_call 77; refine (hcan _ ((h.alloc (Nat.le_refl _) _).more (by simp))).mono ?_; rintro e w2 ⟨A2, n2, c2, rfl, hd2, hn2, hc2, hb2⟩; have O2 := (Own.new _ _ _ _).below hb2; obtain ⟨q0, q1, q2, q3⟩ := O2.facts)
    go_ret
    rw [HD.out]
    exact ⟨rfl, ((bcall (bnew _ _) hb2).setCell (Nat.le_refl _) _).setCell (Nat.le_refl _) _⟩
  · have e2 : decide (z < 0) = false := decide_eq_false hz
    by_cases hz0 : z = 0
    · have HD : Hid (sgn z = 0) := cmpI_eq hz0
      have HL : Hid ((digs z.natAbs).length = 0) := by rw [hz0]; unfold Hid; simp [digs_zero]
      clear hz0
      go_enter Try.func21, Try.ntmps21
      go_wp2_with (go_at_call 77; refine (hcan _ ((h.alloc (Nat.le_refl _) _).more (by simp))).mono ?_; rintro e w2 ⟨A2, n2, c2, rfl, hd2, hn2, hc2, hb2⟩; have O2 := (Own.new _ _ _ _).below hb2; obtain ⟨q0, q1, q2, q3⟩ := O2.facts; obtain rfl : n2 = 0 := hd2.len.symm.trans HL.out)
      go_ret
      rw [HD.out]
      exact ⟨rfl, ((bcall (bnew _ _) hb2).setCell (Nat.le_refl _) _).setCell (Nat.le_refl _) _⟩
    · have HD : Hid (sgn z = 1) := cmpI_gt (by omega)
      have HLP : Hid (0 < (digs z.natAbs).length) := digs_pos_len (by omega)
      clear hz0
      go_enter Try.func21, Try.ntmps21
      go_wp2_with (go_at_call 77; refine (hcan _ ((h.alloc (Nat.le_refl _) _).more (by simp))).mono ?_; rintro e w2 ⟨A2, n2, c2, rfl, hd2, hn2, hc2, hb2⟩; have O2 := (Own.new _ _ _ _).below hb2; obtain ⟨q0, q1, q2, q3⟩ := O2.facts; have hn20 : 0 < n2 := Nat.lt_of_lt_of_eq HLP.out hd2.len)
      go_ret
      rw [HD.out]
      exact ⟨rfl, ((bcall (bnew _ _) hb2).setCell (Nat.le_refl _) _).setCell (Nat.le_refl _) _⟩

set_option maxHeartbeats 1000000 in
set_option maxRecDepth 100000 in
theorem abs_any (neg : Bool) (A : Option Addr) (n c : Nat) (ds : List Nat) (w : World) (h : Dgs w w.heap.size A n ds) (hc : n ≤ c) (hm : c ≤ maxLen) (hs : n ≤ 1000000) :
    Calls Try.prog 25 #[.agg #[.bool neg, .slice A n c]] w (RetZ w (val ds : Nat)) := by
  have hO : Own ((w.alloc (.cells #[.bool neg, .slice A n c] 24)).alloc (.cells #[.bool false, .slice none 0 0] 24)) (w.heap.size + 1) 24 (.bool false) (.slice none 0 0) := by
    have := Own.new (w.alloc (.cells #[.bool neg, .slice A n c] 24)) 24 (.bool false) (.slice none 0 0)
    rwa [World.size_alloc] at this
  have HO := Lib.hid hO
  clear hO
  go_enter Try.func25, Try.ntmps25
  go_wp2_with (first
    | (go_at_call 90; (with_reducible refine (clone_any A n c ds _ (((h.alloc (Nat.le_refl _) _).alloc (by simp) _).more (by simp; omega)) hc hm hs).mono ?_); rintro e w6 ⟨A6, n6, c6, rfl, hd6, hn6, hc6, hb6⟩)
    | (go_at_call 82; (with_reducible refine (newInt_any _ A6 n6 c6 _ _ hd6 hn6 hc6).mono ?_); rintro e w7 ⟨A7, n7, c7, rfl, hd7, hn7, hc7, hb7⟩; have O7 := (HO.out.below hb6).below hb7; obtain ⟨r0, r1, r2, r3⟩ := O7.facts))
  refine bodyPost_ret (v := .agg #[.bool (decide (zOf false (val ds) < 0)), .slice A7 n7 c7]) (by simp [results, Try.results25, go_sem, r0, r1, r2, r3]) rfl ?_
  exact RetZ.store_ O7 (by omega) rfl hd7 hn7 hc7 (bcall (bcall (bnew2 _ _ _) hb6) hb7) _ _

set_option maxHeartbeats 1000000 in
set_option maxRecDepth 100000 in
theorem negate_any (neg : Bool) (A : Option Addr) (n c : Nat) (ds : List Nat) (w : World) (h : Dgs w w.heap.size A n ds) (hc : n ≤ c) (hm : c ≤ maxLen) (hs : n ≤ 1000000) :
    Calls Try.prog 119 #[.agg #[.bool neg, .slice A n c]] w (RetZ w (-zOf neg (val ds))) := by
  have hO : Own ((w.alloc (.cells #[.bool neg, .slice A n c] 24)).alloc (.cells #[.bool false, .slice none 0 0] 24)) (w.heap.size + 1) 24 (.bool false) (.slice none 0 0) := by
    have := Own.new (w.alloc (.cells #[.bool neg, .slice A n c] 24)) 24 (.bool false) (.slice none 0 0)
    rwa [World.size_alloc] at this
  have hO' : Own ((w.alloc (.cells #[.bool neg, .slice A n c] 24)).alloc (.cells #[.bool false, .slice none 0 0] 24)) w.heap.size 24 (.bool neg) (.slice A n c) := (Own.new _ _ _ _).alloc _
  have hd : Dgs ((w.alloc (.cells #[.bool neg, .slice A n c] 24)).alloc (.cells #[.bool false, .slice none 0 0] 24)) ((w.alloc (.cells #[.bool neg, .slice A n c] 24)).alloc (.cells #[.bool false, .slice none 0 0] 24)).heap.size A n ds := (((h.alloc (Nat.le_refl _) _).alloc (by simp) _).more (by simp; omega))
  have hb := bnew2 w (.cells #[.bool neg, .slice A n c] 24) (.cells #[.bool false, .slice none 0 0] 24)
  have HO := Lib.hid hO
  have HO' := Lib.hid hO'
  clear hO hO'
  go_enter Try.func119, Try.ntmps119
  go_wp2
  have O0 := HO.out
  have O1 := HO'.out
  clear HO HO'
  generalize ((w.alloc (.cells #[.bool neg, .slice A n c] 24)).alloc (.cells #[.bool false, .slice none 0 0] 24)) = W0 at O0 O1 hd hb ⊢
  obtain ⟨p0, p1, p2, p3⟩ := O1.facts
  have hz1 : ¬ w.heap.size + 1 = w.heap.size := by omega
  have hdd : Dgs W0.drew W0.drew.heap.size A n ds := hd
  have O0d : Own W0.drew (w.heap.size + 1) 24 (.bool false) (.slice none 0 0) := O0
  have O1d : Own W0.drew w.heap.size 24 (.bool neg) (.slice A n c) := O1
  go_region_held3 (fun w' => w'.cell? ⟨w.heap.size, 0, none⟩ = some (.bool neg) ∧ w'.cell? ⟨w.heap.size, 1, none⟩ = some (.slice A n c))
    (go_keep)
    (first
      | (go_at_call 90; refine (clone_any A n c ds _ hdd hc hm hs).mono ?_; rintro e w6 ⟨A6, n6, c6, rfl, hd6, hn6, hc6, hb6⟩; have O6 := O1d.below hb6; obtain ⟨p0, p1, p2, p3⟩ := O6.facts)
      | (go_at_call 82; refine (newInt_any _ A6 n6 c6 _ _ hd6 hn6 hc6).mono ?_; rintro e w7 ⟨A7, n7, c7, rfl, hd7, hn7, hc7, hb7⟩; have O7 := O6.below hb7; obtain ⟨p0, p1, p2, p3⟩ := O7.facts; have O8 := (O0d.below hb6).below hb7; obtain ⟨r0, r1, r2, r3⟩ := O8.facts))
  go_wp2
  rw [← zOf_not]
  refine bodyPost_ret (v := .agg #[.bool (decide (zOf (!neg) (val ds) < 0)), .slice A7 n7 c7]) (by simp [results, Try.results119, go_sem, r0, r1, r2, r3]) rfl ?_
  exact RetZ.store_ O8 (by omega) rfl hd7 hn7 hc7 (bcall (bcall hb.drew hb6) hb7) _ _
end Go.Proofs.Ytehoafpnmfkniaa
