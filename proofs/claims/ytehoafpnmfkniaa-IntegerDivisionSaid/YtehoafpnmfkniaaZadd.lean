/-
  Sums of integers.
-/
import Derived.Test.YtehoafpnmfkniaaZmul
set_option linter.unusedVariables false
set_option linter.unusedSimpArgs false
namespace Go.Proofs.Ytehoafpnmfkniaa
open Go.RowKit

set_option maxHeartbeats 2000000 in
set_option maxRecDepth 100000 in
theorem add_any (neg neg' : Bool) (A A' : Option Addr) (n n' c c' : Nat) (da db : List Nat) (w : World) (h : Dgs w w.heap.size A n da) (h' : Dgs w w.heap.size A' n' db) (hc : n ≤ c) (hm : c ≤ maxLen) (hc' : n' ≤ c') (hm' : c' ≤ maxLen) (hs : n ≤ 1000000) (hs' : n' ≤ 1000000) :
    Calls Try.prog 22 #[.agg #[.bool neg, .slice A n c], .agg #[.bool neg', .slice A' n' c']] w (RetZ w (zOf neg (val da) + zOf neg' (val db))) := by
  have HF0 := Lib.hid (Three.new w (.bool neg) (.slice A n c) (.bool neg') (.slice A' n' c') (.bool false) (.slice none 0 0))
  go_enter Try.func22, Try.ntmps22
  go_upto_region 1 with fail
  have F0 := HF0.out
  clear HF0
  generalize (((w.alloc (.cells #[.bool neg, .slice A n c] 24)).alloc (.cells #[.bool neg', .slice A' n' c'] 24)).alloc (.cells #[.bool false, .slice none 0 0] 24)) = W0 at F0 ⊢
  have hA0 := (h.below F0.2.2.2.2).more F0.2.2.2.2.size
  have hB0 := (h'.below F0.2.2.2.2).more F0.2.2.2.2.size
  obtain ⟨p0, p1, p2, p3⟩ := F0.2.1.facts
  obtain ⟨q0, q1, q2, q3⟩ := F0.2.2.1.facts
  have F0d := F0.alike (fun B => (Below.refl B W0).drew)
  have hA0d : Dgs W0.drew W0.drew.heap.size A n da := hA0
  have hB0d : Dgs W0.drew W0.drew.heap.size A' n' db := hB0
  clear hA0 hB0
  go_cut [] (fun wx => Can3 w wx (zOf neg (val da)) (zOf neg' (val db)))
  case first =>
    go_region_with (first
      | (go_at_call_of 77 (Value.agg #[Value.bool neg, Value.slice A n c]); refine (canonical_any neg A n c da _ hA0d hc hm).mono ?_; rintro e w1 ⟨A1, n1, c1, rfl, hd1, hn1, hc1, hb1⟩; have F1 := F0d.call hb1; obtain ⟨p0, p1, p2, p3⟩ := F1.2.1.facts; obtain ⟨q0, q1, q2, q3⟩ := F1.2.2.1.facts; have hB1 := (hB0d.below hb1).more hb1.size)
      | (go_at_call_of 77 (Value.agg #[Value.bool neg', Value.slice A' n' c']); refine (canonical_any neg' A' n' c' db _ hB1 hc' hm').mono ?_; rintro e w2 ⟨A2, n2, c2, rfl, hd2, hn2, hc2, hb2⟩; have F2 := F1.call hb2; obtain ⟨p0, p1, p2, p3⟩ := F2.2.1.facts; obtain ⟨q0, q1, q2, q3⟩ := F2.2.2.1.facts))
    all_goals (go_wp2_with fail; go_meet; exact ⟨A1, n1, c1, A2, n2, c2, (F2.setA _ _).setB _ _, (Dgs.storeS ((hd1.below hb2).more hb2.size) F2.2.1 _ _).storeS (F2.setA _ _).2.2.1 _ _, hn1, hc1, (Dgs.storeS hd2 F2.2.1 _ _).storeS (F2.setA _ _).2.2.1 _ _, hn2, hc2⟩)
  case rest =>
    clear F0 F0d hA0d hB0d p0 p1 p2 p3 q0 q1 q2 q3 W0
    have hX0 : (digs (zOf neg (val da)).natAbs).length ≤ 1000000 := by rw [zOf_natAbs]; exact digs_val_le h.dig h.len hs
    have hY0 : (digs (zOf neg' (val db)).natAbs).length ≤ 1000000 := by rw [zOf_natAbs]; exact digs_val_le h'.dig h'.len hs'
    generalize zOf neg (val da) = x at *
    generalize zOf neg' (val db) = y at *
    clear h h'
    obtain ⟨A1, n1, c1, A2, n2, c2, F1, hd1, hn1, hc1, hd2, hn2, hc2⟩ := hcut
    have hs1 : n1 ≤ 1000000 := by rw [← hd1.len]; exact hX0
    have hs2 : n2 ≤ 1000000 := by rw [← hd2.len]; exact hY0
    obtain ⟨X, HX⟩ : ∃ X, Hid (X = x.natAbs) := ⟨_, rfl⟩
    obtain ⟨Y, HY⟩ : ∃ Y, Hid (Y = y.natAbs) := ⟨_, rfl⟩
    obtain ⟨sx, HSX⟩ : ∃ s, Hid (s = decide (x < 0)) := ⟨_, rfl⟩
    obtain ⟨sy, HSY⟩ : ∃ s, Hid (s = decide (y < 0)) := ⟨_, rfl⟩
    rw [← HX.out] at hd1
    rw [← HY.out] at hd2
    rw [← HSX.out, ← HSY.out] at F1
    obtain ⟨p0, p1, p2, p3⟩ := F1.2.1.facts
    obtain ⟨q0, q1, q2, q3⟩ := F1.2.2.1.facts
    obtain ⟨r0, r1, r2, r3⟩ := F1.2.2.2.1.facts
    have hz2 : ¬ w.heap.size + 1 + 1 = w.heap.size := by omega
    have hz3 : ¬ w.heap.size + 1 + 1 = w.heap.size + 1 := by omega
    by_cases hss : sx = sy
    · subst hss
      have HZ : Hid (x + y = zOf sx (val (digs (val (digs X) + val (digs Y))))) := by
        unfold Hid
        rw [val_digs, val_digs, val_digs, HX.out, HY.out, HSX.out, zOf_add_same x y (HSX.out.symm.trans HSY.out)]
      have hd1d : Dgs wc.drew wc.drew.heap.size A1 n1 (digs X) := hd1
      have hd2d : Dgs wc.drew wc.drew.heap.size A2 n2 (digs Y) := hd2
      go_wp2
      have F5 := F1.alike (fun B => (Below.refl B wc).drew)
      go_region_held3 (fun w' => w'.cell? ⟨w.heap.size, 0, none⟩ = some (.bool sx) ∧ w'.cell? ⟨w.heap.size, 1, none⟩ = some (.slice A1 n1 c1) ∧ w'.cell? ⟨w.heap.size + 1, 1, none⟩ = some (.slice A2 n2 c2))
        (go_keep)
        (first
          | (go_at_call 79; refine (addDigits_any A1 A2 n1 n2 c1 c2 _ _ _ hd1d hd2d hs1 hs2).mono ?_; rintro e w6 ⟨A6, n6, c6, rfl, hd6, hn6, hc6, hb6⟩; have F6 := F5.call hb6; obtain ⟨p0, p1, p2, p3⟩ := F6.2.1.facts; obtain ⟨q0, q1, q2, q3⟩ := F6.2.2.1.facts)
          | (go_at_call 82; refine (newInt_any _ A6 n6 c6 _ _ hd6 hn6 hc6).mono ?_; rintro e w7 ⟨A7, n7, c7, rfl, hd7, hn7, hc7, hb7⟩; have F7 := F6.call hb7; obtain ⟨p0, p1, p2, p3⟩ := F7.2.1.facts; obtain ⟨q0, q1, q2, q3⟩ := F7.2.2.1.facts; obtain ⟨r0, r1, r2, r3⟩ := F7.2.2.2.1.facts))
      go_wp2
      rw [HZ.out]
      refine bodyPost_ret (v := .agg #[.bool (decide (zOf sx (val (digs (val (digs X) + val (digs Y)))) < 0)), .slice A7 n7 c7]) (by simp [results, Try.results22, go_sem, r0, r1, r2, r3]) rfl ?_
      exact RetZ.end3 F7 rfl hd7 hn7 hc7 _ _
    · have HNE : Hid (decide (x < 0) ≠ decide (y < 0)) := by rw [← HSX.out, ← HSY.out]; exact hss
      have hne : (sx == sy) = false := by cases sx <;> cases sy <;> simp_all
      clear hss
      by_cases hXY : X < Y
      · have HC : Hid (cmpI (X : Int) Y = -1) := cmpI_lt (by omega)
        have HZ : Hid (x + y = zOf sy (val (digs (val (digs Y) - val (digs X))))) := by
          unfold Hid
          rw [val_digs, val_digs, val_digs, HX.out, HY.out, HSY.out, Int.add_comm, zOf_add_diff y x HNE.out.symm (by rw [← HX.out, ← HY.out]; omega)]
        have HLE : Hid (val (digs X) ≤ val (digs Y)) := by unfold Hid; rw [val_digs, val_digs]; omega
        clear hXY
        go_wp2_with (go_at_call 88; (with_reducible refine (compareDigits_any A1 A2 n1 n2 c1 c2 _ _ X Y _ hd1 hd2 (by unfold maxLen; omega) (by unfold maxLen; omega)).mono ?_); rw [HC.out]; rintro e w3 ⟨rfl, hw3⟩; have F2 := F1.alike (fun B => hw3.below B); obtain ⟨p0, p1, p2, p3⟩ := F2.2.1.facts; obtain ⟨q0, q1, q2, q3⟩ := F2.2.2.1.facts; have F3 := (F2.setA (.bool sy) (.slice A2 n2 c2)).setB (.bool sx) (.slice A1 n1 c1); have hd3 := (Dgs.storeS (hw3.dgs' hd1) F2.2.1 (.bool sy) (.slice A2 n2 c2)).storeS (F2.setA (.bool sy) (.slice A2 n2 c2)).2.2.1 (.bool sx) (.slice A1 n1 c1); have hd4 := (Dgs.storeS (hw3.dgs' hd2) F2.2.1 (.bool sy) (.slice A2 n2 c2)).storeS (F2.setA (.bool sy) (.slice A2 n2 c2)).2.2.1 (.bool sx) (.slice A1 n1 c1))
        generalize (((w3.setCell ⟨w.heap.size, 0, none⟩ (.bool sy)).setCell ⟨w.heap.size, 1, none⟩ (.slice A2 n2 c2)).setCell ⟨w.heap.size + 1, 0, none⟩ (.bool sx)).setCell ⟨w.heap.size + 1, 1, none⟩ (.slice A1 n1 c1) = W3 at F3 hd3 hd4 ⊢
        clear p0 p1 p2 p3 q0 q1 q2 q3
        obtain ⟨p0, p1, p2, p3⟩ := F3.2.1.facts
        obtain ⟨q0, q1, q2, q3⟩ := F3.2.2.1.facts
        have hd1d : Dgs W3.drew W3.drew.heap.size A1 n1 (digs X) := hd3
        have hd2d : Dgs W3.drew W3.drew.heap.size A2 n2 (digs Y) := hd4
        have F5 := F3.alike (fun B => (Below.refl B W3).drew)
        go_region_held3 (fun w' => w'.cell? ⟨w.heap.size, 0, none⟩ = some (.bool sy) ∧ w'.cell? ⟨w.heap.size, 1, none⟩ = some (.slice A2 n2 c2) ∧ w'.cell? ⟨w.heap.size + 1, 1, none⟩ = some (.slice A1 n1 c1))
          (go_keep)
          (first
            | (go_at_call 81; refine (subDigits_any A2 A1 n2 n1 c2 c1 _ _ _ hd2d hd1d hs2 hs1 HLE.out).mono ?_; rintro e w6 ⟨A6, n6, c6, rfl, hd6, hn6, hc6, hb6⟩; have F6 := F5.call hb6; obtain ⟨p0, p1, p2, p3⟩ := F6.2.1.facts; obtain ⟨q0, q1, q2, q3⟩ := F6.2.2.1.facts)
            | (go_at_call 82; refine (newInt_any _ A6 n6 c6 _ _ hd6 hn6 hc6).mono ?_; rintro e w7 ⟨A7, n7, c7, rfl, hd7, hn7, hc7, hb7⟩; have F7 := F6.call hb7; obtain ⟨p0, p1, p2, p3⟩ := F7.2.1.facts; obtain ⟨q0, q1, q2, q3⟩ := F7.2.2.1.facts; obtain ⟨r0, r1, r2, r3⟩ := F7.2.2.2.1.facts))
        go_wp2
        rw [HZ.out]
        refine bodyPost_ret (v := .agg #[.bool (decide (zOf sy (val (digs (val (digs Y) - val (digs X)))) < 0)), .slice A7 n7 c7]) (by simp [results, Try.results22, go_sem, r0, r1, r2, r3]) rfl ?_
        exact RetZ.end3 F7 rfl hd7 hn7 hc7 _ _
      · have HC : Hid (¬ cmpI (X : Int) Y < 0) := by
          unfold Hid cmpI
          split
          · omega
          · split <;> omega
        obtain ⟨v, HV⟩ : ∃ v, Hid (v = cmpI (X : Int) Y) := ⟨_, rfl⟩
        have hv : ¬ v < 0 := by rw [HV.out]; exact HC.out
        have HZ : Hid (x + y = zOf sx (val (digs (val (digs X) - val (digs Y))))) := by
          unfold Hid
          rw [val_digs, val_digs, val_digs, HX.out, HY.out, HSX.out, zOf_add_diff x y HNE.out (by rw [← HX.out, ← HY.out]; omega)]
        have HLE : Hid (val (digs Y) ≤ val (digs X)) := by unfold Hid; rw [val_digs, val_digs]; omega
        clear hXY
        go_wp2_with (go_at_call 88; (with_reducible refine (compareDigits_any A1 A2 n1 n2 c1 c2 _ _ X Y _ hd1 hd2 (by unfold maxLen; omega) (by unfold maxLen; omega)).mono ?_); rw [← HV.out]; rintro e w3 ⟨rfl, hw3⟩; have F3 := F1.alike (fun B => hw3.below B); obtain ⟨p0, p1, p2, p3⟩ := F3.2.1.facts; obtain ⟨q0, q1, q2, q3⟩ := F3.2.2.1.facts)
        have hd1d : Dgs w3.drew w3.drew.heap.size A1 n1 (digs X) := hw3.dgs' hd1
        have hd2d : Dgs w3.drew w3.drew.heap.size A2 n2 (digs Y) := hw3.dgs' hd2
        have F5 := F3.alike (fun B => (Below.refl B w3).drew)
        go_region_held3 (fun w' => w'.cell? ⟨w.heap.size, 0, none⟩ = some (.bool sx) ∧ w'.cell? ⟨w.heap.size, 1, none⟩ = some (.slice A1 n1 c1) ∧ w'.cell? ⟨w.heap.size + 1, 1, none⟩ = some (.slice A2 n2 c2))
          (go_keep)
          (first
            | (go_at_call 81; refine (subDigits_any A1 A2 n1 n2 c1 c2 _ _ _ hd1d hd2d hs1 hs2 HLE.out).mono ?_; rintro e w6 ⟨A6, n6, c6, rfl, hd6, hn6, hc6, hb6⟩; have F6 := F5.call hb6; obtain ⟨p0, p1, p2, p3⟩ := F6.2.1.facts; obtain ⟨q0, q1, q2, q3⟩ := F6.2.2.1.facts)
            | (go_at_call 82; refine (newInt_any _ A6 n6 c6 _ _ hd6 hn6 hc6).mono ?_; rintro e w7 ⟨A7, n7, c7, rfl, hd7, hn7, hc7, hb7⟩; have F7 := F6.call hb7; obtain ⟨p0, p1, p2, p3⟩ := F7.2.1.facts; obtain ⟨q0, q1, q2, q3⟩ := F7.2.2.1.facts; obtain ⟨r0, r1, r2, r3⟩ := F7.2.2.2.1.facts))
        go_wp2
        rw [HZ.out]
        refine bodyPost_ret (v := .agg #[.bool (decide (zOf sx (val (digs (val (digs X) - val (digs Y)))) < 0)), .slice A7 n7 c7]) (by simp [results, Try.results22, go_sem, r0, r1, r2, r3]) rfl ?_
        exact RetZ.end3 F7 rfl hd7 hn7 hc7 _ _
end Go.Proofs.Ytehoafpnmfkniaa
