/-
  The reference's negatives, absolute values, sums, differences and products of integers.
-/
import Derived.Test.YtehoafpnmfkniaaZetc
import Derived.Test.YtehoafpnmfkniaaRadd
import Derived.Test.YtehoafpnmfkniaaRmul
import Derived.Test.YtehoafpnmfkniaaRcmp
set_option linter.unusedVariables false
set_option linter.unusedSimpArgs false
namespace Go.Proofs.Ytehoafpnmfkniaa
open Go.RowKit

theorem zOf_false' (v : Nat) : ((v : Nat) : Int) = zOf false v := by simp [zOf]
theorem zOf_add_eq (b : Bool) (x y : Nat) : zOf b x + zOf b y = zOf b (x + y) := by cases b <;> simp [zOf] <;> omega
theorem zOf_add_ne {b b' : Bool} (h : b ≠ b') {x y : Nat} (hle : y ≤ x) : zOf b x + zOf b' y = zOf b (x - y) := by
  cases b <;> cases b' <;> simp_all [zOf] <;> omega
theorem zOf_self (z : Int) : zOf (decide (z < 0)) z.natAbs = z := by unfold zOf; by_cases h : z < 0 <;> simp [h] <;> omega
theorem zOf_mul_eq (b b' : Bool) (x y : Nat) : zOf b x * zOf b' y = zOf (!(b == b')) (x * y) := by
  cases b <;> cases b' <;> simp [zOf, Int.neg_mul, Int.mul_neg]
theorem digs_add_len {da db : List Nat} {n n' : Nat} (hd : Dig da) (hl : da.length = n) (hd' : Dig db) (hl' : db.length = n') : (digs (val da + val db)).length ≤ n + n' + 1 := by
  refine digs_length_le ?_
  have h1 := val_lt hd
  have h2 := val_lt hd'
  rw [hl] at h1
  rw [hl'] at h2
  have p1 : BB ^ n ≤ BB ^ (n + n') := Nat.pow_le_pow_right BB_pos (by omega)
  have p2 : BB ^ n' ≤ BB ^ (n + n') := Nat.pow_le_pow_right BB_pos (by omega)
  have p3 : BB ^ (n + n') * 2 ≤ BB ^ (n + n') * BB := Nat.mul_le_mul_left _ (by rw [BB_eq]; omega)
  rw [Nat.pow_succ]
  omega
theorem digs_mul_len {da db : List Nat} {n n' : Nat} (hd : Dig da) (hl : da.length = n) (hd' : Dig db) (hl' : db.length = n') : (digs (val da * val db)).length ≤ n + n' := by
  refine digs_length_le ?_
  have h1 := val_lt hd
  have h2 := val_lt hd'
  rw [hl] at h1
  rw [hl'] at h2
  rw [Nat.pow_add]
  exact Nat.mul_lt_mul'' h1 h2
theorem digs_sub_len {da : List Nat} {n : Nat} (y : Nat) (hd : Dig da) (hl : da.length = n) : (digs (val da - y)).length ≤ n := by
  refine digs_length_le ?_
  have h1 := val_lt hd
  rw [hl] at h1
  omega

set_option maxRecDepth 100000 in
theorem rnegate_any (neg : Bool) (A : Option Addr) (n c : Nat) (ds : List Nat) (w : World) (h : Dgs w w.heap.size A n ds) (hc : n ≤ c) (hm : c ≤ maxLen) (hs : n ≤ 1000000) :
    Calls Try.prog 120 #[.agg #[.bool neg, .slice A n c]] w (RetZ w (-zOf neg (val ds))) := by
  rw [← zOf_not]
  go_enter Try.func120, Try.ntmps120
  go_wp2_with (go_at_call 84; refine (make_any (!neg) _ _ _ _ _ (((h.alloc (Nat.le_refl _) _).alloc (by simp) _).more (by simp; omega)) hc hm hs).mono ?_; rintro e w2 ⟨A2, n2, c2, rfl, hd2, hn2, hc2, hb2⟩; have O2 := (Own.new _ _ _ _).below hb2; obtain ⟨q0, q1, q2, q3⟩ := O2.facts; simp only [World.size_alloc] at q0 q1 q2 q3)
  refine bodyPost_ret (v := .agg #[.bool (decide (zOf (!neg) (val ds) < 0)), .slice A2 n2 c2]) (by simp [results, Try.results120, go_sem, q0, q1, q2, q3]) rfl ?_
  simp only [World.size_alloc] at O2
  exact RetZ.store_ O2 (by omega) rfl hd2 hn2 hc2 (bcall (bnew2 _ _ _) hb2) _ _

set_option maxRecDepth 100000 in
theorem rabs_any (neg : Bool) (A : Option Addr) (n c : Nat) (ds : List Nat) (w : World) (h : Dgs w w.heap.size A n ds) (hc : n ≤ c) (hm : c ≤ maxLen) (hs : n ≤ 1000000) :
    Calls Try.prog 96 #[.agg #[.bool neg, .slice A n c]] w (RetZ w ((val ds : Nat))) := by
  rw [zOf_false']
  go_enter Try.func96, Try.ntmps96
  go_wp2_with (go_at_call 84; refine (make_any false _ _ _ _ _ (((h.alloc (Nat.le_refl _) _).alloc (by simp) _).more (by simp; omega)) hc hm hs).mono ?_; rintro e w2 ⟨A2, n2, c2, rfl, hd2, hn2, hc2, hb2⟩; have O2 := (Own.new _ _ _ _).below hb2; obtain ⟨q0, q1, q2, q3⟩ := O2.facts; simp only [World.size_alloc] at q0 q1 q2 q3)
  refine bodyPost_ret (v := .agg #[.bool (decide (zOf false (val ds) < 0)), .slice A2 n2 c2]) (by simp [results, Try.results96, go_sem, q0, q1, q2, q3]) rfl ?_
  simp only [World.size_alloc] at O2
  exact RetZ.store_ O2 (by omega) rfl hd2 hn2 hc2 (bcall (bnew2 _ _ _) hb2) _ _

set_option maxHeartbeats 2000000 in
set_option maxRecDepth 100000 in
theorem rmul_any (neg neg' : Bool) (A A' : Option Addr) (n n' c c' : Nat) (da db : List Nat) (w : World) (h : Dgs w w.heap.size A n da) (h' : Dgs w w.heap.size A' n' db) (hc : n ≤ c) (hm : c ≤ maxLen) (hc' : n' ≤ c') (hm' : c' ≤ maxLen) (hs : n ≤ 100000) (hs' : n' ≤ 100000) :
    Calls Try.prog 97 #[.agg #[.bool neg, .slice A n c], .agg #[.bool neg', .slice A' n' c']] w (RetZ w (zOf neg (val da) * zOf neg' (val db))) := by
  have F0 := Three.new w (.bool neg) (.slice A n c) (.bool neg') (.slice A' n' c') (.bool false) (.slice none 0 0)
  have hA0 := (h.below F0.2.2.2.2).more F0.2.2.2.2.size
  have hB0 := (h'.below F0.2.2.2.2).more F0.2.2.2.2.size
  generalize hW : (((w.alloc (.cells #[.bool neg, .slice A n c] 24)).alloc (.cells #[.bool neg', .slice A' n' c'] 24)).alloc (.cells #[.bool false, .slice none 0 0] 24)) = W0 at F0 hA0 hB0
  have HW := Lib.hid hW
  clear hW
  obtain ⟨p0, p1, p2, p3⟩ := F0.2.1.facts
  obtain ⟨q0, q1, q2, q3⟩ := F0.2.2.1.facts
  obtain ⟨r0, r1, r2, r3⟩ := F0.2.2.2.1.facts
  have hz2 : ¬ w.heap.size + 1 + 1 = w.heap.size := by omega
  have hz3 : ¬ w.heap.size + 1 + 1 = w.heap.size + 1 := by omega
  have HZ : Hid (zOf neg (val da) * zOf neg' (val db) = zOf (!(neg == neg')) (val (digs (val da * val db)))) := by unfold Hid; rw [zOf_mul_eq, val_digs]
  have HB : Hid ((digs (val da * val db)).length ≤ 1000000) := by have := digs_mul_len h.dig h.len h'.dig h'.len; unfold Hid; omega
  go_enter Try.func97, Try.ntmps97
  go_wp2
  rw [HW.out]
  have F5 := F0.alike (fun B => (Below.refl B W0).drew)
  have hAd : Dgs W0.drew W0.drew.heap.size A n da := hA0
  have hBd : Dgs W0.drew W0.drew.heap.size A' n' db := hB0
  go_region_held3 (fun w' => w'.cell? ⟨w.heap.size, 0, none⟩ = some (.bool neg) ∧ w'.cell? ⟨w.heap.size, 1, none⟩ = some (.slice A n c) ∧ w'.cell? ⟨w.heap.size + 1, 0, none⟩ = some (.bool neg') ∧ w'.cell? ⟨w.heap.size + 1, 1, none⟩ = some (.slice A' n' c'))
    (go_keep)
    (first
      | (go_at_call 138; refine (rmulDigits_any A A' n n' c c' da db _ hAd hBd hc hm hc' hm' (by omega) (by omega)).mono ?_; rintro e w6 ⟨A6, n6, c6, rfl, hd6, hn6, hc6, hb6⟩; have F6 := F5.call hb6; obtain ⟨p0, p1, p2, p3⟩ := F6.2.1.facts; obtain ⟨q0, q1, q2, q3⟩ := F6.2.2.1.facts)
      | (go_at_call 84; refine (make_any _ A6 n6 c6 _ _ hd6 hn6 hc6 (by rw [← hd6.len]; exact HB.out)).mono ?_; rintro e w7 ⟨A7, n7, c7, rfl, hd7, hn7, hc7, hb7⟩; have F7 := F6.call hb7; obtain ⟨p0, p1, p2, p3⟩ := F7.2.1.facts; obtain ⟨q0, q1, q2, q3⟩ := F7.2.2.1.facts; obtain ⟨r0, r1, r2, r3⟩ := F7.2.2.2.1.facts)
      | fail)
  go_wp2
  rw [HZ.out]
  refine bodyPost_ret (v := .agg #[.bool (decide (zOf (!(neg == neg')) (val (digs (val da * val db))) < 0)), .slice A7 n7 c7]) (by simp [results, Try.results97, go_sem, r0, r1, r2, r3]) rfl ?_
  exact RetZ.end3 F7 rfl hd7 hn7 hc7 _ _

set_option maxHeartbeats 2000000 in
set_option maxRecDepth 100000 in
theorem radd_any (neg neg' : Bool) (A A' : Option Addr) (n n' c c' : Nat) (da db : List Nat) (w : World) (h : Dgs w w.heap.size A n da) (h' : Dgs w w.heap.size A' n' db) (hc : n ≤ c) (hm : c ≤ maxLen) (hc' : n' ≤ c') (hm' : c' ≤ maxLen) (hs : n ≤ 100000) (hs' : n' ≤ 100000) :
    Calls Try.prog 87 #[.agg #[.bool neg, .slice A n c], .agg #[.bool neg', .slice A' n' c']] w (RetZ w (zOf neg (val da) + zOf neg' (val db))) := by
  by_cases hss : neg = neg'
  · subst hss
    have F0 := Three.new w (.bool neg) (.slice A n c) (.bool neg) (.slice A' n' c') (.bool false) (.slice none 0 0)
    have hA0 := (h.below F0.2.2.2.2).more F0.2.2.2.2.size
    have hB0 := (h'.below F0.2.2.2.2).more F0.2.2.2.2.size
    generalize hW : (((w.alloc (.cells #[.bool neg, .slice A n c] 24)).alloc (.cells #[.bool neg, .slice A' n' c'] 24)).alloc (.cells #[.bool false, .slice none 0 0] 24)) = W0 at F0 hA0 hB0
    have HW := Lib.hid hW
    clear hW
    obtain ⟨p0, p1, p2, p3⟩ := F0.2.1.facts
    obtain ⟨q0, q1, q2, q3⟩ := F0.2.2.1.facts
    obtain ⟨r0, r1, r2, r3⟩ := F0.2.2.2.1.facts
    have hz2 : ¬ w.heap.size + 1 + 1 = w.heap.size := by omega
    have hz3 : ¬ w.heap.size + 1 + 1 = w.heap.size + 1 := by omega
    have HZ : Hid (zOf neg (val da) + zOf neg (val db) = zOf neg (val (digs (val da + val db)))) := by unfold Hid; rw [zOf_add_eq, val_digs]
    have HB : Hid ((digs (val da + val db)).length ≤ 1000000) := by have := digs_add_len h.dig h.len h'.dig h'.len; unfold Hid; omega
    go_enter Try.func87, Try.ntmps87
    go_wp2
    rw [HW.out]
    have F5 := F0.alike (fun B => (Below.refl B W0).drew)
    have hAd : Dgs W0.drew W0.drew.heap.size A n da := hA0
    have hBd : Dgs W0.drew W0.drew.heap.size A' n' db := hB0
    go_region_held3 (fun w' => w'.cell? ⟨w.heap.size, 0, none⟩ = some (.bool neg) ∧ w'.cell? ⟨w.heap.size, 1, none⟩ = some (.slice A n c) ∧ w'.cell? ⟨w.heap.size + 1, 1, none⟩ = some (.slice A' n' c'))
      (go_keep)
      (first
        | (go_at_call 135; refine (raddDigits_any A A' n n' c c' da db _ hAd hBd hc hm hc' hm' (by omega) (by omega)).mono ?_; rintro e w6 ⟨A6, n6, c6, rfl, hd6, hn6, hc6, hb6⟩; have F6 := F5.call hb6; obtain ⟨p0, p1, p2, p3⟩ := F6.2.1.facts; obtain ⟨q0, q1, q2, q3⟩ := F6.2.2.1.facts)
        | (go_at_call 84; refine (make_any _ A6 n6 c6 _ _ hd6 hn6 hc6 (by rw [← hd6.len]; exact HB.out)).mono ?_; rintro e w7 ⟨A7, n7, c7, rfl, hd7, hn7, hc7, hb7⟩; have F7 := F6.call hb7; obtain ⟨p0, p1, p2, p3⟩ := F7.2.1.facts; obtain ⟨q0, q1, q2, q3⟩ := F7.2.2.1.facts; obtain ⟨r0, r1, r2, r3⟩ := F7.2.2.2.1.facts)
        | fail)
    go_wp2
    rw [HZ.out]
    refine bodyPost_ret (v := .agg #[.bool (decide (zOf neg (val (digs (val da + val db))) < 0)), .slice A7 n7 c7]) (by simp [results, Try.results87, go_sem, r0, r1, r2, r3]) rfl ?_
    exact RetZ.end3 F7 rfl hd7 hn7 hc7 _ _
  · have HNE : Hid (neg ≠ neg') := hss
    have hne : (neg == neg') = false := by cases neg <;> cases neg' <;> simp_all
    clear hss
    have F0 := Three.new w (.bool neg) (.slice A n c) (.bool neg') (.slice A' n' c') (.bool false) (.slice none 0 0)
    have hA0 := (h.below F0.2.2.2.2).more F0.2.2.2.2.size
    have hB0 := (h'.below F0.2.2.2.2).more F0.2.2.2.2.size
    generalize hW : (((w.alloc (.cells #[.bool neg, .slice A n c] 24)).alloc (.cells #[.bool neg', .slice A' n' c'] 24)).alloc (.cells #[.bool false, .slice none 0 0] 24)) = W0 at F0 hA0 hB0
    have HW := Lib.hid hW
    clear hW
    obtain ⟨p0, p1, p2, p3⟩ := F0.2.1.facts
    obtain ⟨q0, q1, q2, q3⟩ := F0.2.2.1.facts
    obtain ⟨r0, r1, r2, r3⟩ := F0.2.2.2.1.facts
    have hz2 : ¬ w.heap.size + 1 + 1 = w.heap.size := by omega
    have hz3 : ¬ w.heap.size + 1 + 1 = w.heap.size + 1 := by omega
    by_cases hle : val db ≤ val da
    · have HC : Hid (0 ≤ cmpI (val da) (val db)) := by unfold Hid cmpI; split <;> (try split) <;> omega
      have HLE : Hid (val (digs (val db)) ≤ val da) := by unfold Hid; rw [val_digs]; omega
      have HZ : Hid (zOf neg (val da) + zOf neg' (val db) = zOf neg (val (digs (val da - val (digs (val db)))))) := by unfold Hid; rw [val_digs, val_digs, zOf_add_ne HNE.out hle]
      have HB : Hid ((digs (val da - val (digs (val db)))).length ≤ 1000000) := by have := digs_sub_len (val (digs (val db))) h.dig h.len; unfold Hid; omega
      obtain ⟨N, HN⟩ : ∃ N, Hid (N = (digs (val db)).length) := ⟨_, rfl⟩
      have hNc := Nat.le_trans (trim_len_le h' HN) hc'
      clear hle
      go_enter Try.func87, Try.ntmps87
      go_upto_if 2 with fail
      rw [HW.out]
      go_wp2_with (go_at_call 132; go_loud ((with_reducible refine (rcompareDigits_any A A' n n' c c' _ _ da db _ hA0 hB0 hc hm hc' hm').mono ?_); rintro e w3 ⟨rfl, hw3⟩; obtain ⟨v, HV⟩ : ∃ v, Hid (v = cmpI (val da) (val db)) := ⟨_, rfl⟩; rw [← HV.out]; have hv : 0 ≤ v := Eq.mpr (congrArg (fun v => 0 ≤ v) HV.out) HC.out; have F2 := F0.alike (fun B => hw3.below B); obtain ⟨p0, p1, p2, p3⟩ := F2.2.1.facts; obtain ⟨q0, q1, q2, q3⟩ := F2.2.2.1.facts; obtain ⟨r0, r1, r2, r3⟩ := F2.2.2.2.1.facts; have hA2 := hw3.dgs' hA0; have hB2 := hw3.dgs' hB0))
      have F5 := F2.alike (fun B => (Below.refl B w3).drew)
      have hAd : Dgs w3.drew w3.drew.heap.size A n da := hA2
      have hBd : Dgs w3.drew w3.drew.heap.size A' n' db := hB2
      go_region_held3 (fun w' => w'.cell? ⟨w.heap.size, 0, none⟩ = some (.bool neg) ∧ w'.cell? ⟨w.heap.size, 1, none⟩ = some (.slice A n c) ∧ w'.cell? ⟨w.heap.size + 1, 1, none⟩ = some (.slice A' n' c'))
        (go_keep)
        (first
          | (go_at_call 113; refine (rtrim_fix A' n' c' _ N db _ hBd hc' hm' HN).mono ?_; rintro e w5 ⟨rfl, rfl⟩)
          | (go_at_call 133; refine (rsubDigits_any A A' n N c c' da (digs (val db)) _ hAd (hBd.trimmed HN) hc hm hNc hm' (by omega) HLE.out).mono ?_; rintro e w6 ⟨A6, n6, c6, rfl, hd6, hn6, hc6, hb6⟩; have F6 := F5.call hb6; obtain ⟨p0, p1, p2, p3⟩ := F6.2.1.facts; obtain ⟨q0, q1, q2, q3⟩ := F6.2.2.1.facts)
          | (go_at_call 84; refine (make_any _ A6 n6 c6 _ _ hd6 hn6 hc6 (by rw [← hd6.len]; exact HB.out)).mono ?_; rintro e w7 ⟨A7, n7, c7, rfl, hd7, hn7, hc7, hb7⟩; have F7 := F6.call hb7; obtain ⟨p0, p1, p2, p3⟩ := F7.2.1.facts; obtain ⟨q0, q1, q2, q3⟩ := F7.2.2.1.facts; obtain ⟨r0, r1, r2, r3⟩ := F7.2.2.2.1.facts)
          | fail)
      go_wp2
      rw [HZ.out]
      refine bodyPost_ret (v := .agg #[.bool (decide (zOf neg (val (digs (val da - val (digs (val db))))) < 0)), .slice A7 n7 c7]) (by simp [results, Try.results87, go_sem, r0, r1, r2, r3]) rfl ?_
      exact RetZ.end3 F7 rfl hd7 hn7 hc7 _ _
    · have HC : Hid (cmpI (val da) (val db) < 0) := by unfold Hid cmpI; split <;> (try split) <;> omega
      have HLE : Hid (val (digs (val da)) ≤ val db) := by unfold Hid; rw [val_digs]; omega
      have HZ : Hid (zOf neg (val da) + zOf neg' (val db) = zOf neg' (val (digs (val db - val (digs (val da)))))) := by unfold Hid; rw [val_digs, val_digs, Int.add_comm, zOf_add_ne (Ne.symm HNE.out) (Nat.le_of_lt (Nat.lt_of_not_le hle))]
      have HB : Hid ((digs (val db - val (digs (val da)))).length ≤ 1000000) := by have := digs_sub_len (val (digs (val da))) h'.dig h'.len; unfold Hid; omega
      obtain ⟨N, HN⟩ : ∃ N, Hid (N = (digs (val da)).length) := ⟨_, rfl⟩
      have hNc := Nat.le_trans (trim_len_le h HN) hc
      clear hle
      go_enter Try.func87, Try.ntmps87
      go_upto_if 2 with fail
      rw [HW.out]
      go_wp2_with (go_at_call 132; go_loud ((with_reducible refine (rcompareDigits_any A A' n n' c c' _ _ da db _ hA0 hB0 hc hm hc' hm').mono ?_); rintro e w3 ⟨rfl, hw3⟩; obtain ⟨v, HV⟩ : ∃ v, Hid (v = cmpI (val da) (val db)) := ⟨_, rfl⟩; rw [← HV.out]; have hv : v < 0 := Eq.mpr (congrArg (fun v => v < 0) HV.out) HC.out; have F2 := F0.alike (fun B => hw3.below B); obtain ⟨p0, p1, p2, p3⟩ := F2.2.1.facts; obtain ⟨q0, q1, q2, q3⟩ := F2.2.2.1.facts; obtain ⟨r0, r1, r2, r3⟩ := F2.2.2.2.1.facts; have hA2 := hw3.dgs' hA0; have hB2 := hw3.dgs' hB0))
      have F5 := F2.alike (fun B => (Below.refl B w3).drew)
      have hAd : Dgs w3.drew w3.drew.heap.size A n da := hA2
      have hBd : Dgs w3.drew w3.drew.heap.size A' n' db := hB2
      go_region_held3 (fun w' => w'.cell? ⟨w.heap.size + 1, 0, none⟩ = some (.bool neg') ∧ w'.cell? ⟨w.heap.size, 1, none⟩ = some (.slice A n c) ∧ w'.cell? ⟨w.heap.size + 1, 1, none⟩ = some (.slice A' n' c'))
        (go_keep)
        (first
          | (go_at_call 113; refine (rtrim_fix A n c _ N da _ hAd hc hm HN).mono ?_; rintro e w5 ⟨rfl, rfl⟩)
          | (go_at_call 133; refine (rsubDigits_any A' A n' N c' c db (digs (val da)) _ hBd (hAd.trimmed HN) hc' hm' hNc hm (by omega) HLE.out).mono ?_; rintro e w6 ⟨A6, n6, c6, rfl, hd6, hn6, hc6, hb6⟩; have F6 := F5.call hb6; obtain ⟨p0, p1, p2, p3⟩ := F6.2.1.facts; obtain ⟨q0, q1, q2, q3⟩ := F6.2.2.1.facts)
          | (go_at_call 84; refine (make_any _ A6 n6 c6 _ _ hd6 hn6 hc6 (by rw [← hd6.len]; exact HB.out)).mono ?_; rintro e w7 ⟨A7, n7, c7, rfl, hd7, hn7, hc7, hb7⟩; have F7 := F6.call hb7; obtain ⟨p0, p1, p2, p3⟩ := F7.2.1.facts; obtain ⟨q0, q1, q2, q3⟩ := F7.2.2.1.facts; obtain ⟨r0, r1, r2, r3⟩ := F7.2.2.2.1.facts)
          | fail)
      go_wp2
      rw [HZ.out]
      refine bodyPost_ret (v := .agg #[.bool (decide (zOf neg' (val (digs (val db - val (digs (val da))))) < 0)), .slice A7 n7 c7]) (by simp [results, Try.results87, go_sem, r0, r1, r2, r3]) rfl ?_
      exact RetZ.end3 F7 rfl hd7 hn7 hc7 _ _

set_option maxHeartbeats 2000000 in
set_option maxRecDepth 100000 in
theorem rsub_any (neg neg' : Bool) (A A' : Option Addr) (n n' c c' : Nat) (da db : List Nat) (w : World) (h : Dgs w w.heap.size A n da) (h' : Dgs w w.heap.size A' n' db) (hc : n ≤ c) (hm : c ≤ maxLen) (hc' : n' ≤ c') (hm' : c' ≤ maxLen) (hs : n ≤ 100000) (hs' : n' ≤ 100000) :
    Calls Try.prog 85 #[.agg #[.bool neg, .slice A n c], .agg #[.bool neg', .slice A' n' c']] w (RetZ w (zOf neg (val da) - zOf neg' (val db))) := by
  have F0 := Three.new w (.bool neg) (.slice A n c) (.bool neg') (.slice A' n' c') (.bool false) (.slice none 0 0)
  have hA0 := (h.below F0.2.2.2.2).more F0.2.2.2.2.size
  have hB0 := (h'.below F0.2.2.2.2).more F0.2.2.2.2.size
  generalize hW : (((w.alloc (.cells #[.bool neg, .slice A n c] 24)).alloc (.cells #[.bool neg', .slice A' n' c'] 24)).alloc (.cells #[.bool false, .slice none 0 0] 24)) = W0 at F0 hA0 hB0
  have HW := Lib.hid hW
  clear hW
  obtain ⟨p0, p1, p2, p3⟩ := F0.2.1.facts
  obtain ⟨q0, q1, q2, q3⟩ := F0.2.2.1.facts
  obtain ⟨r0, r1, r2, r3⟩ := F0.2.2.2.1.facts
  have hz2 : ¬ w.heap.size + 1 + 1 = w.heap.size := by omega
  have hz3 : ¬ w.heap.size + 1 + 1 = w.heap.size + 1 := by omega
  obtain ⟨Z, HZZ⟩ : ∃ Z, Hid (Z = -zOf neg' (val db)) := ⟨_, rfl⟩
  have HL : Hid ((digs Z.natAbs).length ≤ 100000) := by unfold Hid; rw [HZZ.out, Int.natAbs_neg, zOf_natAbs]; exact Nat.le_trans (digs_length_le (by have := val_lt h'.dig; rw [h'.len] at this; exact this)) hs'
  have HZ : Hid (zOf neg (val da) - zOf neg' (val db) = zOf neg (val da) + zOf (decide (Z < 0)) (val (digs Z.natAbs))) := by
    unfold Hid; rw [val_digs, zOf_self, HZZ.out]; omega
  go_enter Try.func85, Try.ntmps85
  go_wp2
  rw [HW.out]
  have F5 := F0.alike (fun B => (Below.refl B W0).drew)
  have hAd : Dgs W0.drew W0.drew.heap.size A n da := hA0
  have hBd : Dgs W0.drew W0.drew.heap.size A' n' db := hB0
  go_region_held3 (fun w' => w'.cell? ⟨w.heap.size, 0, none⟩ = some (.bool neg) ∧ w'.cell? ⟨w.heap.size, 1, none⟩ = some (.slice A n c) ∧ w'.cell? ⟨w.heap.size + 1, 0, none⟩ = some (.bool neg') ∧ w'.cell? ⟨w.heap.size + 1, 1, none⟩ = some (.slice A' n' c'))
    (go_keep)
    (first
      | (go_at_call 120; refine (rnegate_any neg' A' n' c' db _ hBd hc' hm' (by omega)).mono ?_; rw [← HZZ.out]; rintro e w6 ⟨A6, n6, c6, rfl, hd6, hn6, hc6, hb6⟩; have F6 := F5.call hb6; have hA6 := (hAd.below hb6).more hb6.size; obtain ⟨p0, p1, p2, p3⟩ := F6.2.1.facts; obtain ⟨q0, q1, q2, q3⟩ := F6.2.2.1.facts)
      | (go_at_call 87; refine (radd_any neg _ A A6 n n6 c c6 da _ _ hA6 hd6 hc hm hn6 hc6 hs (by rw [← hd6.len]; exact HL.out)).mono ?_; rintro e w7 ⟨A7, n7, c7, rfl, hd7, hn7, hc7, hb7⟩; have F7 := F6.call hb7; obtain ⟨p0, p1, p2, p3⟩ := F7.2.1.facts; obtain ⟨q0, q1, q2, q3⟩ := F7.2.2.1.facts; obtain ⟨r0, r1, r2, r3⟩ := F7.2.2.2.1.facts)
      | fail)
  go_wp2
  rw [HZ.out]
  refine bodyPost_ret (v := .agg #[.bool (decide (zOf neg (val da) + zOf (decide (Z < 0)) (val (digs Z.natAbs)) < 0)), .slice A7 n7 c7]) (by simp [results, Try.results85, go_sem, r0, r1, r2, r3]) rfl ?_
  exact RetZ.end3 F7 rfl hd7 hn7 hc7 _ _
end Go.Proofs.Ytehoafpnmfkniaa
