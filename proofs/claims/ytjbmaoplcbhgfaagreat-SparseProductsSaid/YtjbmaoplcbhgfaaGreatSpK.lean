/-
  Errors of Dot, AddScaled and Scale; Scale on both sides.
-/
import Derived.Test.YtjbmaoplcbhgfaaGreatSpI
import Derived.Test.YtjbmaoplcbhgfaaGreatSpJ
set_option linter.unusedVariables false
set_option linter.unusedSimpArgs false
namespace Go.Proofs.YtjbmaoplcbhgfaaGreat
open Go.RowKit

/-- The error of two vectors. -/
def both (l m : List VE) (n : Int) : Int := if valid l n = 0 then valid m n else valid l n
theorem both_cases (l m : List VE) (n : Int) : both l m n = 0 ∨ both l m n = 5 ∨ both l m n = 8 ∨ both l m n = 11 := by
  unfold both
  split
  · exact valid_cases m n
  · exact valid_cases l n
theorem vbothE_at {w : World} {A B : Option Addr} {c d : Nat} {l m : List VE} {n : Int} (hA : VL w A l) (hB : VL w B m) (hl : l.length ≤ 1000000) (hm : m.length ≤ 1000000) :
    Calls Tryz.prog 24 #[.slice A l.length c, .slice B m.length d, .int .i64 n] w (RetN w (both l m n)) := by
  have H1 := valid_at (c := c) (n := n) hA hl
  have H2 := fun w' h => valid_at (w := w') (A := B) (c := d) (n := n) (l := m) h hm
  unfold both
  by_cases h0 : valid l n = 0
  · rw [if_pos h0]
    rw [h0] at H1
    obtain ⟨er, HE⟩ : ∃ u, Hid (valid m n = u) := ⟨_, rfl⟩
    rw [HE.out]
    simp only [HE.out] at H2
    go_enter Tryz.func24, Tryz.ntmps24
    go_wp2_with (first
      | (go_at_call_of 39 (Value.slice A l.length c); (with_reducible refine H1.mono ?_); clear H1; rintro e w1 ⟨rfl, g1⟩; have hB1 := hB.call g1; clear hB)
      | (go_at_call 39; (with_reducible refine (H2 _ hB1).mono ?_); rintro e w2 ⟨rfl, g2⟩)
      | fail)
    go_ret
    exact ⟨rfl, bcall g1 g2⟩
  · rw [if_neg h0]
    rcases valid_cases l n with h | h | h | h
    · exact absurd h h0
    all_goals
      rw [h] at H1 ⊢
      go_enter Tryz.func24, Tryz.ntmps24
      go_wp2_with (first
        | (go_at_call 39; (with_reducible refine H1.mono ?_); clear H1; rintro e w1 ⟨rfl, g1⟩)
        | fail)
      go_ret
      exact ⟨rfl, g1⟩

set_option maxHeartbeats 8000000 in
set_option maxRecDepth 100000 in
theorem dotE_at {w : World} {A B : Option Addr} {c d : Nat} {l m : List VE} {n : Int} (hA : VL w A l) (hB : VL w B m) (hl : l.length ≤ 1000000) (hm : m.length ≤ 1000000) (hE : both l m n ≠ 0) :
    Calls Tryz.prog 9 #[.slice A l.length c, .slice B m.length d, .int .i64 n] w (RetFE w 0 0 (both l m n)) := by
  have hb := fun w' (hb : Below w.heap.size w w') => vbothE_at (w := w') (c := c) (d := d) (n := n) (hA.call hb) (hB.call hb) hl hm
  have HH := Lib.hid ((St.start w).new 28 (Plains.four false none 0 0 false none 0 0))
  obtain ⟨er, HE⟩ : ∃ u, Hid (both l m n = u) := ⟨_, rfl⟩
  have hc := both_cases l m n
  rw [HE.out] at hE hc
  simp only [HE.out] at hb ⊢
  clear HE hA hB hl hm
  rcases hc with rfl | rfl | rfl | rfl
  · exact absurd rfl hE
  all_goals
    clear hE
    go_enter Tryz.func9, Tryz.ntmps9
    go_upto_region 3 with (first
      | (go_at_call 24; (with_reducible refine (hb _ HH.out.below).mono ?_); rintro e w1 ⟨rfl, g1⟩; have K1 := ((HH.out.call g1).add (CanAt.zero_ _)).add (CanAt.zero_ _); obtain ⟨⟨q0, q1, q2, q3⟩, _⟩ := K1.facts; obtain ⟨f0, f1, f2, f3⟩ := K1.free (i := 0) rfl)
      | fail)
    have K4 := K1.put4 0 rfl false none 0 0 false none 0 0
    simp only [List.set] at K4
    obtain ⟨⟨r0, r1, r2, r3⟩, _⟩ := K4.facts
    go_wp2_with fail
    exact bodyPost_ret (v := .tuple #[.agg #[.bool (decide ((0 : Int) < 0)), .slice none 0 0, .bool (decide ((0 : Int) < 0)), .slice none 0 0], .int .i64 _]) (by simp [results, Tryz.results9, go_sem, r0, r1, r2, r3]) rfl (RetFE.of_st (x := 0) (y := 0) K4)

set_option maxHeartbeats 8000000 in
set_option maxRecDepth 100000 in
theorem addE_at {w : World} {A B : Option Addr} {c d : Nat} {l m : List VE} {n : Int} (hA : VL w A l) (hB : VL w B m) (hl : l.length ≤ 1000000) (hm : m.length ≤ 1000000) (hE : both l m n ≠ 0) {ks kt : Bool} {kA kB : Option Addr} {kn kc km kd : Nat} :
    Calls Tryz.prog 11 #[.slice A l.length c, .slice B m.length d, .agg #[.bool ks, .slice kA kn kc, .bool kt, .slice kB km kd], .int .i64 n] w (RetV w [] (both l m n)) := by
  have hb := fun w' (hb : Below w.heap.size w w') => vbothE_at (w := w') (c := c) (d := d) (n := n) (hA.call hb) (hB.call hb) hl hm
  have hb0 : Below w.heap.size w (w.alloc (.cells #[.bool ks, .slice kA kn kc, .bool kt, .slice kB km kd] 28)) := bnew _ _
  obtain ⟨er, HE⟩ : ∃ u, Hid (both l m n = u) := ⟨_, rfl⟩
  have hc := both_cases l m n
  rw [HE.out] at hE hc
  simp only [HE.out] at hb ⊢
  clear HE hA hB hl hm
  rcases hc with rfl | rfl | rfl | rfl
  · exact absurd rfl hE
  all_goals
    clear hE
    go_enter Tryz.func11, Tryz.ntmps11
    go_wp2_with (first
      | (go_at_call 24; (with_reducible refine (hb _ hb0).mono ?_); rintro e w1 ⟨rfl, g1⟩)
      | fail)
    go_ret2
    exact ⟨none, 0, [], rfl, rfl, ⟨fun e he => (by cases he), fun h => (by simp at h)⟩, bcall hb0 g1⟩

set_option maxHeartbeats 8000000 in
set_option maxRecDepth 100000 in
theorem rdotE_at {w : World} {A B : Option Addr} {c d : Nat} {l m : List VE} {n : Int} (hA : VL w A l) (hB : VL w B m) (hSa : ∀ x ∈ l, FE.S 12 x.e) (hSb : ∀ x ∈ m, FE.S 12 x.e) (hl : l.length ≤ 1000000) (hm : m.length ≤ 1000000) (hn1 : -9223372036854775808 ≤ n) (hn2 : n ≤ 9223372036854775807) (hE : both l m n ≠ 0) :
    Calls Tryz.prog 10 #[.slice A l.length c, .slice B m.length d, .int .i64 n] w (RetFE w 0 0 (both l m n)) := by
  have hv1 := fun w' (hb : Below w.heap.size w w') => rvalid_at (w := w') (c := c) (n := n) (hA.call hb) (fun e he => (hSa e he).mono (by decide)) (by omega) hn1 hn2
  have hv2 := fun w' (hb : Below w.heap.size w w') => rvalid_at (w := w') (c := d) (n := n) (hB.call hb) (fun e he => (hSb e he).mono (by decide)) (by omega) hn1 hn2
  have HH := Lib.hid ((St.start w).new 28 (Plains.four false none 0 0 false none 0 0))
  unfold both at hE ⊢
  by_cases h0 : valid l n = 0
  · rw [if_pos h0] at hE ⊢
    simp only [h0] at hv1
    have hc := valid_cases m n
    obtain ⟨er, HEr⟩ : ∃ u, Hid (valid m n = u) := ⟨_, rfl⟩
    rw [HEr.out] at hE hc
    simp only [HEr.out] at hv2 ⊢
    clear HEr hA hB hSa hSb hl hm h0
    rcases hc with rfl | rfl | rfl | rfl
    · exact absurd rfl hE
    all_goals
      clear hE
      go_enter Tryz.func10, Tryz.ntmps10
      go_upto_region 6 with (first
        | (go_at_call 26; (with_reducible refine (hv1 _ HH.out.below).mono ?_); clear hv1; rintro e w1 ⟨rfl, g1⟩; have K0 := HH.out.call g1)
        | (go_at_call 26; (with_reducible refine (hv2 _ K0.below).mono ?_); rintro e w2 ⟨rfl, g2⟩; have K1 := ((K0.call g2).add (CanAt.zero_ _)).add (CanAt.zero_ _); obtain ⟨⟨q0, q1, q2, q3⟩, _⟩ := K1.facts; obtain ⟨f0, f1, f2, f3⟩ := K1.free (i := 0) rfl)
        | fail)
      have K4 := K1.put4 0 rfl false none 0 0 false none 0 0
      simp only [List.set] at K4
      obtain ⟨⟨r0, r1, r2, r3⟩, _⟩ := K4.facts
      go_wp2_with fail
      exact bodyPost_ret (v := .tuple #[.agg #[.bool (decide ((0 : Int) < 0)), .slice none 0 0, .bool (decide ((0 : Int) < 0)), .slice none 0 0], .int .i64 _]) (by simp [results, Tryz.results10, go_sem, r0, r1, r2, r3]) rfl (RetFE.of_st (x := 0) (y := 0) K4)
  · rw [if_neg h0] at hE ⊢
    have hc := valid_cases l n
    obtain ⟨er, HEr⟩ : ∃ u, Hid (valid l n = u) := ⟨_, rfl⟩
    rw [HEr.out] at hE hc
    simp only [HEr.out] at hv1 ⊢
    clear HEr hA hB hSa hSb hl hm h0 hv2
    rcases hc with rfl | rfl | rfl | rfl
    · exact absurd rfl hE
    all_goals
      clear hE
      go_enter Tryz.func10, Tryz.ntmps10
      go_upto_region 3 with (first
        | (go_at_call 26; (with_reducible refine (hv1 _ HH.out.below).mono ?_); rintro e w1 ⟨rfl, g1⟩; have K1 := ((HH.out.call g1).add (CanAt.zero_ _)).add (CanAt.zero_ _); obtain ⟨⟨q0, q1, q2, q3⟩, _⟩ := K1.facts; obtain ⟨f0, f1, f2, f3⟩ := K1.free (i := 0) rfl)
        | fail)
      have K4 := K1.put4 0 rfl false none 0 0 false none 0 0
      simp only [List.set] at K4
      obtain ⟨⟨r0, r1, r2, r3⟩, _⟩ := K4.facts
      go_wp2_with fail
      exact bodyPost_ret (v := .tuple #[.agg #[.bool (decide ((0 : Int) < 0)), .slice none 0 0, .bool (decide ((0 : Int) < 0)), .slice none 0 0], .int .i64 _]) (by simp [results, Tryz.results10, go_sem, r0, r1, r2, r3]) rfl (RetFE.of_st (x := 0) (y := 0) K4)

set_option maxHeartbeats 8000000 in
set_option maxRecDepth 100000 in
theorem raddE_at {w : World} {A B : Option Addr} {c d : Nat} {l m : List VE} {n : Int} (hA : VL w A l) (hB : VL w B m) (hSa : ∀ x ∈ l, FE.S 12 x.e) (hSb : ∀ x ∈ m, FE.S 12 x.e) (hl : l.length ≤ 1000000) (hm : m.length ≤ 1000000) (hn1 : -9223372036854775808 ≤ n) (hn2 : n ≤ 9223372036854775807) (hE : both l m n ≠ 0) {ks kt : Bool} {kA kB : Option Addr} {kn kc km kd : Nat} :
    Calls Tryz.prog 12 #[.slice A l.length c, .slice B m.length d, .agg #[.bool ks, .slice kA kn kc, .bool kt, .slice kB km kd], .int .i64 n] w (RetV w [] (both l m n)) := by
  have htd := fun w' (hb : Below w.heap.size w w') => rtoDense_at (w := w') (c := c) (n := n) (hA.call hb) (fun e he => (hSa e he).mono (by decide)) (by omega) hn1 hn2
  have hv2 := fun w' (hb : Below w.heap.size w w') => rvalid_at (w := w') (c := d) (n := n) (hB.call hb) (fun e he => (hSb e he).mono (by decide)) (by omega) hn1 hn2
  have hb0 : Below w.heap.size w (w.alloc (.cells #[.bool ks, .slice kA kn kc, .bool kt, .slice kB km kd] 28)) := bnew _ _
  unfold both at hE ⊢
  by_cases h0 : valid l n = 0
  · rw [if_pos h0] at hE ⊢
    simp only [h0] at htd
    have hc := valid_cases m n
    obtain ⟨er, HEr⟩ : ∃ u, Hid (valid m n = u) := ⟨_, rfl⟩
    rw [HEr.out] at hE hc
    simp only [HEr.out] at hv2 ⊢
    clear HEr hA hB hSa hSb hl hm h0
    rcases hc with rfl | rfl | rfl | rfl
    · exact absurd rfl hE
    all_goals
      clear hE
      go_enter Tryz.func12, Tryz.ntmps12
      go_wp2_with (first
        | (go_at_call 34; (with_reducible refine (htd _ hb0).mono ?_); clear htd; rintro e w1 ⟨A1, q1, l1, rfl, m1, v1, g1⟩; have b1 := bcall hb0 g1)
        | (go_at_call 26; (with_reducible refine (hv2 _ b1).mono ?_); rintro e w2 ⟨rfl, g2⟩)
        | fail)
      go_ret2
      exact ⟨none, 0, [], rfl, rfl, ⟨fun e he => (by cases he), fun h => (by simp at h)⟩, bcall b1 g2⟩
  · rw [if_neg h0] at hE ⊢
    have hc := valid_cases l n
    obtain ⟨er, HEr⟩ : ∃ u, Hid (valid l n = u) := ⟨_, rfl⟩
    rw [HEr.out] at hE hc
    simp only [HEr.out] at htd ⊢
    clear HEr hA hB hSa hSb hl hm h0 hv2
    rcases hc with rfl | rfl | rfl | rfl
    · exact absurd rfl hE
    all_goals
      clear hE
      go_enter Tryz.func12, Tryz.ntmps12
      go_wp2_with (first
        | (go_at_call 34; (with_reducible refine (htd _ hb0).mono ?_); clear htd; rintro e w1 ⟨A1, q1, l1, rfl, m1, v1, g1⟩; have b1 := bcall hb0 g1)
        | fail)
      go_ret2
      exact ⟨none, 0, [], rfl, rfl, ⟨fun e he => (by cases he), fun h => (by simp at h)⟩, b1⟩

theorem scale_of {w : World} {A : Option Addr} {c : Nat} {L : Nat} {n : Int} {ks kt : Bool} {kA kB : Option Addr} {kn kc km kd : Nat} {V : List (Int × Int × Int)} {er : Int}
    (h : ∀ w', Below w.heap.size w w' → Calls Tryz.prog 11 #[.slice none 0 0, .slice A L c, .agg #[.bool ks, .slice kA kn kc, .bool kt, .slice kB km kd], .int .i64 n] w' (RetV w' V er)) :
    Calls Tryz.prog 13 #[.slice A L c, .agg #[.bool ks, .slice kA kn kc, .bool kt, .slice kB km kd], .int .i64 n] w (RetV w V er) := by
  have K := (St.start w).new 28 (Plains.four ks kA kn kc kt kB km kd)
  have hb0 := K.below
  obtain ⟨⟨p0, p1, p2, p3⟩, _⟩ := K.facts
  go_enter Tryz.func13, Tryz.ntmps13
  go_wp2_with (first
    | (go_at_call 11; (with_reducible refine (h _ hb0).mono ?_); rintro e w1 ⟨A1, q1, l1, rfl, m1, v1, g1⟩)
    | fail)
  go_ret2
  exact ⟨A1, q1, l1, rfl, m1, v1, bcall hb0 g1⟩
theorem rscale_of {w : World} {A : Option Addr} {c : Nat} {L : Nat} {n : Int} {ks kt : Bool} {kA kB : Option Addr} {kn kc km kd : Nat} {V : List (Int × Int × Int)} {er : Int}
    (h : ∀ w', Below w.heap.size w w' → Calls Tryz.prog 12 #[.slice none 0 0, .slice A L c, .agg #[.bool ks, .slice kA kn kc, .bool kt, .slice kB km kd], .int .i64 n] w' (RetV w' V er)) :
    Calls Tryz.prog 14 #[.slice A L c, .agg #[.bool ks, .slice kA kn kc, .bool kt, .slice kB km kd], .int .i64 n] w (RetV w V er) := by
  have K := (St.start w).new 28 (Plains.four ks kA kn kc kt kB km kd)
  have hb0 := K.below
  obtain ⟨⟨p0, p1, p2, p3⟩, _⟩ := K.facts
  go_enter Tryz.func14, Tryz.ntmps14
  go_wp2_with (first
    | (go_at_call 12; (with_reducible refine (h _ hb0).mono ?_); rintro e w1 ⟨A1, q1, l1, rfl, m1, v1, g1⟩)
    | fail)
  go_ret2
  exact ⟨A1, q1, l1, rfl, m1, v1, bcall hb0 g1⟩
theorem VL.nil (w : World) : VL w none [] := ⟨fun x hx => (by cases hx), fun h => (by simp at h)⟩
theorem both_nil (l : List VE) (n : Int) : both [] l n = valid l n := by
  unfold both
  by_cases h : n < 0 ∨ 4096 < n
  · have h1 : ∀ m : List VE, valid m n = 5 := fun m => by unfold valid; rw [if_pos h]
    rw [h1, h1]; rfl
  · have h1 : valid [] n = 0 := by unfold valid; rw [if_neg h]; rfl
    rw [if_pos h1]
end Go.Proofs.YtjbmaoplcbhgfaaGreat

