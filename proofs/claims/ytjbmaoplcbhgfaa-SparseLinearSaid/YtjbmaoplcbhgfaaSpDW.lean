/-
  The walk of the law SparseDense.
-/
import Derived.Test.YtjbmaoplcbhgfaaSpD
import Derived.Test.YtjbmaoplcbhgfaaSpS
import Derived.Test.YtjbmaoplcbhgfaaDotA
set_option linter.unusedVariables false
set_option linter.unusedSimpArgs false
namespace Go.Proofs.Ytjbmaoplcbhgfaa
open Go.RowKit

theorem small_any (n : Int) (w : World) : Calls Try.prog 31 #[.int .i64 n] w (RetB1 w (decide (n ≤ 60 ∨ 4096 < n))) := by
  go_enter Try.func31, Try.ntmps31
  by_cases h1 : n ≤ 60
  · have e : decide (n ≤ 60 ∨ 4096 < n) = true := by simp [h1]
    rw [e]
    go_wp2_with fail
    go_ret
    exact ⟨rfl, Below.refl _ _⟩
  · by_cases h2 : 4096 < n
    · have e : decide (n ≤ 60 ∨ 4096 < n) = true := by simp [h2]
      rw [e]
      go_wp2_with fail
      go_ret
      exact ⟨rfl, Below.refl _ _⟩
    · have e : decide (n ≤ 60 ∨ 4096 < n) = false := by simp [h1, h2]
      rw [e]
      go_wp2_with fail
      go_ret
      exact ⟨rfl, Below.refl _ _⟩
theorem same3_at {w : World} {A B : Option Addr} {c d : Nat} {l m : List VE} (hA : VC w A l) (hB : VC w B m) (h : l.map VE.v = m.map VE.v) (hl : l.length ≤ 1000000) :
    Calls Try.prog 37 #[.slice A l.length c, .slice B m.length d] w (RetT1 w) := by
  have hs := sameV_at (c := c) (d := d) hA hB h hl
  clear hA hB
  go_enter Try.func37, Try.ntmps37
  go_wp2_with (first
    | (go_at_call 85; (with_reducible refine hs.mono ?_); rintro e w1 ⟨rfl, g1⟩)
    | fail)
  go_ret
  exact ⟨rfl, g1⟩
/-- A slice of fractions of a parameter. -/
def FP (w : World) (A : Option Addr) (l : List FE) : Prop :=
  (∀ e ∈ l, FE.P w e) ∧ l.length ≤ 140737488351232 ∧ (0 < l.length → ∃ g o, A = some ⟨g, o, none⟩ ∧ g < w.heap.size ∧ ∀ k e, l[k]? = some e → FE.In w g (o + k * 4) e)
theorem FP.light {w w' : World} {A : Option Addr} {c : Nat} {l : List FE} (h : FP w A l) (hb : Below w.heap.size w w') (b : Bool) (hbb : b = true ↔ (∀ e ∈ l, e.n ≤ 12 ∧ e.m ≤ 12) ∧ l.length < 20) :
    Calls Try.prog 18 #[.slice A l.length c] w' (RetB1 w' b) := by
  refine lightL (fun e he => ?_) h.2.1 (fun hl => ?_) b hbb
  · obtain ⟨da, db, h1, h2, _, _⟩ := h.1 e he
    exact ⟨h1.2.2.2, h2.2.2.2⟩
  · obtain ⟨g, o, e1, e2, e3⟩ := h.2.2 hl
    exact ⟨g, o, e1, Nat.lt_of_lt_of_le e2 hb.size, fun k e hk => (e3 k e hk).call e2 hb⟩
theorem FP.fl {w : World} {A : Option Addr} {l : List FE} (h : FP w A l) (hl : ∀ e ∈ l, e.n ≤ 12 ∧ e.m ≤ 12) : FL w A l ∧ ∀ e ∈ l, FE.S 12 e := by
  have hA : ∀ e ∈ l, FE.At w e ∧ FE.S 12 e := fun e he => by
    obtain ⟨da, db, h1, h2, e1, e2⟩ := h.1 e he
    obtain ⟨n1, n2⟩ := hl e he
    unfold FE.At FE.S
    rw [e1, e2]
    exact ⟨⟨h1.i _ n1, h2.i _ n2⟩, h1.z _ n1, h2.z _ n2⟩
  exact ⟨⟨fun e he => (hA e he).1, h.2.2⟩, fun e he => (hA e he).2⟩

set_option maxHeartbeats 16000000 in
set_option maxRecDepth 100000 in
theorem dense_law (A B : Option Addr) (c d : Nat) (l : List FE) (v : List VE) (n i : Int) (w : World) (hP : FP w A l) (hV : VP w B v) (hn1 : -9223372036854775808 ≤ n) (hn2 : n ≤ 9223372036854775807) :
    Calls Try.prog 6 #[.slice A l.length c, .slice B v.length d, .int .i64 n, .int .i64 i] w (RetT1 w) := by
  have hlight := fun b hb => light3_1 (c := d) hV.ok b hb
  have hB0 : Below w.heap.size w (w.alloc (.cells #[.slice B v.length d] 48)) := bnew _ _
  by_cases h : (∀ x ∈ v, LtE x) ∧ v.length ≤ 60
  rotate_left
  · have hlight := hlight false ⟨fun h' => (by cases h'), fun h' => absurd h' h⟩
    clear h hV hP
    go_enter Try.func6, Try.ntmps6
    go_wp2_with (first
      | (go_at_call 30; (with_reducible refine hlight.mono ?_); rintro e w1 ⟨rfl, g1⟩)
      | (go_at_call 32; (with_reducible refine (awake3_any _).mono ?_); rintro e w4 ⟨rfl, g4⟩)
      | fail)
    go_ret
    exact ⟨rfl, bcall (bcall hB0 g1) g4⟩
  have hlight := hlight true (by simpa using h)
  by_cases h2 : (∀ e ∈ l, e.n ≤ 12 ∧ e.m ≤ 12) ∧ l.length < 20
  rotate_left
  · have hl2 := fun w' hb => hP.light (w' := w') (c := c) hb false ⟨fun h' => (by cases h'), fun h' => absurd h' h2⟩
    clear h hV hP h2
    go_enter Try.func6, Try.ntmps6
    go_wp2_with (first
      | (go_at_call 30; (with_reducible refine hlight.mono ?_); rintro e w1 ⟨rfl, g1⟩; have b1 := bcall hB0 g1)
      | (go_at_call 18; (with_reducible refine (hl2 _ b1).mono ?_); rintro e w2 ⟨rfl, g2⟩)
      | (go_at_call 32; (with_reducible refine (awake3_any _).mono ?_); rintro e w4 ⟨rfl, g4⟩)
      | fail)
    go_ret
    exact ⟨rfl, bcall (bcall b1 g2) g4⟩
  have hl2 := fun w' hb => hP.light (w' := w') (c := c) hb true (by simpa using h2)
  by_cases h3 : n ≤ 60 ∨ 4096 < n
  rotate_left
  · have hs := small_any n
    rw [show decide (n ≤ 60 ∨ 4096 < n) = false by simp; omega] at hs
    clear h hV hP h2 h3
    go_enter Try.func6, Try.ntmps6
    go_wp2_with (first
      | (go_at_call 30; (with_reducible refine hlight.mono ?_); rintro e w1 ⟨rfl, g1⟩; have b1 := bcall hB0 g1)
      | (go_at_call 18; (with_reducible refine (hl2 _ b1).mono ?_); rintro e w2 ⟨rfl, g2⟩)
      | (go_at_call 31; (with_reducible refine (hs _).mono ?_); rintro e w3 ⟨rfl, g3⟩)
      | (go_at_call 32; (with_reducible refine (awake3_any _).mono ?_); rintro e w4 ⟨rfl, g4⟩)
      | fail)
    go_ret
    exact ⟨rfl, bcall (bcall (bcall b1 g2) g3) g4⟩
  have hs := small_any n
  rw [show decide (n ≤ 60 ∨ 4096 < n) = true by simp; omega] at hs
  obtain ⟨hF, hFS⟩ := hP.fl h2.1
  have hW := hV.vl h.1
  have hWS := hV.sz h.1
  have c1 := fun w' hb => fromDense_at (w := w') (c := c) (hF.call hb) (fun e he => (hFS e he).mono (by decide)) (by omega)
  have c2 := fun w' hb => rfromDense_at (w := w') (c := c) (hF.call hb) (fun e he => (hFS e he).mono (by decide)) (by omega)
  have c3 := fun w' hb => toDense_at (w := w') (c := d) (n := n) (hW.call hb) (fun e he => (hWS e he).mono (by decide)) (by omega) hn1 hn2
  have c4 := fun w' hb => rtoDense_at (w := w') (c := d) (n := n) (hW.call hb) (fun e he => (hWS e he).mono (by decide)) (by omega) hn1 hn2
  have c5 := fun w' hb => at_at (w := w') (c := d) (i := i) (hW.call hb) (fun e he => (hWS e he).mono (by decide)) (by omega)
  have c6 := fun w' hb => rat_at (w := w') (c := d) (i := i) (hW.call hb) (fun e he => (hWS e he).mono (by decide)) (by omega)
  have s1 : (fdV 0 l).length ≤ 1000000 := by
    have h9 : ∀ (l : List FE) (j : Int), (fdV j l).length ≤ l.length := by
      intro l
      induction l with
      | nil => intro j; simp [fdV]
      | cons e l ih =>
        intro j
        have := ih (j + 1)
        unfold fdV
        rw [List.length_append, List.length_cons]
        split <;> simp <;> omega
    have := h9 l 0
    omega
  have s2 : (tdV v n).length ≤ 1000000 := by
    unfold tdV
    split
    · rename_i hz
      have := valid_zero hz
      unfold dnV
      rw [List.length_map, List.length_range]
      omega
    · simp
  obtain ⟨x, HX⟩ : ∃ u, Hid ((atV v i).1 = u) := ⟨_, rfl⟩
  obtain ⟨y, HY⟩ : ∃ u, Hid ((atV v i).2 = u) := ⟨_, rfl⟩
  obtain ⟨D, HD⟩ : ∃ u, Hid (fdV 0 l = u) := ⟨_, rfl⟩
  obtain ⟨T, HT⟩ : ∃ u, Hid (tdV v n = u) := ⟨_, rfl⟩
  obtain ⟨er, HE⟩ : ∃ u, Hid (valid v n = u) := ⟨_, rfl⟩
  obtain ⟨L, HL⟩ : ∃ u, Hid (l.length = u) := ⟨_, rfl⟩
  obtain ⟨M, HM⟩ : ∃ u, Hid (v.length = u) := ⟨_, rfl⟩
  simp only [HX.out, HY.out, HD.out, HT.out, HE.out, HL.out, HM.out] at c1 c2 c3 c4 c5 c6 s1 s2 hlight hl2 hB0 ⊢
  clear h hV hP h2 h3 hF hFS hW hWS
  have S1 := Lib.hid s1
  have S2 := Lib.hid s2
  have HB := Lib.hid hB0
  clear s1 s2 hB0
  go_enter Try.func6, Try.ntmps6
  go_upto_region 7 with (first
    | (go_at_call 30; (with_reducible refine hlight.mono ?_); clear hlight; rintro e w1 ⟨rfl, g1⟩; have b1 := bcall HB.out g1; clear g1)
    | (go_at_call 18; (with_reducible refine (hl2 _ b1).mono ?_); clear hl2; rintro e w2 ⟨rfl, g2⟩; have b2 := bcall b1 g2; clear b1 g2)
    | (go_at_call 31; (with_reducible refine (hs _).mono ?_); clear hs; rintro e w3 ⟨rfl, g3⟩; have b3 := bcall b2 g3; clear b2 g3)
    | (go_at_call 33; (with_reducible refine (c1 _ b3).mono ?_); clear c1; rintro e w4 ⟨A1, q1, l1, rfl, m1, v1, g4⟩; have b4 := bcall b3 g4; clear b3 g4)
    | (go_at_call 34; (with_reducible refine (c2 _ b4).mono ?_); clear c2; rintro e w5 ⟨A2, q2, l2, rfl, m2, v2, g5⟩; have v3 := v1.call g5; have b5 := bcall b4 g5; clear b4 g5 v1)
    | (go_at_call 35; (with_reducible refine (c3 _ b5).mono ?_); clear c3; rintro e w6 ⟨A3, q3, l3, rfl, m3, v6, g6⟩; have v4 := v2.call g6; have v5 := v3.call g6; have b6 := bcall b5 g6; clear b5 g6 v2 v3)
    | (go_at_call 36; (with_reducible refine (c4 _ b6).mono ?_); clear c4; rintro e w7 ⟨A4, q4, l4, rfl, m4, v7, g7⟩; have v8 := v4.call g7; have v9 := v5.call g7; have v10 := v6.call g7; have b7 := bcall b6 g7; clear b6 g7 v4 v5 v6)
    | fail)
  have e1 : Hid (l1.map VE.v = l2.map VE.v) := m1.trans m2.symm
  have e2 : Hid (l3.map FE.v = l4.map FE.v) := m3.trans m4.symm
  have y1 : Hid (l1.length ≤ 1000000) := by unfold Hid; have := congrArg List.length m1; rw [List.length_map] at this; rw [this]; exact S1.out
  have y2 : Hid (l3.length ≤ 1000000) := by unfold Hid; have := congrArg List.length m3; rw [List.length_map] at this; rw [this]; exact S2.out
  clear m1 m2 m3 m4
  have hs1 := fun w' hb => same3_at (w := w') (c := q1) (d := q2) (v9.call hb) (v8.call hb) e1.out y1.out
  have hs2 := fun w' hb => sameF_at (w := w') (c := q3) (d := q4) (v10.call hb) (v7.call hb) e2.out y2.out
  obtain ⟨L1, HL1⟩ : ∃ u, Hid (l1.length = u) := ⟨_, rfl⟩
  obtain ⟨L2, HL2⟩ : ∃ u, Hid (l2.length = u) := ⟨_, rfl⟩
  obtain ⟨L3, HL3⟩ : ∃ u, Hid (l3.length = u) := ⟨_, rfl⟩
  obtain ⟨L4, HL4⟩ : ∃ u, Hid (l4.length = u) := ⟨_, rfl⟩
  simp only [HL1.out, HL2.out, HL3.out, HL4.out] at hs1 hs2 ⊢
  clear v7 v8 v9 v10
  have HB7 := Lib.hid b7
  clear b7
  have b0 := Below.refl w7.heap.size w7
  have H0 := Lib.hid (St.start w7)
  go_wp2_with (first
    | (go_at_call 37; (with_reducible refine (hs1 _ b0).mono ?_); clear hs1; rintro e w8 ⟨rfl, g8⟩; have b8 := bcall b0 g8; clear b0 g8)
    | (go_at_call 38; (with_reducible refine (hs2 _ b8).mono ?_); clear hs2; rintro e w9 ⟨rfl, g9⟩; have b9 := bcall b8 g9; clear b8 g9)
    | (go_at_call 40; (with_reducible refine (c5 _ (bcall HB7.out b9)).mono ?_); clear c5; rintro e w10 ⟨D1, o1, r1, D2, o2, r2, rfl, e3, e4, g10⟩; have b10 := bcall b9 g10; have K1 := ((H0.out.call b10).add e4).add e3; clear b9 g10)
    | (go_at_call 41; (with_reducible refine (c6 _ (bcall HB7.out b10)).mono ?_); clear c6; rintro e w11 ⟨D3, o3, r3, D4, o4, r4, rfl, e5, e6, g11⟩; have b11 := bcall b10 g11; have K2 := ((K1.call g11).add e6).add e5; have i1 := K2.ints.1.c; have i2 := K2.ints.2.1.c; have i3 := K2.ints.2.2.1.c; have i4 := K2.ints.2.2.2.1.c; clear b10 g11)
    | (go_at_call 39; (with_reducible refine (sameFrac_at i3 i4 i1 i2).mono ?_); rintro e w12 ⟨rfl, g12⟩; have b12 := bcall b11 g12; clear b11 g12)
    | (go_at_call 32; (with_reducible refine (awake3_any _).mono ?_); rintro e w13 ⟨rfl, g13⟩; have b13 := bcall b12 g13)
    | fail)
  go_ret
  exact ⟨rfl, bcall HB7.out b13⟩
end Go.Proofs.Ytjbmaoplcbhgfaa

