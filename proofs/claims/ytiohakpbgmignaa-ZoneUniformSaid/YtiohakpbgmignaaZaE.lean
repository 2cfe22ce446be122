/-
  Zones: spans; Light; LocalDays on both sides; the law on days.
-/
import Derived.Test.YtiohakpbgmignaaZaD
set_option linter.unusedVariables false
set_option linter.unusedSimpArgs false
namespace Go.Proofs.Ytiohakpbgmignaa
open Go.RowKit

def spanB (y z : Int) : Bool := decide (0 ≤ y ∧ y ≤ z ∧ z ≤ 52596000)
theorem spanB_in {y z : Int} (h : spanB y z = true) : 0 ≤ y ∧ y ≤ z ∧ z ≤ 52596000 := by unfold spanB at h; simpa using h
/-- A span in memory. -/
def BoxS (w : World) (b : Nat) (y z : Int) : Prop := w.cell? ⟨b, 0, none⟩ = some (.int .i64 y) ∧ w.cell? ⟨b, 1, none⟩ = some (.int .i64 z)
theorem boxS_new (w : World) (y z : Int) (t : TypeId) : BoxS (w.alloc (.cells #[.int .i64 y, .int .i64 z] t)) w.heap.size y z := ⟨by simp, by simp⟩
theorem BoxS.below {w w' : World} {b B : Nat} {y z : Int} (h : BoxS w b y z) (hb : Below B w w') (hB : b < B) : BoxS w' b y z :=
  ⟨(hb.cell (p := ⟨b, 0, none⟩) hB).trans h.1, (hb.cell (p := ⟨b, 1, none⟩) hB).trans h.2⟩
theorem BoxS.lt {w : World} {b : Nat} {y z : Int} (h : BoxS w b y z) : b < w.heap.size := World.block_lt_of_cell? _ _ h.1
theorem BoxS.call {w w' : World} {b : Nat} {y z : Int} (h : BoxS w b y z) (hb : Below w.heap.size w w') : BoxS w' b y z := h.below hb h.lt
/-- A zone and a span in memory. -/
structure KS (w w' : World) (bz bs : Nat) (nm : List UInt8) (o : Int) (a : Option Addr) (n c : Nat) (ss : List (Int × Int)) (y z : Int) : Prop where
  k : KZ w w' bz nm o a n c ss
  p : BoxS w' bs y z
theorem KS.start {w : World} {nm : List UInt8} {o : Int} {a : Option Addr} {n c : Nat} {ss : List (Int × Int)} (h : ShIn w a n ss) (y z : Int) (t s : TypeId) : KS w ((w.alloc (.cells #[.string ⟨nm.toArray⟩, .int .i64 o, .slice a n c] t)).alloc (.cells #[.int .i64 y, .int .i64 z] s)) w.heap.size (w.heap.size + 1) nm o a n c ss y z := by
  refine ⟨(KZ.start h t).call (cnew _ _), ?_⟩
  have := boxS_new (w.alloc (.cells #[.string ⟨nm.toArray⟩, .int .i64 o, .slice a n c] t)) y z s
  rwa [World.size_alloc] at this
theorem KS.call {w w1 w2 : World} {bz bs : Nat} {nm : List UInt8} {o : Int} {a : Option Addr} {n c : Nat} {ss : List (Int × Int)} {y z : Int} (h : KS w w1 bz bs nm o a n c ss y z) (g : Below w1.heap.size w1 w2) : KS w w2 bz bs nm o a n c ss y z := ⟨h.k.call g, h.p.call g⟩
set_option maxHeartbeats 8000000 in
set_option maxRecDepth 1000000 in
theorem isSpan_any (y z : Int) (w : World) : Calls Try.prog 41 #[.agg #[.int .i64 y, .int .i64 z]] w (RetB1 w (spanB y z)) := by
  obtain ⟨B, HB⟩ : ∃ v, Hid (spanB y z = v) := ⟨_, rfl⟩
  rw [HB.out]
  have hb := Lib.hid (boxS_new w y z 40)
  obtain ⟨b0, b1⟩ := hb.out
  by_cases h1 : 0 ≤ y
  · by_cases h2 : y ≤ z
    · by_cases h3 : z ≤ 52596000
      · obtain rfl : B = true := by rw [← HB.out]; simp [spanB, h1, h2, h3]
        go_enter Try.func41, Try.ntmps41
        go_wp2_with fail
        go_ret
        exact ⟨rfl, cnew _ _⟩
      · have h3' : decide (z ≤ 52596000) = false := by simpa using h3
        obtain rfl : B = false := by rw [← HB.out]; simp [spanB, h3]
        go_enter Try.func41, Try.ntmps41
        go_wp2_with fail
        go_ret
        exact ⟨rfl, cnew _ _⟩
    · have h2' : decide (y ≤ z) = false := by simpa using h2
      obtain rfl : B = false := by rw [← HB.out]; simp [spanB, h2]
      go_enter Try.func41, Try.ntmps41
      go_wp2_with fail
      go_ret
      exact ⟨rfl, cnew _ _⟩
  · have h1' : decide (0 ≤ y) = false := by simpa using h1
    obtain rfl : B = false := by rw [← HB.out]; simp [spanB, h1]
    go_enter Try.func41, Try.ntmps41
    go_wp2_with fail
    go_ret
    exact ⟨rfl, cnew _ _⟩
set_option maxHeartbeats 8000000 in
set_option maxRecDepth 1000000 in
theorem rspan_any (y z : Int) (w : World) : Calls Try.prog 42 #[.agg #[.int .i64 y, .int .i64 z]] w (RetB1 w (spanB y z)) := by
  obtain ⟨B, HB⟩ : ∃ v, Hid (spanB y z = v) := ⟨_, rfl⟩
  rw [HB.out]
  have hb := Lib.hid (boxS_new w y z 40)
  obtain ⟨b0, b1⟩ := hb.out
  by_cases h1 : 0 ≤ y
  · by_cases h2 : y ≤ z
    · by_cases h3 : z ≤ 52596000
      · obtain rfl : B = true := by rw [← HB.out]; simp [spanB, h1, h2, h3]
        go_enter Try.func42, Try.ntmps42
        go_wp2_with fail
        go_ret
        exact ⟨rfl, cnew _ _⟩
      · have h3' : decide (z ≤ 52596000) = false := by simpa using h3
        obtain rfl : B = false := by rw [← HB.out]; simp [spanB, h3]
        go_enter Try.func42, Try.ntmps42
        go_wp2_with fail
        go_ret
        exact ⟨rfl, cnew _ _⟩
    · have h2' : decide (y ≤ z) = false := by simpa using h2
      obtain rfl : B = false := by rw [← HB.out]; simp [spanB, h2]
      go_enter Try.func42, Try.ntmps42
      go_wp2_with fail
      go_ret
      exact ⟨rfl, cnew _ _⟩
  · have h1' : decide (0 ≤ y) = false := by simpa using h1
    obtain rfl : B = false := by rw [← HB.out]; simp [spanB, h1]
    go_enter Try.func42, Try.ntmps42
    go_wp2_with fail
    go_ret
    exact ⟨rfl, cnew _ _⟩
def RetB2 (w : World) (e : Ending) (w' : World) : Prop := ∃ b, e = .returned (.bool b) ∧ Below w.heap.size w w'
set_option maxHeartbeats 8000000 in
set_option maxRecDepth 1000000 in
theorem light7_any (nm : List UInt8) (o : Int) (a : Option Addr) (n c : Nat) (ss : List (Int × Int)) (y z : Int) (w : World) (hS : ShIn w a n ss) : Calls Try.prog 23 #[.agg #[.string ⟨nm.toArray⟩, .int .i64 o, .slice a n c], .agg #[.int .i64 y, .int .i64 z]] w (RetB2 w) := by
  have K0 := Lib.hid (KS.start (nm := nm) (o := o) (c := c) hS y z 24 40)
  obtain ⟨D, HD⟩ : ∃ v, IntKind.i64.wrap (z - y) = v := ⟨_, rfl⟩
  clear hS
  obtain ⟨b0, b1, b2⟩ := K0.out.k.z
  obtain ⟨c0, c1⟩ := K0.out.p
  by_cases h0 : (n : Int) ≤ 40
  · by_cases hc : y ≤ z
    · by_cases h1 : D ≤ 20000
      · skip
        go_enter Try.func23, Try.ntmps23
        go_wp2_with fail
        go_ret
        exact ⟨_, rfl, K0.out.k.b⟩
      · have h1' : decide (D ≤ 20000) = false := by simpa using h1
        by_cases h2 : 52596000 < z
        · skip
          go_enter Try.func23, Try.ntmps23
          go_wp2_with fail
          go_ret
          exact ⟨_, rfl, K0.out.k.b⟩
        · have h2' : decide (52596000 < z) = false := by simpa using h2
          by_cases h3 : y < 0
          · skip
            go_enter Try.func23, Try.ntmps23
            go_wp2_with fail
            go_ret
            exact ⟨_, rfl, K0.out.k.b⟩
          · have h3' : decide (y < 0) = false := by simpa using h3
            go_enter Try.func23, Try.ntmps23
            go_wp2_with fail
            go_ret
            exact ⟨_, rfl, K0.out.k.b⟩
    · have hc' : decide (y ≤ z) = false := by simpa using hc
      have hc2 : z < y := by omega
      by_cases h1 : D ≤ 20000
      · skip
        go_enter Try.func23, Try.ntmps23
        go_wp2_with fail
        go_ret
        exact ⟨_, rfl, K0.out.k.b⟩
      · have h1' : decide (D ≤ 20000) = false := by simpa using h1
        by_cases h2 : 52596000 < z
        · skip
          go_enter Try.func23, Try.ntmps23
          go_wp2_with fail
          go_ret
          exact ⟨_, rfl, K0.out.k.b⟩
        · have h2' : decide (52596000 < z) = false := by simpa using h2
          by_cases h3 : y < 0
          · skip
            go_enter Try.func23, Try.ntmps23
            go_wp2_with fail
            go_ret
            exact ⟨_, rfl, K0.out.k.b⟩
          · have h3' : decide (y < 0) = false := by simpa using h3
            go_enter Try.func23, Try.ntmps23
            go_wp2_with fail
            go_ret
            exact ⟨_, rfl, K0.out.k.b⟩
  · have h0' : decide ((n : Int) ≤ 40) = false := by simpa using h0
    go_enter Try.func23, Try.ntmps23
    go_wp2_with fail
    go_ret
    exact ⟨_, rfl, K0.out.k.b⟩
def ldE (E y z : Int) : Int := if E = 0 then (if spanB y z = true then (if y = z then 8 else 0) else 5) else E
def ldA (E o : Int) (ss : List (Int × Int)) (y z : Int) : Int := if ldE E y z = 0 then (y + offs o ss y) / 1440 else 0
def ldB (E o : Int) (ss : List (Int × Int)) (y z : Int) : Int := if ldE E y z = 0 then (z - 1 + offs o ss (z - 1)) / 1440 else 0
set_option maxHeartbeats 8000000 in
set_option maxRecDepth 1000000 in
theorem localDays_any (nm : List UInt8) (hnl : nm.length ≤ 9223372036854775807) (o : Int) (a : Option Addr) (n c : Nat) (ss : List (Int × Int)) (w : World) (hS : ShIn w a n ss) (hn : n ≤ 9223372036854775807) (y z : Int) :
    Calls Try.prog 24 #[.agg #[.string ⟨nm.toArray⟩, .int .i64 o, .slice a n c], .agg #[.int .i64 y, .int .i64 z]] w (RetTE w (ldA (zE (nameB nm) o ss) o ss y z) (ldB (zE (nameB nm) o ss) o ss y z) (ldE (zE (nameB nm) o ss) y z)) := by
  have hv := fun w hS => validate_any nm hnl o a n c ss w hS hn
  have hsp := isSpan_any y z
  have hl1 := fun w hS => localTime_any nm hnl o a n c ss w hS hn y
  have hl2 := fun w hS => localTime_any nm hnl o a n c ss w hS hn (z - 1)
  have K0 := Lib.hid (KS.start (nm := nm) (o := o) (c := c) hS y z 24 40)
  obtain ⟨E, HE⟩ : ∃ v, Hid (zE (nameB nm) o ss = v) := ⟨_, rfl⟩
  simp only [HE.out] at hv hl1 hl2
  rw [HE.out]
  have hA : ldA E o ss y z = if ldE E y z = 0 then (y + offs o ss y) / 1440 else 0 := rfl
  have hB : ldB E o ss y z = if ldE E y z = 0 then (z - 1 + offs o ss (z - 1)) / 1440 else 0 := rfl
  have hE : ldE E y z = if E = 0 then (if spanB y z = true then (if y = z then 8 else 0) else 5) else E := rfl
  obtain ⟨X, HX⟩ : ∃ v, Hid (ldE E y z = v) := ⟨_, rfl⟩
  obtain ⟨YA, HYA⟩ : ∃ v, Hid (ldA E o ss y z = v) := ⟨_, rfl⟩
  obtain ⟨YB, HYB⟩ : ∃ v, Hid (ldB E o ss y z = v) := ⟨_, rfl⟩
  rw [HX.out] at hA hB hE
  rw [HYA.out] at hA
  rw [HYB.out] at hB
  rw [HX.out, HYA.out, HYB.out]
  clear hS
  by_cases h0 : E = 0
  · subst h0
    rw [if_pos rfl] at hE
    have hsq := @spanB_in y z
    obtain ⟨Q, HQ⟩ : ∃ v, Hid (spanB y z = v) := ⟨_, rfl⟩
    rw [HQ.out] at hE hsp hsq
    cases Q with
    | false =>
      obtain rfl : X = 5 := hE
      obtain rfl : YA = 0 := hA
      obtain rfl : YB = 0 := hB
      clear hl1 hl2 hsq
      go_enter Try.func24, Try.ntmps24
      obtain ⟨b0, b1, b2⟩ := K0.out.k.z
      obtain ⟨c0, c1⟩ := K0.out.p
      go_wp2_with (first
        | (go_at_call 12; (with_reducible refine (hv _ K0.out.k.s).mono ?_); rintro e w1 ⟨rfl, g1⟩; have K1 := Lib.hid (K0.out.call g1); obtain ⟨d0, d1, d2⟩ := K1.out.k.z; obtain ⟨f0, f1⟩ := K1.out.p; clear g1)
        | (go_at_call 41; (with_reducible refine (hsp _).mono ?_); rintro e w2 ⟨rfl, g2⟩; have K2 := Lib.hid (K1.out.call g2); obtain ⟨i0, i1, i2⟩ := K2.out.k.z; obtain ⟨j0, j1⟩ := K2.out.p; clear g2)
        | fail)
      go_ret3
      exact ⟨rfl, K2.out.k.b⟩
    | true =>
      rw [if_pos rfl] at hE
      by_cases h1 : y = z
      · rw [if_pos h1] at hE
        obtain rfl : X = 8 := hE
        obtain rfl : YA = 0 := hA
        obtain rfl : YB = 0 := hB
        subst h1
        clear hl1 hl2 hsq
        go_enter Try.func24, Try.ntmps24
        obtain ⟨b0, b1, b2⟩ := K0.out.k.z
        obtain ⟨c0, c1⟩ := K0.out.p
        go_wp2_with (first
          | (go_at_call 12; (with_reducible refine (hv _ K0.out.k.s).mono ?_); rintro e w1 ⟨rfl, g1⟩; have K1 := Lib.hid (K0.out.call g1); obtain ⟨d0, d1, d2⟩ := K1.out.k.z; obtain ⟨f0, f1⟩ := K1.out.p; clear g1)
          | (go_at_call 41; (with_reducible refine (hsp _).mono ?_); rintro e w2 ⟨rfl, g2⟩; have K2 := Lib.hid (K1.out.call g2); obtain ⟨i0, i1, i2⟩ := K2.out.k.z; obtain ⟨j0, j1⟩ := K2.out.p; clear g2)
          | fail)
        go_ret3
        exact ⟨rfl, K2.out.k.b⟩
      · rw [if_neg h1] at hE
        obtain rfl : X = 0 := hE
        rw [if_pos rfl] at hA hB
        obtain ⟨s1, s2, s3⟩ := hsq rfl
        have t1 : okI y = true := by unfold okI; simp; omega
        have t2 : okI (z - 1) = true := by unfold okI; simp; omega
        have e1 : atE 0 y = 0 := by unfold atE; rw [if_pos rfl, if_pos t1]
        have e2 : atE 0 (z - 1) = 0 := by unfold atE; rw [if_pos rfl, if_pos t2]
        unfold ltD ltC at hl1 hl2
        simp only [e1, if_true, ← hA] at hl1
        simp only [e2, if_true, ← hB] at hl2
        obtain ⟨C1, HC1⟩ : ∃ v, Hid ((y + offs o ss y) % 1440 = v) := ⟨_, rfl⟩
        obtain ⟨C2, HC2⟩ : ∃ v, Hid ((z - 1 + offs o ss (z - 1)) % 1440 = v) := ⟨_, rfl⟩
        simp only [HC1.out] at hl1
        simp only [HC2.out] at hl2
        have w1 : IntKind.i64.wrap (z - 1) = z - 1 := IntWalk.i64_in _ (by omega)
        have h2 : (y == z) = false := by simpa using h1
        clear hsq hA hB t1 t2 e1 e2
        go_enter Try.func24, Try.ntmps24
        obtain ⟨b0, b1, b2⟩ := K0.out.k.z
        obtain ⟨c0, c1⟩ := K0.out.p
        go_wp2_with (first
          | (go_at_call 12; (with_reducible refine (hv _ K0.out.k.s).mono ?_); rintro e w1 ⟨rfl, g1⟩; have K1 := Lib.hid (K0.out.call g1); obtain ⟨d0, d1, d2⟩ := K1.out.k.z; obtain ⟨f0, f1⟩ := K1.out.p; clear g1)
          | (go_at_call 41; (with_reducible refine (hsp _).mono ?_); rintro e w2 ⟨rfl, g2⟩; have K2 := Lib.hid (K1.out.call g2); obtain ⟨i0, i1, i2⟩ := K2.out.k.z; obtain ⟨j0, j1⟩ := K2.out.p; clear g2)
          | (go_at_call 18; first | ((with_reducible refine (hl1 _ K2.out.k.s).mono ?_); rintro e w3 ⟨rfl, g3⟩; have K3 := Lib.hid (K2.out.call g3); obtain ⟨l0, l1, l2⟩ := K3.out.k.z; obtain ⟨m0, m1⟩ := K3.out.p; clear g3 hl1) | ((with_reducible refine (hl2 _ K3.out.k.s).mono ?_); rintro e w4 ⟨rfl, g4⟩; have K4 := Lib.hid (K3.out.call g4); clear g4))
          | fail)
        go_ret3
        exact ⟨rfl, K4.out.k.b⟩
  · rw [if_neg h0] at hE
    subst hE
    rw [if_neg h0] at hA hB
    subst hA hB
    have h1 : (X != 0) = true := by simpa using h0
    clear hl1 hl2
    go_enter Try.func24, Try.ntmps24
    obtain ⟨b0, b1, b2⟩ := K0.out.k.z
    obtain ⟨c0, c1⟩ := K0.out.p
    go_wp2_with (first
      | (go_at_call 12; (with_reducible refine (hv _ K0.out.k.s).mono ?_); rintro e w1 ⟨rfl, g1⟩; have K1 := Lib.hid (K0.out.call g1); obtain ⟨d0, d1, d2⟩ := K1.out.k.z; obtain ⟨f0, f1⟩ := K1.out.p; clear g1)
      | fail)
    go_ret3
    exact ⟨rfl, K1.out.k.b⟩
set_option maxHeartbeats 8000000 in
set_option maxRecDepth 1000000 in
theorem rlocalDays_any (nm : List UInt8) (hnl : nm.length ≤ 9223372036854775807) (o : Int) (a : Option Addr) (n c : Nat) (ss : List (Int × Int)) (w : World) (hS : ShIn w a n ss) (hn : n ≤ 9223372036854775807) (y z : Int) :
    Calls Try.prog 25 #[.agg #[.string ⟨nm.toArray⟩, .int .i64 o, .slice a n c], .agg #[.int .i64 y, .int .i64 z]] w (RetTE w (ldA (zE (nameB nm) o ss) o ss y z) (ldB (zE (nameB nm) o ss) o ss y z) (ldE (zE (nameB nm) o ss) y z)) := by
  have hv := fun w hS => rvalidate_any nm hnl o a n c ss w hS hn
  have hsp := rspan_any y z
  have hl1 := fun w hS => rlocalTime_any nm hnl o a n c ss w hS hn y
  have hl2 := fun w hS => rlocalTime_any nm hnl o a n c ss w hS hn (z - 1)
  have K0 := Lib.hid (KS.start (nm := nm) (o := o) (c := c) hS y z 24 40)
  obtain ⟨E, HE⟩ : ∃ v, Hid (zE (nameB nm) o ss = v) := ⟨_, rfl⟩
  simp only [HE.out] at hv hl1 hl2
  rw [HE.out]
  have hA : ldA E o ss y z = if ldE E y z = 0 then (y + offs o ss y) / 1440 else 0 := rfl
  have hB : ldB E o ss y z = if ldE E y z = 0 then (z - 1 + offs o ss (z - 1)) / 1440 else 0 := rfl
  have hE : ldE E y z = if E = 0 then (if spanB y z = true then (if y = z then 8 else 0) else 5) else E := rfl
  obtain ⟨X, HX⟩ : ∃ v, Hid (ldE E y z = v) := ⟨_, rfl⟩
  obtain ⟨YA, HYA⟩ : ∃ v, Hid (ldA E o ss y z = v) := ⟨_, rfl⟩
  obtain ⟨YB, HYB⟩ : ∃ v, Hid (ldB E o ss y z = v) := ⟨_, rfl⟩
  rw [HX.out] at hA hB hE
  rw [HYA.out] at hA
  rw [HYB.out] at hB
  rw [HX.out, HYA.out, HYB.out]
  clear hS
  by_cases h0 : E = 0
  · subst h0
    rw [if_pos rfl] at hE
    have hsq := @spanB_in y z
    obtain ⟨Q, HQ⟩ : ∃ v, Hid (spanB y z = v) := ⟨_, rfl⟩
    rw [HQ.out] at hE hsp hsq
    cases Q with
    | false =>
      obtain rfl : X = 5 := hE
      obtain rfl : YA = 0 := hA
      obtain rfl : YB = 0 := hB
      clear hl1 hl2 hsq
      go_enter Try.func25, Try.ntmps25
      obtain ⟨b0, b1, b2⟩ := K0.out.k.z
      obtain ⟨c0, c1⟩ := K0.out.p
      go_wp2_with (first
        | (go_at_call 13; (with_reducible refine (hv _ K0.out.k.s).mono ?_); rintro e w1 ⟨rfl, g1⟩; have K1 := Lib.hid (K0.out.call g1); obtain ⟨d0, d1, d2⟩ := K1.out.k.z; obtain ⟨f0, f1⟩ := K1.out.p; clear g1)
        | (go_at_call 42; (with_reducible refine (hsp _).mono ?_); rintro e w2 ⟨rfl, g2⟩; have K2 := Lib.hid (K1.out.call g2); obtain ⟨i0, i1, i2⟩ := K2.out.k.z; obtain ⟨j0, j1⟩ := K2.out.p; clear g2)
        | fail)
      go_ret3
      exact ⟨rfl, K2.out.k.b⟩
    | true =>
      rw [if_pos rfl] at hE
      by_cases h1 : y = z
      · rw [if_pos h1] at hE
        obtain rfl : X = 8 := hE
        obtain rfl : YA = 0 := hA
        obtain rfl : YB = 0 := hB
        subst h1
        clear hl1 hl2 hsq
        go_enter Try.func25, Try.ntmps25
        obtain ⟨b0, b1, b2⟩ := K0.out.k.z
        obtain ⟨c0, c1⟩ := K0.out.p
        go_wp2_with (first
          | (go_at_call 13; (with_reducible refine (hv _ K0.out.k.s).mono ?_); rintro e w1 ⟨rfl, g1⟩; have K1 := Lib.hid (K0.out.call g1); obtain ⟨d0, d1, d2⟩ := K1.out.k.z; obtain ⟨f0, f1⟩ := K1.out.p; clear g1)
          | (go_at_call 42; (with_reducible refine (hsp _).mono ?_); rintro e w2 ⟨rfl, g2⟩; have K2 := Lib.hid (K1.out.call g2); obtain ⟨i0, i1, i2⟩ := K2.out.k.z; obtain ⟨j0, j1⟩ := K2.out.p; clear g2)
          | fail)
        go_ret3
        exact ⟨rfl, K2.out.k.b⟩
      · rw [if_neg h1] at hE
        obtain rfl : X = 0 := hE
        rw [if_pos rfl] at hA hB
        obtain ⟨s1, s2, s3⟩ := hsq rfl
        have t1 : okI y = true := by unfold okI; simp; omega
        have t2 : okI (z - 1) = true := by unfold okI; simp; omega
        have e1 : atE 0 y = 0 := by unfold atE; rw [if_pos rfl, if_pos t1]
        have e2 : atE 0 (z - 1) = 0 := by unfold atE; rw [if_pos rfl, if_pos t2]
        unfold ltD ltC at hl1 hl2
        simp only [e1, if_true, ← hA] at hl1
        simp only [e2, if_true, ← hB] at hl2
        obtain ⟨C1, HC1⟩ : ∃ v, Hid ((y + offs o ss y) % 1440 = v) := ⟨_, rfl⟩
        obtain ⟨C2, HC2⟩ : ∃ v, Hid ((z - 1 + offs o ss (z - 1)) % 1440 = v) := ⟨_, rfl⟩
        simp only [HC1.out] at hl1
        simp only [HC2.out] at hl2
        have w1 : IntKind.i64.wrap (z - 1) = z - 1 := IntWalk.i64_in _ (by omega)
        have h2 : (y == z) = false := by simpa using h1
        clear hsq hA hB t1 t2 e1 e2
        go_enter Try.func25, Try.ntmps25
        obtain ⟨b0, b1, b2⟩ := K0.out.k.z
        obtain ⟨c0, c1⟩ := K0.out.p
        go_wp2_with (first
          | (go_at_call 13; (with_reducible refine (hv _ K0.out.k.s).mono ?_); rintro e w1 ⟨rfl, g1⟩; have K1 := Lib.hid (K0.out.call g1); obtain ⟨d0, d1, d2⟩ := K1.out.k.z; obtain ⟨f0, f1⟩ := K1.out.p; clear g1)
          | (go_at_call 42; (with_reducible refine (hsp _).mono ?_); rintro e w2 ⟨rfl, g2⟩; have K2 := Lib.hid (K1.out.call g2); obtain ⟨i0, i1, i2⟩ := K2.out.k.z; obtain ⟨j0, j1⟩ := K2.out.p; clear g2)
          | (go_at_call 19; first | ((with_reducible refine (hl1 _ K2.out.k.s).mono ?_); rintro e w3 ⟨rfl, g3⟩; have K3 := Lib.hid (K2.out.call g3); obtain ⟨l0, l1, l2⟩ := K3.out.k.z; obtain ⟨m0, m1⟩ := K3.out.p; clear g3 hl1) | ((with_reducible refine (hl2 _ K3.out.k.s).mono ?_); rintro e w4 ⟨rfl, g4⟩; have K4 := Lib.hid (K3.out.call g4); clear g4))
          | fail)
        go_ret3
        exact ⟨rfl, K4.out.k.b⟩
  · rw [if_neg h0] at hE
    subst hE
    rw [if_neg h0] at hA hB
    subst hA hB
    have h1 : (X != 0) = true := by simpa using h0
    clear hl1 hl2
    go_enter Try.func25, Try.ntmps25
    obtain ⟨b0, b1, b2⟩ := K0.out.k.z
    obtain ⟨c0, c1⟩ := K0.out.p
    go_wp2_with (first
      | (go_at_call 13; (with_reducible refine (hv _ K0.out.k.s).mono ?_); rintro e w1 ⟨rfl, g1⟩; have K1 := Lib.hid (K0.out.call g1); obtain ⟨d0, d1, d2⟩ := K1.out.k.z; obtain ⟨f0, f1⟩ := K1.out.p; clear g1)
      | fail)
    go_ret3
    exact ⟨rfl, K1.out.k.b⟩
set_option maxHeartbeats 8000000 in
set_option maxRecDepth 1000000 in
theorem zoneDays_any (nm : List UInt8) (hnl : nm.length ≤ 9223372036854775807) (o : Int) (a : Option Addr) (n c : Nat) (ss : List (Int × Int)) (w : World) (hS : ShIn w a n ss) (hn : n ≤ 9223372036854775807) (y z : Int) (hd : ((-9223372036854775808 ≤ y ∧ y ≤ 9223372036854775807) ∧ (-9223372036854775808 ≤ z ∧ z ≤ 9223372036854775807))) : Calls Try.prog 7 #[.agg #[.string ⟨nm.toArray⟩, .int .i64 o, .slice a n c], .agg #[.int .i64 y, .int .i64 z]] w (RetB1 w true) := by
  have hli := fun w hS => light7_any nm o a n c ss y z w hS
  have hp := fun w hS => localDays_any nm hnl o a n c ss w hS hn y z
  have hr := fun w hS => rlocalDays_any nm hnl o a n c ss w hS hn y z
  have K0 := Lib.hid (KS.start (nm := nm) (o := o) (c := c) hS y z 24 40)
  obtain ⟨E, HE⟩ : ∃ v, Hid (zE (nameB nm) o ss = v) := ⟨_, rfl⟩
  simp only [HE.out] at hp hr
  obtain ⟨X, HX⟩ : ∃ v, Hid (ldE E y z = v) := ⟨_, rfl⟩
  obtain ⟨YA, HYA⟩ : ∃ v, Hid (ldA E o ss y z = v) := ⟨_, rfl⟩
  obtain ⟨YB, HYB⟩ : ∃ v, Hid (ldB E o ss y z = v) := ⟨_, rfl⟩
  simp only [HX.out, HYA.out, HYB.out] at hp hr
  clear hS hd
  go_enter Try.func7, Try.ntmps7
  obtain ⟨b0, b1, b2⟩ := K0.out.k.z
  obtain ⟨c0, c1⟩ := K0.out.p
  go_upto_region 1 with fail
  go_wp2_with (first
    | (go_at_call 23; (with_reducible refine (hli _ K0.out.k.s).mono ?_); rintro e w1 ⟨L, rfl, g1⟩; have K1 := Lib.hid (K0.out.call g1); obtain ⟨d0, d1, d2⟩ := K1.out.k.z; obtain ⟨f0, f1⟩ := K1.out.p; clear g1; cases L)
    | (go_at_call 24; (with_reducible refine (hp _ K1.out.k.s).mono ?_); rintro e w2 ⟨rfl, g2⟩; have K2 := Lib.hid (K1.out.call g2); obtain ⟨i0, i1, i2⟩ := K2.out.k.z; obtain ⟨j0, j1⟩ := K2.out.p; clear g2)
    | (go_at_call 25; (with_reducible refine (hr _ K2.out.k.s).mono ?_); rintro e w3 ⟨rfl, g3⟩; have K3 := Lib.hid (K2.out.call g3); clear g3)
    | (go_at_call 11; (with_reducible refine (awake7_any _).mono ?_); rintro e w4 ⟨rfl, g4⟩)
    | fail)
  all_goals
    go_wp2_with (first
      | (go_at_call 24; (with_reducible refine (hp _ K1.out.k.s).mono ?_); rintro e w2 ⟨rfl, g2⟩; have K2 := Lib.hid (K1.out.call g2); obtain ⟨i0, i1, i2⟩ := K2.out.k.z; obtain ⟨j0, j1⟩ := K2.out.p; clear g2)
      | (go_at_call 25; (with_reducible refine (hr _ K2.out.k.s).mono ?_); rintro e w3 ⟨rfl, g3⟩; have K3 := Lib.hid (K2.out.call g3); clear g3)
      | (go_at_call 11; (with_reducible refine (awake7_any _).mono ?_); rintro e w4 ⟨rfl, g4⟩)
      | fail)
    go_ret
    first | exact ⟨rfl, (K3.out.call g4).k.b⟩ | exact ⟨rfl, (K1.out.call g4).k.b⟩
end Go.Proofs.Ytiohakpbgmignaa

