/-
  Zones in memory; the small tests; Validate on both sides.
-/
import Derived.Test.YtiohakpbgmignaaZaI
import Derived.Test.YtiohakpbgmignaaCaI
import Derived.Deep.RegionHeld3
set_option linter.unusedVariables false
set_option linter.unusedSimpArgs false
namespace Go.Proofs.Ytiohakpbgmignaa
open Go.RowKit

/-- The slice at a reads as the shifts ss. -/
def ShIn (w : World) (a : Option Addr) (n : Nat) (ss : List (Int × Int)) : Prop :=
  ss.length = n ∧ (n = 0 ∨ ∃ g o, a = some ⟨g, o, none⟩ ∧ g < w.heap.size ∧ ∀ i, i < n → w.cell? ⟨g, o + i * 2, none⟩ = some (.int .i64 (atS ss i)) ∧ w.cell? ⟨g, o + i * 2 + 1, none⟩ = some (.int .i64 (ofS ss i)))
theorem ShIn.call {w w' : World} {a : Option Addr} {n : Nat} {ss : List (Int × Int)} (h : ShIn w a n ss) (hb : Below w.heap.size w w') : ShIn w' a n ss := by
  obtain ⟨hl, h⟩ := h
  refine ⟨hl, ?_⟩
  rcases h with h | ⟨g, o, e1, e2, e3⟩
  · exact .inl h
  · exact .inr ⟨g, o, e1, Nat.lt_of_lt_of_le e2 hb.size, fun i hi => ⟨(hb.cell (p := ⟨g, o + i * 2, none⟩) e2).trans (e3 i hi).1, (hb.cell (p := ⟨g, o + i * 2 + 1, none⟩) e2).trans (e3 i hi).2⟩⟩
theorem ShIn.kept {w w' : World} {a : Option Addr} {n : Nat} {ss : List (Int × Int)} (h : ShIn w a n ss) (hs : w.heap.size ≤ w'.heap.size) (hk : ∀ g o, a = some ⟨g, o, none⟩ → g < w.heap.size → (∃ v, w.cell? ⟨g, o, none⟩ = some v) → w'.heap[g]? = w.heap[g]?) : ShIn w' a n ss := by
  obtain ⟨hl, h⟩ := h
  refine ⟨hl, ?_⟩
  rcases h with h | ⟨g, o, e1, e2, e3⟩
  · exact .inl h
  · rcases Nat.eq_zero_or_pos n with h0 | h0
    · exact .inl h0
    · have hg := hk g o e1 e2 ⟨_, by have := (e3 0 h0).1; simpa using this⟩
      exact .inr ⟨g, o, e1, Nat.lt_of_lt_of_le e2 hs, fun i hi => ⟨(World.cell?_of_block hg).trans (e3 i hi).1, (World.cell?_of_block hg).trans (e3 i hi).2⟩⟩

/-- A zone in memory. -/
def BoxZ (w : World) (b : Nat) (nm : List UInt8) (o : Int) (a : Option Addr) (n c : Nat) : Prop := w.cell? ⟨b, 0, none⟩ = some (.string ⟨nm.toArray⟩) ∧ w.cell? ⟨b, 1, none⟩ = some (.int .i64 o) ∧ w.cell? ⟨b, 2, none⟩ = some (.slice a n c)
theorem boxZ_new (w : World) (nm : List UInt8) (o : Int) (a : Option Addr) (n c : Nat) (t : TypeId) : BoxZ (w.alloc (.cells #[.string ⟨nm.toArray⟩, .int .i64 o, .slice a n c] t)) w.heap.size nm o a n c := ⟨by simp, by simp, by simp⟩
theorem BoxZ.below {w w' : World} {b B : Nat} {nm : List UInt8} {o : Int} {a : Option Addr} {n c : Nat} (h : BoxZ w b nm o a n c) (hb : Below B w w') (hB : b < B) : BoxZ w' b nm o a n c :=
  ⟨(hb.cell (p := ⟨b, 0, none⟩) hB).trans h.1, (hb.cell (p := ⟨b, 1, none⟩) hB).trans h.2.1, (hb.cell (p := ⟨b, 2, none⟩) hB).trans h.2.2⟩
theorem BoxZ.lt {w : World} {b : Nat} {nm : List UInt8} {o : Int} {a : Option Addr} {n c : Nat} (h : BoxZ w b nm o a n c) : b < w.heap.size := World.block_lt_of_cell? _ _ h.1
theorem BoxZ.call {w w' : World} {b : Nat} {nm : List UInt8} {o : Int} {a : Option Addr} {n c : Nat} (h : BoxZ w b nm o a n c) (hb : Below w.heap.size w w') : BoxZ w' b nm o a n c := h.below hb h.lt

def RetE (w : World) (z : Int) (e : Ending) (w' : World) : Prop := e = .returned (.int .i64 z) ∧ Below w.heap.size w w'
def isClockB (t : Int) : Bool := decide (0 ≤ t ∧ t < 1440)
set_option maxHeartbeats 2000000 in
theorem isOffset_any (t : Int) (w : World) : Calls Try.prog 32 #[.int .i64 t] w (RetQ w (okO t)) := by
  obtain ⟨B, HB⟩ : ∃ v, Hid (okO t = v) := ⟨_, rfl⟩
  rw [HB.out]
  by_cases h1 : -840 ≤ t
  · by_cases h2 : t ≤ 840
    · obtain rfl : B = true := by rw [← HB.out]; simp [okO, h1, h2]
      go_enter Try.func32, Try.ntmps32
      go_wp2
      go_ret
      exact ⟨rfl, rfl⟩
    · obtain rfl : B = false := by rw [← HB.out]; simp [okO, h2]
      go_enter Try.func32, Try.ntmps32
      go_wp2
      go_ret
      exact ⟨rfl, rfl⟩
  · obtain rfl : B = false := by rw [← HB.out]; simp [okO, h1]
    go_enter Try.func32, Try.ntmps32
    go_wp2
    go_ret
    exact ⟨rfl, rfl⟩
set_option maxHeartbeats 2000000 in
theorem isInstant_any (t : Int) (w : World) : Calls Try.prog 33 #[.int .i64 t] w (RetQ w (okI t)) := by
  obtain ⟨B, HB⟩ : ∃ v, Hid (okI t = v) := ⟨_, rfl⟩
  rw [HB.out]
  by_cases h1 : 0 ≤ t
  · by_cases h2 : t < 52596000
    · obtain rfl : B = true := by rw [← HB.out]; simp [okI, h1, h2]
      go_enter Try.func33, Try.ntmps33
      go_wp2
      go_ret
      exact ⟨rfl, rfl⟩
    · obtain rfl : B = false := by rw [← HB.out]; simp [okI, h2]
      go_enter Try.func33, Try.ntmps33
      go_wp2
      go_ret
      exact ⟨rfl, rfl⟩
  · obtain rfl : B = false := by rw [← HB.out]; simp [okI, h1]
    go_enter Try.func33, Try.ntmps33
    go_wp2
    go_ret
    exact ⟨rfl, rfl⟩
set_option maxHeartbeats 2000000 in
theorem isClock_any (t : Int) (w : World) : Calls Try.prog 39 #[.int .i64 t] w (RetQ w (isClockB t)) := by
  obtain ⟨B, HB⟩ : ∃ v, Hid (isClockB t = v) := ⟨_, rfl⟩
  rw [HB.out]
  by_cases h1 : 0 ≤ t
  · by_cases h2 : t < 1440
    · obtain rfl : B = true := by rw [← HB.out]; simp [isClockB, h1, h2]
      go_enter Try.func39, Try.ntmps39
      go_wp2
      go_ret
      exact ⟨rfl, rfl⟩
    · obtain rfl : B = false := by rw [← HB.out]; simp [isClockB, h2]
      go_enter Try.func39, Try.ntmps39
      go_wp2
      go_ret
      exact ⟨rfl, rfl⟩
  · obtain rfl : B = false := by rw [← HB.out]; simp [isClockB, h1]
    go_enter Try.func39, Try.ntmps39
    go_wp2
    go_ret
    exact ⟨rfl, rfl⟩
set_option maxHeartbeats 2000000 in
theorem roffset_any (t : Int) (w : World) : Calls Try.prog 35 #[.int .i64 t] w (RetQ w (okO t)) := by
  obtain ⟨B, HB⟩ : ∃ v, Hid (okO t = v) := ⟨_, rfl⟩
  rw [HB.out]
  by_cases h1 : -840 ≤ t
  · by_cases h2 : t ≤ 840
    · obtain rfl : B = true := by rw [← HB.out]; simp [okO, h1, h2]
      go_enter Try.func35, Try.ntmps35
      go_wp2
      go_ret
      exact ⟨rfl, rfl⟩
    · obtain rfl : B = false := by rw [← HB.out]; simp [okO, h2]
      go_enter Try.func35, Try.ntmps35
      go_wp2
      go_ret
      exact ⟨rfl, rfl⟩
  · obtain rfl : B = false := by rw [← HB.out]; simp [okO, h1]
    go_enter Try.func35, Try.ntmps35
    go_wp2
    go_ret
    exact ⟨rfl, rfl⟩
set_option maxHeartbeats 2000000 in
theorem rinstant_any (t : Int) (w : World) : Calls Try.prog 36 #[.int .i64 t] w (RetQ w (okI t)) := by
  obtain ⟨B, HB⟩ : ∃ v, Hid (okI t = v) := ⟨_, rfl⟩
  rw [HB.out]
  by_cases h1 : 0 ≤ t
  · by_cases h2 : t < 52596000
    · obtain rfl : B = true := by rw [← HB.out]; simp [okI, h1, h2]
      go_enter Try.func36, Try.ntmps36
      go_wp2
      go_ret
      exact ⟨rfl, rfl⟩
    · obtain rfl : B = false := by rw [← HB.out]; simp [okI, h2]
      go_enter Try.func36, Try.ntmps36
      go_wp2
      go_ret
      exact ⟨rfl, rfl⟩
  · obtain rfl : B = false := by rw [← HB.out]; simp [okI, h1]
    go_enter Try.func36, Try.ntmps36
    go_wp2
    go_ret
    exact ⟨rfl, rfl⟩
set_option maxHeartbeats 8000000 in
set_option maxRecDepth 100000 in
theorem validate_any (nm : List UInt8) (hnl : nm.length ≤ 9223372036854775807) (o : Int) (a : Option Addr) (n c : Nat) (ss : List (Int × Int)) (w : World) (hS : ShIn w a n ss) (hn : n ≤ 9223372036854775807) :
    Calls Try.prog 12 #[.agg #[.string ⟨nm.toArray⟩, .int .i64 o, .slice a n c]] w (RetE w (zE (nameB nm) o ss)) := by
  have hnm := pIsName_any nm hnl
  have ho := isOffset_any
  have hi := isInstant_any
  have hoo := ho o
  have HB0 := Lib.hid (boxZ_new w nm o a n c 24)
  have HS := Lib.hid hS
  have hdef : zE (nameB nm) o ss = if nameB nm = false then 1 else if okO o = false then 5 else if 16 < n then 10 else shE (prevS ss 0) (ss.drop 0) := by unfold zE; rw [hS.1]; rfl
  obtain ⟨V, HV⟩ : ∃ v, Hid (zE (nameB nm) o ss = v) := ⟨_, rfl⟩
  obtain ⟨N, HN⟩ : ∃ v, Hid (nameB nm = v) := ⟨_, rfl⟩
  obtain ⟨Q, HQ⟩ : ∃ v, Hid (okO o = v) := ⟨_, rfl⟩
  rw [HV.out, HN.out, HQ.out] at hdef
  rw [HV.out]
  rw [HN.out] at hnm
  rw [HQ.out] at hoo
  clear hS
  cases N with
  | false =>
    obtain rfl : V = 1 := hdef
    go_enter Try.func12, Try.ntmps12
    obtain ⟨b0, b1, b2⟩ := HB0.out
    go_wp2_with (first
      | (go_at_call 31; (with_reducible refine (hnm _).mono ?_); rintro e w1 ⟨rfl, g1⟩; have HB1 := Lib.hid (HB0.out.call g1); have G1 := Lib.hid (ccall g1); obtain ⟨b0, b1, b2⟩ := HB1.out; clear g1)
      | fail)
    go_ret
    exact ⟨rfl, G1.out⟩
  | true =>
    rw [if_neg (by simp)] at hdef
    cases Q with
    | false =>
      obtain rfl : V = 5 := hdef
      go_enter Try.func12, Try.ntmps12
      obtain ⟨b0, b1, b2⟩ := HB0.out
      go_wp2_with (first
        | (go_at_call 31; (with_reducible refine (hnm _).mono ?_); rintro e w1 ⟨rfl, g1⟩; have HB1 := Lib.hid (HB0.out.call g1); have G1 := Lib.hid (ccall g1); obtain ⟨b0, b1, b2⟩ := HB1.out; clear g1)
        | (go_at_call 32; (with_reducible refine (hoo _).mono ?_); rintro e w2 ⟨rfl, rfl⟩)
        | fail)
      go_ret
      exact ⟨rfl, G1.out⟩
    | true =>
      rw [if_neg (by simp)] at hdef
      by_cases hbig : 16 < n
      · rw [if_pos hbig] at hdef
        obtain rfl : V = 10 := hdef
        have q1 : (16 : Int) < (n : Int) := by omega
        go_enter Try.func12, Try.ntmps12
        obtain ⟨b0, b1, b2⟩ := HB0.out
        go_wp2_with (first
          | (go_at_call 31; (with_reducible refine (hnm _).mono ?_); rintro e w1 ⟨rfl, g1⟩; have HB1 := Lib.hid (HB0.out.call g1); have G1 := Lib.hid (ccall g1); obtain ⟨b0, b1, b2⟩ := HB1.out; clear g1)
          | (go_at_call 32; (with_reducible refine (hoo _).mono ?_); rintro e w2 ⟨rfl, rfl⟩)
          | fail)
        go_ret
        exact ⟨rfl, G1.out⟩
      · rw [if_neg hbig] at hdef
        have q1 : ¬ (16 : Int) < (n : Int) := by omega
        have HD := Lib.hid hdef
        clear hdef
        go_enter Try.func12, Try.ntmps12
        obtain ⟨b0, b1, b2⟩ := HB0.out
        go_wp2_with (first
          | (go_at_call 31; (with_reducible refine (hnm _).mono ?_); rintro e w1 ⟨rfl, g1⟩; have HB1 := Lib.hid (HB0.out.call g1); have G1 := Lib.hid (ccall g1); obtain ⟨b0, b1, b2⟩ := HB1.out; clear g1)
          | (go_at_call 32; (with_reducible refine (hoo _).mono ?_); rintro e w2 ⟨rfl, rfl⟩)
          | fail)
        go_loopw [23] (fun i wr => ∃ k : Nat, k ≤ n ∧ i = .int .i64 k ∧ Below w.heap.size w wr ∧ BoxZ wr w.heap.size nm o a n c ∧ Hid (shE (prevS ss k) (ss.drop k) = V)) (fun i _ => n - (intOf i).toNat)
        case atStart => exact ⟨0, by omega, rfl, G1.out, HB1.out, Lib.hid HD.out.symm⟩
        case round =>
          obtain ⟨k, hk, rfl, hB, hZ, hV⟩ := hrel
          clear b0 b1 b2
          by_cases hlt : k < n
          · have hat := shE_at (ss := ss) (i := k) (by rw [HS.out.1]; exact hlt)
            rw [hV.out] at hat
            obtain ⟨g, x0, e1, e2, e3⟩ : ∃ g x0, a = some ⟨g, x0, none⟩ ∧ g < w.heap.size ∧ ∀ i, i < n → w.cell? ⟨g, x0 + i * 2, none⟩ = some (.int .i64 (atS ss i)) ∧ w.cell? ⟨g, x0 + i * 2 + 1, none⟩ = some (.int .i64 (ofS ss i)) := by
              rcases HS.out.2 with h | h
              · omega
              · exact h
            have c0 := (hB.cell (p := ⟨g, x0 + k * 2, none⟩) e2).trans (e3 k hlt).1
            have c1 := (hB.cell (p := ⟨g, x0 + k * 2 + 1, none⟩) e2).trans (e3 k hlt).2
            have hprev : ∀ j, k = j + 1 → prevS ss k = atS ss j ∧ wr.cell? ⟨g, x0 + j * 2, none⟩ = some (.int .i64 (atS ss j)) := by
              rintro j rfl
              exact ⟨by simp [prevS], (hB.cell (p := ⟨g, x0 + j * 2, none⟩) e2).trans (e3 j (by omega)).1⟩
            have hz0 : k = 0 → atS ss k ≤ prevS ss k → okI (atS ss k) = false := by
              rintro rfl h
              simp [prevS] at h
              simp [okI]; omega
            obtain ⟨A, HA⟩ : ∃ v, Hid (atS ss k = v) := ⟨_, rfl⟩
            obtain ⟨X, HX⟩ : ∃ v, Hid (ofS ss k = v) := ⟨_, rfl⟩
            rw [HA.out] at c0 hat hz0
            rw [HX.out] at c1 hat
            have hiA := hi A
            have hoX := ho X
            obtain ⟨P1, HP1⟩ : ∃ v, Hid (okI A = v) := ⟨_, rfl⟩
            obtain ⟨P2, HP2⟩ : ∃ v, Hid (okO X = v) := ⟨_, rfl⟩
            rw [HP1.out] at hiA hat hz0
            rw [HP2.out] at hoX hat
            obtain ⟨b0, b1, b2⟩ := hZ
            have HZ := Lib.hid (show BoxZ wr w.heap.size nm o a n c from ⟨b0, b1, b2⟩)
            have HW := Lib.hid hB
            have nb : ¬ w.heap.size = wr.heap.size := by have := World.block_lt_of_cell? _ _ b0; simp at this; omega
            have nb2 : ¬ wr.heap.size = w.heap.size := fun h => nb h.symm
            have ng : ¬ g = wr.heap.size := by have := hB.size; omega
            have nl1 : w.heap.size < wr.heap.size := World.block_lt_of_cell? _ _ b0
            have nl2 : g < wr.heap.size := Nat.lt_of_lt_of_le e2 hB.size
            have ng2 : ¬ wr.heap.size = g := fun h => ng h.symm
            clear e3 hB
            subst e1
            have j0 : (0 : Int) ≤ (k : Int) := by omega
            have j1 : (k : Int) < (n : Int) := by omega
            have j2 : ((k : Int)).toNat = k := rfl
            have HLT := Lib.hid hlt
            cases P1 with
            | false =>
              obtain rfl : V = 5 := by rw [hat]; rfl
              clear hat hprev hz0
              go_wp2_with (first
                | (go_at_call 33; (with_reducible refine (hiA _).mono ?_); rintro e w3 ⟨rfl, rfl⟩)
                | fail)
              go_ret
              exact ⟨rfl, (HW.out.alloc HW.out.size _)⟩
            | true =>
              cases P2 with
              | false =>
                obtain rfl : V = 5 := by rw [hat]; rfl
                clear hat hprev hz0
                go_wp2_with (first
                  | (go_at_call 33; (with_reducible refine (hiA _).mono ?_); rintro e w3 ⟨rfl, rfl⟩)
                  | (go_at_call 32; (with_reducible refine (hoX _).mono ?_); rintro e w4 ⟨rfl, rfl⟩)
                  | fail)
                go_ret
                exact ⟨rfl, (HW.out.alloc HW.out.size _)⟩
              | true =>
                rw [if_neg (by simp)] at hat
                cases k with
                | zero =>
                  have hno : ¬ A ≤ prevS ss 0 := fun h => by have := hz0 rfl h; cases this
                  rw [if_neg hno] at hat
                  have HV2 := Lib.hid hat.symm
                  clear hat hprev hz0 hno
                  have g0 : decide ((0 : Int) < ((0 : Nat) : Int)) = false := rfl
                  simp only [Nat.zero_mul, Nat.add_zero] at c0 c1
                  go_wp2_with (first
                    | (go_at_call 33; (with_reducible refine (hiA _).mono ?_); rintro e w3 ⟨rfl, rfl⟩)
                    | (go_at_call 32; (with_reducible refine (hoX _).mono ?_); rintro e w4 ⟨rfl, rfl⟩)
                    | fail)
                  go_quiet (fail)
                  go_wp2_with fail
                  go_roundw
                  case rel => exact ⟨1, by omega, by rfl, (below_drewN (HW.out.alloc HW.out.size _) _), (HZ.out.call (below_drewN (cnew _ _) _)), HV2⟩
                  case measure => simp [intOf]; omega
                | succ j =>
                  obtain ⟨hp1, hp2⟩ := hprev j rfl
                  rw [hp1] at hat
                  obtain ⟨Y, HY⟩ : ∃ v, Hid (atS ss j = v) := ⟨_, rfl⟩
                  rw [HY.out] at hat hp2
                  have i1 : (0 : Int) < ((j + 1 : Nat) : Int) := by omega
                  have g1' : decide ((0 : Int) < ((j + 1 : Nat) : Int)) = true := decide_eq_true i1
                  have i2 : ((j + 1 : Nat) : Int) - 1 = (j : Int) := by omega
                  have i3 : (j : Int) < (n : Int) := by omega
                  have i4 : (0 : Int) ≤ (j : Int) := by omega
                  have i5 : (j : Int) + 1 - 1 = (j : Int) := by omega
                  have i6 : (0 : Int) < (j : Int) + 1 := by omega
                  have i7 : decide ((0 : Int) < (j : Int) + 1) = true := decide_eq_true i6
                  clear hprev hz0 hp1
                  by_cases hle : A ≤ Y
                  · rw [if_pos hle] at hat
                    subst hat
                    go_wp2_with (first
                      | (go_at_call 33; (with_reducible refine (hiA _).mono ?_); rintro e w3 ⟨rfl, rfl⟩)
                      | (go_at_call 32; (with_reducible refine (hoX _).mono ?_); rintro e w4 ⟨rfl, rfl⟩)
                      | fail)
                    go_quiet (fail)
                    go_wp2_with fail
                    go_ret
                    exact ⟨rfl, (below_drewN (HW.out.alloc HW.out.size _) _)⟩
                  · rw [if_neg hle] at hat
                    have HV2 := Lib.hid hat.symm
                    have hle2 : decide (A ≤ Y) = false := decide_eq_false hle
                    clear hat
                    go_wp2_with (first
                      | (go_at_call 33; (with_reducible refine (hiA _).mono ?_); rintro e w3 ⟨rfl, rfl⟩)
                      | (go_at_call 32; (with_reducible refine (hoX _).mono ?_); rintro e w4 ⟨rfl, rfl⟩)
                      | fail)
                    go_quiet (fail)
                    go_wp2_with fail
                    go_roundw
                    case rel => exact ⟨j + 1 + 1, by omega, by go_num, (below_drewN (HW.out.alloc HW.out.size _) _), (HZ.out.call (below_drewN (cnew _ _) _)), HV2⟩
                    case measure => simp [intOf]; omega
          · obtain rfl : k = n := by omega
            have j1 : ¬ (k : Int) < (k : Int) := by omega
            have he := shE_end ss
            rw [HS.out.1, hV.out] at he
            subst he
            have HW := Lib.hid hB
            obtain ⟨b0, b1, b2⟩ := hZ
            go_wp2_with fail
            go_ret
            exact ⟨rfl, HW.out⟩
set_option maxHeartbeats 8000000 in
set_option maxRecDepth 100000 in
theorem rvalidate_any (nm : List UInt8) (hnl : nm.length ≤ 9223372036854775807) (o : Int) (a : Option Addr) (n c : Nat) (ss : List (Int × Int)) (w : World) (hS : ShIn w a n ss) (hn : n ≤ 9223372036854775807) :
    Calls Try.prog 13 #[.agg #[.string ⟨nm.toArray⟩, .int .i64 o, .slice a n c]] w (RetE w (zE (nameB nm) o ss)) := by
  have hnm := rIsName_any nm hnl
  have ho := roffset_any
  have hi := rinstant_any
  have hoo := ho o
  have HB0 := Lib.hid (boxZ_new w nm o a n c 24)
  have HS := Lib.hid hS
  have hdef : zE (nameB nm) o ss = if nameB nm = false then 1 else if okO o = false then 5 else if 16 < n then 10 else shE (prevS ss 0) (ss.drop 0) := by unfold zE; rw [hS.1]; rfl
  obtain ⟨V, HV⟩ : ∃ v, Hid (zE (nameB nm) o ss = v) := ⟨_, rfl⟩
  obtain ⟨N, HN⟩ : ∃ v, Hid (nameB nm = v) := ⟨_, rfl⟩
  obtain ⟨Q, HQ⟩ : ∃ v, Hid (okO o = v) := ⟨_, rfl⟩
  rw [HV.out, HN.out, HQ.out] at hdef
  rw [HV.out]
  rw [HN.out] at hnm
  rw [HQ.out] at hoo
  clear hS
  cases N with
  | false =>
    obtain rfl : V = 1 := hdef
    go_enter Try.func13, Try.ntmps13
    obtain ⟨b0, b1, b2⟩ := HB0.out
    go_wp2_with (first
      | (go_at_call 34; (with_reducible refine (hnm _).mono ?_); rintro e w1 ⟨rfl, rfl⟩; obtain ⟨b0, b1, b2⟩ := HB0.out)
      | fail)
    go_ret
    exact ⟨rfl, (cnew _ _)⟩
  | true =>
    rw [if_neg (by simp)] at hdef
    cases Q with
    | false =>
      obtain rfl : V = 5 := hdef
      go_enter Try.func13, Try.ntmps13
      obtain ⟨b0, b1, b2⟩ := HB0.out
      go_wp2_with (first
        | (go_at_call 34; (with_reducible refine (hnm _).mono ?_); rintro e w1 ⟨rfl, rfl⟩; obtain ⟨b0, b1, b2⟩ := HB0.out)
        | (go_at_call 35; (with_reducible refine (hoo _).mono ?_); rintro e w2 ⟨rfl, rfl⟩)
        | fail)
      go_ret
      exact ⟨rfl, (cnew _ _)⟩
    | true =>
      rw [if_neg (by simp)] at hdef
      by_cases hbig : 16 < n
      · rw [if_pos hbig] at hdef
        obtain rfl : V = 10 := hdef
        have q1 : (16 : Int) < (n : Int) := by omega
        go_enter Try.func13, Try.ntmps13
        obtain ⟨b0, b1, b2⟩ := HB0.out
        go_wp2_with (first
          | (go_at_call 34; (with_reducible refine (hnm _).mono ?_); rintro e w1 ⟨rfl, rfl⟩; obtain ⟨b0, b1, b2⟩ := HB0.out)
          | (go_at_call 35; (with_reducible refine (hoo _).mono ?_); rintro e w2 ⟨rfl, rfl⟩)
          | fail)
        go_ret
        exact ⟨rfl, (cnew _ _)⟩
      · rw [if_neg hbig] at hdef
        have q1 : ¬ (16 : Int) < (n : Int) := by omega
        have HD := Lib.hid hdef
        clear hdef
        go_enter Try.func13, Try.ntmps13
        obtain ⟨b0, b1, b2⟩ := HB0.out
        go_wp2_with (first
          | (go_at_call 34; (with_reducible refine (hnm _).mono ?_); rintro e w1 ⟨rfl, rfl⟩; obtain ⟨b0, b1, b2⟩ := HB0.out)
          | (go_at_call 35; (with_reducible refine (hoo _).mono ?_); rintro e w2 ⟨rfl, rfl⟩)
          | fail)
        go_loopw [3] (fun i wr => ∃ k : Nat, k ≤ n ∧ i = .int .i64 k ∧ Below w.heap.size w wr ∧ BoxZ wr w.heap.size nm o a n c ∧ Hid (shE (prevS ss k) (ss.drop k) = V)) (fun i _ => n - (intOf i).toNat)
        case atStart => exact ⟨0, by omega, rfl, (cnew _ _), HB0.out, Lib.hid HD.out.symm⟩
        case round =>
          obtain ⟨k, hk, rfl, hB, hZ, hV⟩ := hrel
          clear b0 b1 b2
          by_cases hlt : k < n
          · have hat := shE_at (ss := ss) (i := k) (by rw [HS.out.1]; exact hlt)
            rw [hV.out] at hat
            obtain ⟨g, x0, e1, e2, e3⟩ : ∃ g x0, a = some ⟨g, x0, none⟩ ∧ g < w.heap.size ∧ ∀ i, i < n → w.cell? ⟨g, x0 + i * 2, none⟩ = some (.int .i64 (atS ss i)) ∧ w.cell? ⟨g, x0 + i * 2 + 1, none⟩ = some (.int .i64 (ofS ss i)) := by
              rcases HS.out.2 with h | h
              · omega
              · exact h
            have c0 := (hB.cell (p := ⟨g, x0 + k * 2, none⟩) e2).trans (e3 k hlt).1
            have c1 := (hB.cell (p := ⟨g, x0 + k * 2 + 1, none⟩) e2).trans (e3 k hlt).2
            have hprev : ∀ j, k = j + 1 → prevS ss k = atS ss j ∧ wr.cell? ⟨g, x0 + j * 2, none⟩ = some (.int .i64 (atS ss j)) := by
              rintro j rfl
              exact ⟨by simp [prevS], (hB.cell (p := ⟨g, x0 + j * 2, none⟩) e2).trans (e3 j (by omega)).1⟩
            have hz0 : k = 0 → atS ss k ≤ prevS ss k → okI (atS ss k) = false := by
              rintro rfl h
              simp [prevS] at h
              simp [okI]; omega
            obtain ⟨A, HA⟩ : ∃ v, Hid (atS ss k = v) := ⟨_, rfl⟩
            obtain ⟨X, HX⟩ : ∃ v, Hid (ofS ss k = v) := ⟨_, rfl⟩
            rw [HA.out] at c0 hat hz0
            rw [HX.out] at c1 hat
            have hiA := hi A
            have hoX := ho X
            obtain ⟨P1, HP1⟩ : ∃ v, Hid (okI A = v) := ⟨_, rfl⟩
            obtain ⟨P2, HP2⟩ : ∃ v, Hid (okO X = v) := ⟨_, rfl⟩
            rw [HP1.out] at hiA hat hz0
            rw [HP2.out] at hoX hat
            obtain ⟨b0, b1, b2⟩ := hZ
            have HZ := Lib.hid (show BoxZ wr w.heap.size nm o a n c from ⟨b0, b1, b2⟩)
            have HW := Lib.hid hB
            have nb : ¬ w.heap.size = wr.heap.size := by have := World.block_lt_of_cell? _ _ b0; simp at this; omega
            have nb2 : ¬ wr.heap.size = w.heap.size := fun h => nb h.symm
            have ng : ¬ g = wr.heap.size := by have := hB.size; omega
            have nl1 : w.heap.size < wr.heap.size := World.block_lt_of_cell? _ _ b0
            have nl2 : g < wr.heap.size := Nat.lt_of_lt_of_le e2 hB.size
            have ng2 : ¬ wr.heap.size = g := fun h => ng h.symm
            clear e3 hB
            subst e1
            have j0 : (0 : Int) ≤ (k : Int) := by omega
            have j1 : (k : Int) < (n : Int) := by omega
            have j2 : ((k : Int)).toNat = k := rfl
            have HLT := Lib.hid hlt
            cases P1 with
            | false =>
              obtain rfl : V = 5 := by rw [hat]; rfl
              clear hat hprev hz0
              go_wp2_with (first
                | (go_at_call 36; (with_reducible refine (hiA _).mono ?_); rintro e w3 ⟨rfl, rfl⟩)
                | fail)
              go_ret
              exact ⟨rfl, HW.out⟩
            | true =>
              cases P2 with
              | false =>
                obtain rfl : V = 5 := by rw [hat]; rfl
                clear hat hprev hz0
                go_wp2_with (first
                  | (go_at_call 36; (with_reducible refine (hiA _).mono ?_); rintro e w3 ⟨rfl, rfl⟩)
                  | (go_at_call 35; (with_reducible refine (hoX _).mono ?_); rintro e w4 ⟨rfl, rfl⟩)
                  | fail)
                go_ret
                exact ⟨rfl, HW.out⟩
              | true =>
                rw [if_neg (by simp)] at hat
                cases k with
                | zero =>
                  have hno : ¬ A ≤ prevS ss 0 := fun h => by have := hz0 rfl h; cases this
                  rw [if_neg hno] at hat
                  have HV2 := Lib.hid hat.symm
                  clear hat hprev hz0 hno
                  have g0 : decide ((0 : Int) < ((0 : Nat) : Int)) = false := rfl
                  simp only [Nat.zero_mul, Nat.add_zero] at c0 c1
                  go_wp2_with (first
                    | (go_at_call 36; (with_reducible refine (hiA _).mono ?_); rintro e w3 ⟨rfl, rfl⟩)
                    | (go_at_call 35; (with_reducible refine (hoX _).mono ?_); rintro e w4 ⟨rfl, rfl⟩)
                    | fail)
                  go_quiet (fail)
                  go_wp2_with fail
                  go_roundw
                  case rel => exact ⟨1, by omega, by rfl, (below_drewN HW.out _), (HZ.out.call (below_drewN (Below.refl _ _) _)), HV2⟩
                  case measure => simp [intOf]; omega
                | succ j =>
                  obtain ⟨hp1, hp2⟩ := hprev j rfl
                  rw [hp1] at hat
                  obtain ⟨Y, HY⟩ : ∃ v, Hid (atS ss j = v) := ⟨_, rfl⟩
                  rw [HY.out] at hat hp2
                  have i1 : (0 : Int) < ((j + 1 : Nat) : Int) := by omega
                  have g1' : decide ((0 : Int) < ((j + 1 : Nat) : Int)) = true := decide_eq_true i1
                  have i2 : ((j + 1 : Nat) : Int) - 1 = (j : Int) := by omega
                  have i3 : (j : Int) < (n : Int) := by omega
                  have i4 : (0 : Int) ≤ (j : Int) := by omega
                  have i5 : (j : Int) + 1 - 1 = (j : Int) := by omega
                  have i6 : (0 : Int) < (j : Int) + 1 := by omega
                  have i7 : decide ((0 : Int) < (j : Int) + 1) = true := decide_eq_true i6
                  clear hprev hz0 hp1
                  by_cases hle : A ≤ Y
                  · rw [if_pos hle] at hat
                    subst hat
                    go_wp2_with (first
                      | (go_at_call 36; (with_reducible refine (hiA _).mono ?_); rintro e w3 ⟨rfl, rfl⟩)
                      | (go_at_call 35; (with_reducible refine (hoX _).mono ?_); rintro e w4 ⟨rfl, rfl⟩)
                      | fail)
                    go_quiet (fail)
                    go_wp2_with fail
                    go_ret
                    exact ⟨rfl, (below_drewN HW.out _)⟩
                  · rw [if_neg hle] at hat
                    have HV2 := Lib.hid hat.symm
                    have hle2 : decide (A ≤ Y) = false := decide_eq_false hle
                    clear hat
                    go_wp2_with (first
                      | (go_at_call 36; (with_reducible refine (hiA _).mono ?_); rintro e w3 ⟨rfl, rfl⟩)
                      | (go_at_call 35; (with_reducible refine (hoX _).mono ?_); rintro e w4 ⟨rfl, rfl⟩)
                      | fail)
                    go_quiet (fail)
                    go_wp2_with fail
                    go_roundw
                    case rel => exact ⟨j + 1 + 1, by omega, by go_num, (below_drewN HW.out _), (HZ.out.call (below_drewN (Below.refl _ _) _)), HV2⟩
                    case measure => simp [intOf]; omega
          · obtain rfl : k = n := by omega
            have j1 : ¬ (k : Int) < (k : Int) := by omega
            have he := shE_end ss
            rw [HS.out.1, hV.out] at he
            subst he
            have HW := Lib.hid hB
            obtain ⟨b0, b1, b2⟩ := hZ
            go_wp2_with fail
            go_ret
            exact ⟨rfl, HW.out⟩
end Go.Proofs.Ytiohakpbgmignaa

