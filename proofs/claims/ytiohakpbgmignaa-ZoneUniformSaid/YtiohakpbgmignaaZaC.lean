/-
  Zones: offsets and local times on both sides.
-/
import Derived.Test.YtiohakpbgmignaaZaB
set_option linter.unusedVariables false
set_option linter.unusedSimpArgs false
namespace Go.Proofs.Ytiohakpbgmignaa
open Go.RowKit

def atE (E t : Int) : Int := if E = 0 then (if okI t = true then 0 else 5) else E
def atV (E o : Int) (ss : List (Int × Int)) (t : Int) : Int := if atE E t = 0 then offs o ss t else 0
def loV (E o : Int) (ss : List (Int × Int)) (t : Int) : Int := if atE E t = 0 then t + offs o ss t else 0
def ltD (E o : Int) (ss : List (Int × Int)) (t : Int) : Int := if atE E t = 0 then (t + offs o ss t) / 1440 else 0
def ltC (E o : Int) (ss : List (Int × Int)) (t : Int) : Int := if atE E t = 0 then (t + offs o ss t) % 1440 else 0
def RetTE (w : World) (d c e : Int) (en : Ending) (w' : World) : Prop := en = .returned (.tuple #[.int .i64 d, .int .i64 c, .int .i64 e]) ∧ Below w.heap.size w w'
theorem okI_in {t : Int} (h : okI t = true) : 0 ≤ t ∧ t < 52596000 := by unfold okI at h; simpa using h
set_option maxHeartbeats 8000000 in
set_option maxRecDepth 1000000 in
theorem roffset2_any (nm : List UInt8) (hnl : nm.length ≤ 9223372036854775807) (o : Int) (a : Option Addr) (n c : Nat) (ss : List (Int × Int)) (w : World) (hS : ShIn w a n ss) (hn : n ≤ 9223372036854775807) :
    ∀ t, Calls Try.prog 37 #[.agg #[.string ⟨nm.toArray⟩, .int .i64 o, .slice a n c], .int .i64 t] w (RetI3 w (offs o ss t)) := by
  intro t
  have HS := Lib.hid hS
  have HB0 := Lib.hid (boxZ_new w nm o a n c 24)
  have hend := offs_end ss
  rw [hS.1] at hend
  have hst := @offs_step ss
  rw [hS.1] at hst
  obtain ⟨V, HV⟩ : ∃ v, Hid (offs o ss t = v) := ⟨_, rfl⟩
  rw [HV.out]
  clear hS
  go_enter Try.func37, Try.ntmps37
  obtain ⟨b0, b1, b2⟩ := HB0.out
  go_wp2_with fail
  go_loopw [5, 6] (fun x i wr => ∃ (k : Nat) (z : Int), k ≤ n ∧ x = .int .i64 z ∧ i = .int .i64 k ∧ wr = w.alloc (.cells #[.string ⟨nm.toArray⟩, .int .i64 o, .slice a n c] 24) ∧ Hid (offs z (ss.drop k) t = V)) (fun _ i _ => n - (intOf i).toNat)
  case atStart => exact ⟨0, o, by omega, rfl, rfl, rfl, HV⟩
  case round =>
    obtain ⟨k, z, hk, rfl, rfl, rfl, hV⟩ := hrel
    by_cases hlt : k < n
    · have hat := hst hlt z t
      rw [hV.out] at hat
      obtain ⟨g, x0, e1, e2, e3⟩ : ∃ g x0, a = some ⟨g, x0, none⟩ ∧ g < w.heap.size ∧ ∀ i, i < n → w.cell? ⟨g, x0 + i * 2, none⟩ = some (.int .i64 (atS ss i)) ∧ w.cell? ⟨g, x0 + i * 2 + 1, none⟩ = some (.int .i64 (ofS ss i)) := by
        rcases HS.out.2 with h | h
        · omega
        · exact h
      have c0 := ((cnew w (.cells #[.string ⟨nm.toArray⟩, .int .i64 o, .slice a n c] 24)).cell (p := ⟨g, x0 + k * 2, none⟩) e2).trans (e3 k hlt).1
      have c1 := ((cnew w (.cells #[.string ⟨nm.toArray⟩, .int .i64 o, .slice a n c] 24)).cell (p := ⟨g, x0 + k * 2 + 1, none⟩) e2).trans (e3 k hlt).2
      obtain ⟨A, HA⟩ : ∃ v, Hid (atS ss k = v) := ⟨_, rfl⟩
      obtain ⟨X, HX⟩ : ∃ v, Hid (ofS ss k = v) := ⟨_, rfl⟩
      rw [HA.out] at c0 hat
      rw [HX.out] at c1 hat
      clear e3
      subst e1
      have j0 : (0 : Int) ≤ (k : Int) := by omega
      have j1 : (k : Int) < (n : Int) := by omega
      have j2 : ((k : Int)).toNat = k := rfl
      by_cases hle : A ≤ t
      · rw [if_pos hle] at hat
        have HV2 := Lib.hid hat.symm
        clear hat
        go_wp2_with fail
        go_roundw
        case rel => exact ⟨k + 1, X, by omega, rfl, by go_num, trivial, HV2⟩
        case measure => simp [intOf]; omega
      · rw [if_neg hle] at hat
        have HV2 := Lib.hid hat.symm
        clear hat
        go_wp2_with fail
        go_roundw
        case rel => exact ⟨k + 1, z, by omega, rfl, by go_num, trivial, HV2⟩
        case measure => simp [intOf]; omega
    · obtain rfl : k = n := by omega
      have j1 : ¬ (k : Int) < (k : Int) := by omega
      have he := hend z t
      rw [hV.out] at he
      subst he
      go_wp2_with fail
      go_ret
      exact ⟨rfl, cnew _ _⟩
set_option maxHeartbeats 8000000 in
set_option maxRecDepth 1000000 in
theorem offsetAt_any (nm : List UInt8) (hnl : nm.length ≤ 9223372036854775807) (o : Int) (a : Option Addr) (n c : Nat) (ss : List (Int × Int)) (w : World) (hS : ShIn w a n ss) (hn : n ≤ 9223372036854775807) (t : Int) :
    Calls Try.prog 14 #[.agg #[.string ⟨nm.toArray⟩, .int .i64 o, .slice a n c], .int .i64 t] w (RetNE w (atV (zE (nameB nm) o ss) o ss t) (atE (zE (nameB nm) o ss) t)) := by
  have hv := fun w hS => validate_any nm hnl o a n c ss w hS hn
  have hi := isInstant_any t
  have HS1 := Lib.hid (hS.call (cnew w (.cells #[.string ⟨nm.toArray⟩, .int .i64 o, .slice a n c] 24)))
  have HB0 := Lib.hid (boxZ_new w nm o a n c 24)
  have hL := hS.1
  have hok := @zE_ok (nameB nm) o ss
  have hoff := @roffset2_any nm hnl o a n c ss
  obtain ⟨E, HE⟩ : ∃ v, Hid (zE (nameB nm) o ss = v) := ⟨_, rfl⟩
  rw [HE.out] at hok ⊢
  simp only [HE.out] at hv
  have hdV : atV E o ss t = if atE E t = 0 then offs o ss t else 0 := rfl
  have hdE : atE E t = if E = 0 then (if okI t = true then 0 else 5) else E := rfl
  obtain ⟨Q, HQ⟩ : ∃ v, Hid (okI t = v) := ⟨_, rfl⟩
  obtain ⟨X, HX⟩ : ∃ v, Hid (atE E t = v) := ⟨_, rfl⟩
  obtain ⟨Y, HY⟩ : ∃ v, Hid (atV E o ss t = v) := ⟨_, rfl⟩
  rw [HX.out, HQ.out] at hdE
  rw [HX.out, HY.out] at hdV
  rw [HX.out, HY.out]
  rw [HQ.out] at hi
  by_cases h0 : E = 0
  · subst h0
    rw [if_pos rfl] at hdE
    obtain ⟨_, hz⟩ := hok rfl
    cases Q with
    | false =>
      obtain rfl : X = 5 := hdE
      obtain rfl : Y = 0 := hdV
      clear hS hoff hz hok hL
      go_enter Try.func14, Try.ntmps14
      obtain ⟨b0, b1, b2⟩ := HB0.out
      go_wp2_with (first
        | (go_at_call 12; (with_reducible refine (hv _ HS1.out).mono ?_); rintro e w1 ⟨rfl, g1⟩; have HB1 := Lib.hid (HB0.out.call g1); have G1 := Lib.hid (ccall g1); have HS2 := Lib.hid (HS1.out.call g1); obtain ⟨c0, c1, c2⟩ := HB1.out; clear g1)
        | (go_at_call 33; (with_reducible refine (hi _).mono ?_); rintro e w2 ⟨rfl, rfl⟩)
        | fail)
      go_ret2
      exact ⟨rfl, G1.out⟩
    | true =>
      rw [if_pos rfl] at hdE
      obtain rfl : X = 0 := hdE
      rw [if_pos rfl] at hdV
      subst hdV
      have hend := offs_end ss
      rw [hL] at hend
      have hst := @offs_step ss
      have hbr := fun {i : Nat} hi x t => @offs_break ss hz.asc i hi x t
      rw [hL] at hst hbr
      obtain ⟨V, HV⟩ : ∃ v, Hid (offs o ss t = v) := ⟨_, rfl⟩
      rw [HV.out]
      clear hS hok hz hoff
      go_enter Try.func14, Try.ntmps14
      obtain ⟨b0, b1, b2⟩ := HB0.out
      go_wp2_with (first
        | (go_at_call 12; (with_reducible refine (hv _ HS1.out).mono ?_); rintro e w1 ⟨rfl, g1⟩; have HB1 := Lib.hid (HB0.out.call g1); have G1 := Lib.hid (ccall g1); have HS2 := Lib.hid (HS1.out.call g1); obtain ⟨c0, c1, c2⟩ := HB1.out; clear g1)
        | (go_at_call 33; (with_reducible refine (hi _).mono ?_); rintro e w2 ⟨rfl, rfl⟩)
        | fail)
      go_loopw [7, 23] (fun x i wr => ∃ (k : Nat) (z : Int), k ≤ n ∧ x = .int .i64 z ∧ i = .int .i64 k ∧ Below w1.heap.size w1 wr ∧ Hid (offs z (ss.drop k) t = V)) (fun _ i _ => n - (intOf i).toNat)
      case atStart => exact ⟨0, o, by omega, rfl, rfl, Below.refl _ _, HV⟩
      case round =>
        obtain ⟨k, z, hk, rfl, rfl, hB, hV⟩ := hrel
        clear b0 b1 b2 c0 c1 c2
        by_cases hlt : k < n
        · have hat := hst hlt z t
          rw [hV.out] at hat
          have hbk := hbr hlt z t
          rw [hV.out] at hbk
          obtain ⟨g, x0, e1, e2, e3⟩ : ∃ g x0, a = some ⟨g, x0, none⟩ ∧ g < w1.heap.size ∧ ∀ i, i < n → w1.cell? ⟨g, x0 + i * 2, none⟩ = some (.int .i64 (atS ss i)) ∧ w1.cell? ⟨g, x0 + i * 2 + 1, none⟩ = some (.int .i64 (ofS ss i)) := by
            rcases HS2.out.2 with h | h
            · omega
            · exact h
          have c0 := (hB.cell (p := ⟨g, x0 + k * 2, none⟩) e2).trans (e3 k hlt).1
          have c1 := (hB.cell (p := ⟨g, x0 + k * 2 + 1, none⟩) e2).trans (e3 k hlt).2
          obtain ⟨A, HA⟩ : ∃ v, Hid (atS ss k = v) := ⟨_, rfl⟩
          obtain ⟨X, HX⟩ : ∃ v, Hid (ofS ss k = v) := ⟨_, rfl⟩
          rw [HA.out] at c0 hat hbk
          rw [HX.out] at c1 hat
          have HW := Lib.hid hB
          have nl2 : g < wr.heap.size := Nat.lt_of_lt_of_le e2 hB.size
          clear e3 hB
          subst e1
          have j0 : (0 : Int) ≤ (k : Int) := by omega
          have j1 : (k : Int) < (n : Int) := by omega
          have j2 : ((k : Int)).toNat = k := rfl
          by_cases hle : A ≤ t
          · rw [if_pos hle] at hat
            have HV2 := Lib.hid hat.symm
            have hgt : ¬ t < A := by omega
            clear hat hbk hle
            cases k with
            | zero =>
              simp only [Nat.zero_mul, Nat.add_zero] at c0 c1
              go_wp2_with fail
              go_roundw
              case rel => exact ⟨1, X, by omega, rfl, by rfl, HW.out.alloc HW.out.size _, HV2⟩
              case measure => simp [intOf]; omega
            | succ j =>
              go_wp2_with fail
              go_roundw
              case rel => exact ⟨j + 1 + 1, X, by omega, rfl, by go_num, HW.out.alloc HW.out.size _, HV2⟩
              case measure => simp [intOf]; omega
          · obtain rfl := hbk (by omega)
            have hgt : t < A := by omega
            clear hat hle hbk
            cases k with
            | zero =>
              simp only [Nat.zero_mul, Nat.add_zero] at c0 c1
              go_wp2_with fail
              go_ret2
              exact ⟨rfl, G1.out.trans ((HW.out.alloc HW.out.size _).mono G1.out.size)⟩
            | succ j =>
              go_wp2_with fail
              go_ret2
              exact ⟨rfl, G1.out.trans ((HW.out.alloc HW.out.size _).mono G1.out.size)⟩
        · obtain rfl : k = n := by omega
          have j1 : ¬ (k : Int) < (k : Int) := by omega
          have he := hend z t
          rw [hV.out] at he
          subst he
          have HW := Lib.hid hB
          go_wp2_with fail
          go_ret2
          exact ⟨rfl, G1.out.trans (HW.out.mono G1.out.size)⟩
  · rw [if_neg h0] at hdE
    subst hdE
    rw [if_neg h0] at hdV
    subst hdV
    have h1 : (X != 0) = true := by simpa using h0
    clear hS hoff hok hL
    go_enter Try.func14, Try.ntmps14
    obtain ⟨b0, b1, b2⟩ := HB0.out
    go_wp2_with (first
      | (go_at_call 12; (with_reducible refine (hv _ HS1.out).mono ?_); rintro e w1 ⟨rfl, g1⟩; have HB1 := Lib.hid (HB0.out.call g1); have G1 := Lib.hid (ccall g1); have HS2 := Lib.hid (HS1.out.call g1); obtain ⟨c0, c1, c2⟩ := HB1.out; clear g1)
      | fail)
    go_ret2
    exact ⟨rfl, G1.out⟩
set_option maxHeartbeats 8000000 in
set_option maxRecDepth 1000000 in
theorem roffsetAt_any (nm : List UInt8) (hnl : nm.length ≤ 9223372036854775807) (o : Int) (a : Option Addr) (n c : Nat) (ss : List (Int × Int)) (w : World) (hS : ShIn w a n ss) (hn : n ≤ 9223372036854775807) (t : Int) :
    Calls Try.prog 15 #[.agg #[.string ⟨nm.toArray⟩, .int .i64 o, .slice a n c], .int .i64 t] w (RetNE w (atV (zE (nameB nm) o ss) o ss t) (atE (zE (nameB nm) o ss) t)) := by
  have hv := fun w hS => rvalidate_any nm hnl o a n c ss w hS hn
  have hi := rinstant_any t
  have HS1 := Lib.hid (hS.call (cnew w (.cells #[.string ⟨nm.toArray⟩, .int .i64 o, .slice a n c] 24)))
  have HB0 := Lib.hid (boxZ_new w nm o a n c 24)
  have hL := hS.1
  have hok := @zE_ok (nameB nm) o ss
  have hoff := @roffset2_any nm hnl o a n c ss
  obtain ⟨E, HE⟩ : ∃ v, Hid (zE (nameB nm) o ss = v) := ⟨_, rfl⟩
  rw [HE.out] at hok ⊢
  simp only [HE.out] at hv
  have hdV : atV E o ss t = if atE E t = 0 then offs o ss t else 0 := rfl
  have hdE : atE E t = if E = 0 then (if okI t = true then 0 else 5) else E := rfl
  obtain ⟨Q, HQ⟩ : ∃ v, Hid (okI t = v) := ⟨_, rfl⟩
  obtain ⟨X, HX⟩ : ∃ v, Hid (atE E t = v) := ⟨_, rfl⟩
  obtain ⟨Y, HY⟩ : ∃ v, Hid (atV E o ss t = v) := ⟨_, rfl⟩
  rw [HX.out, HQ.out] at hdE
  rw [HX.out, HY.out] at hdV
  rw [HX.out, HY.out]
  rw [HQ.out] at hi
  by_cases h0 : E = 0
  · subst h0
    rw [if_pos rfl] at hdE
    obtain ⟨_, hz⟩ := hok rfl
    cases Q with
    | false =>
      obtain rfl : X = 5 := hdE
      obtain rfl : Y = 0 := hdV
      clear hS hoff hz hok hL
      go_enter Try.func15, Try.ntmps15
      obtain ⟨b0, b1, b2⟩ := HB0.out
      go_wp2_with (first
        | (go_at_call 13; (with_reducible refine (hv _ HS1.out).mono ?_); rintro e w1 ⟨rfl, g1⟩; have HB1 := Lib.hid (HB0.out.call g1); have G1 := Lib.hid (ccall g1); have HS2 := Lib.hid (HS1.out.call g1); obtain ⟨c0, c1, c2⟩ := HB1.out; clear g1)
        | (go_at_call 36; (with_reducible refine (hi _).mono ?_); rintro e w2 ⟨rfl, rfl⟩)
        | fail)
      go_ret2
      exact ⟨rfl, G1.out⟩
    | true =>
      rw [if_pos rfl] at hdE
      obtain rfl : X = 0 := hdE
      rw [if_pos rfl] at hdV
      subst hdV
      clear hS hok hz hL
      obtain ⟨V, HV⟩ : ∃ v, Hid (offs o ss t = v) := ⟨_, rfl⟩
      have hoff2 := fun w hS => hoff w hS hn t
      rw [HV.out] at hoff2 ⊢
      clear hoff
      go_enter Try.func15, Try.ntmps15
      obtain ⟨b0, b1, b2⟩ := HB0.out
      go_wp2_with (first
        | (go_at_call 13; (with_reducible refine (hv _ HS1.out).mono ?_); rintro e w1 ⟨rfl, g1⟩; have HB1 := Lib.hid (HB0.out.call g1); have G1 := Lib.hid (ccall g1); have HS2 := Lib.hid (HS1.out.call g1); obtain ⟨c0, c1, c2⟩ := HB1.out; clear g1)
        | (go_at_call 36; (with_reducible refine (hi _).mono ?_); rintro e w2 ⟨rfl, rfl⟩)
        | (go_at_call 37; (with_reducible refine (hoff2 _ HS2.out).mono ?_); rintro e w3 ⟨rfl, g3⟩)
        | fail)
      go_ret2
      exact ⟨rfl, G1.out.trans (g3.mono G1.out.size)⟩
  · rw [if_neg h0] at hdE
    subst hdE
    rw [if_neg h0] at hdV
    subst hdV
    have h1 : (X != 0) = true := by simpa using h0
    clear hS hoff hok hL
    go_enter Try.func15, Try.ntmps15
    obtain ⟨b0, b1, b2⟩ := HB0.out
    go_wp2_with (first
      | (go_at_call 13; (with_reducible refine (hv _ HS1.out).mono ?_); rintro e w1 ⟨rfl, g1⟩; have HB1 := Lib.hid (HB0.out.call g1); have G1 := Lib.hid (ccall g1); have HS2 := Lib.hid (HS1.out.call g1); obtain ⟨c0, c1, c2⟩ := HB1.out; clear g1)
      | fail)
    go_ret2
    exact ⟨rfl, G1.out⟩
set_option maxHeartbeats 8000000 in
set_option maxRecDepth 1000000 in
theorem localMinute_any (nm : List UInt8) (hnl : nm.length ≤ 9223372036854775807) (o : Int) (a : Option Addr) (n c : Nat) (ss : List (Int × Int)) (w : World) (hS : ShIn w a n ss) (hn : n ≤ 9223372036854775807) (t : Int) :
    Calls Try.prog 16 #[.agg #[.string ⟨nm.toArray⟩, .int .i64 o, .slice a n c], .int .i64 t] w (RetNE w (loV (zE (nameB nm) o ss) o ss t) (atE (zE (nameB nm) o ss) t)) := by
  have hv := fun w hS => offsetAt_any nm hnl o a n c ss w hS hn t
  have HS1 := Lib.hid (hS.call (cnew w (.cells #[.string ⟨nm.toArray⟩, .int .i64 o, .slice a n c] 24)))
  have HB0 := Lib.hid (boxZ_new w nm o a n c 24)
  have hok := @zE_ok (nameB nm) o ss
  obtain ⟨E, HE⟩ : ∃ v, Hid (zE (nameB nm) o ss = v) := ⟨_, rfl⟩
  rw [HE.out] at hok ⊢
  simp only [HE.out] at hv
  have hdV : loV E o ss t = if atE E t = 0 then t + offs o ss t else 0 := rfl
  have hdW : atV E o ss t = if atE E t = 0 then offs o ss t else 0 := rfl
  have hE0 : atE E t = 0 → E = 0 ∧ okI t = true := by
    unfold atE; split
    · rename_i h; split
      · rename_i h2; exact fun _ => ⟨h, h2⟩
      · intro h3; cases h3
    · rename_i h; exact fun h2 => absurd h2 h
  obtain ⟨X, HX⟩ : ∃ v, Hid (atE E t = v) := ⟨_, rfl⟩
  obtain ⟨Y, HY⟩ : ∃ v, Hid (loV E o ss t = v) := ⟨_, rfl⟩
  obtain ⟨Z, HZ⟩ : ∃ v, Hid (atV E o ss t = v) := ⟨_, rfl⟩
  simp only [HX.out, HZ.out] at hv
  rw [HX.out] at hdV hdW hE0
  rw [HY.out] at hdV
  rw [HZ.out] at hdW
  rw [HX.out, HY.out]
  clear hS
  by_cases h0 : X = 0
  · subst h0
    rw [if_pos rfl] at hdV hdW
    obtain ⟨rfl, h2⟩ := hE0 rfl
    have hz := (hok rfl).2.bound t
    rw [← hdW] at hz hdV
    have ht := okI_in h2
    subst hdV
    have s1 : IntKind.i64.wrap (t + Z) = t + Z := IntWalk.i64_in _ (by omega)
    clear hok hE0 h2 hdW
    go_enter Try.func16, Try.ntmps16
    obtain ⟨b0, b1, b2⟩ := HB0.out
    go_wp2_with (first
      | (go_at_call 14; (with_reducible refine (hv _ HS1.out).mono ?_); rintro e w1 ⟨rfl, g1⟩)
      | fail)
    go_ret2
    exact ⟨rfl, ccall g1⟩
  · rw [if_neg h0] at hdV
    subst hdV
    have h1 : (X != 0) = true := by simpa using h0
    clear hok hE0 hdW
    go_enter Try.func16, Try.ntmps16
    obtain ⟨b0, b1, b2⟩ := HB0.out
    go_wp2_with (first
      | (go_at_call 14; (with_reducible refine (hv _ HS1.out).mono ?_); rintro e w1 ⟨rfl, g1⟩)
      | fail)
    go_ret2
    exact ⟨rfl, ccall g1⟩
set_option maxHeartbeats 8000000 in
set_option maxRecDepth 1000000 in
theorem localTime_any (nm : List UInt8) (hnl : nm.length ≤ 9223372036854775807) (o : Int) (a : Option Addr) (n c : Nat) (ss : List (Int × Int)) (w : World) (hS : ShIn w a n ss) (hn : n ≤ 9223372036854775807) (t : Int) :
    Calls Try.prog 18 #[.agg #[.string ⟨nm.toArray⟩, .int .i64 o, .slice a n c], .int .i64 t] w (RetTE w (ltD (zE (nameB nm) o ss) o ss t) (ltC (zE (nameB nm) o ss) o ss t) (atE (zE (nameB nm) o ss) t)) := by
  have hv := fun w hS => localMinute_any nm hnl o a n c ss w hS hn t
  have HS1 := Lib.hid (hS.call (cnew w (.cells #[.string ⟨nm.toArray⟩, .int .i64 o, .slice a n c] 24)))
  have HB0 := Lib.hid (boxZ_new w nm o a n c 24)
  have hok := @zE_ok (nameB nm) o ss
  obtain ⟨E, HE⟩ : ∃ v, Hid (zE (nameB nm) o ss = v) := ⟨_, rfl⟩
  rw [HE.out] at hok ⊢
  simp only [HE.out] at hv
  have hdD : ltD E o ss t = if atE E t = 0 then (t + offs o ss t) / 1440 else 0 := rfl
  have hdC : ltC E o ss t = if atE E t = 0 then (t + offs o ss t) % 1440 else 0 := rfl
  have hdW : loV E o ss t = if atE E t = 0 then t + offs o ss t else 0 := rfl
  have hE0 : atE E t = 0 → E = 0 ∧ okI t = true := by
    unfold atE; split
    · rename_i h; split
      · rename_i h2; exact fun _ => ⟨h, h2⟩
      · intro h3; cases h3
    · rename_i h; exact fun h2 => absurd h2 h
  obtain ⟨X, HX⟩ : ∃ v, Hid (atE E t = v) := ⟨_, rfl⟩
  obtain ⟨Y1, HY1⟩ : ∃ v, Hid (ltD E o ss t = v) := ⟨_, rfl⟩
  obtain ⟨Y2, HY2⟩ : ∃ v, Hid (ltC E o ss t = v) := ⟨_, rfl⟩
  obtain ⟨Z, HZ⟩ : ∃ v, Hid (loV E o ss t = v) := ⟨_, rfl⟩
  simp only [HX.out, HZ.out] at hv
  rw [HX.out] at hdD hdC hdW hE0
  rw [HY1.out] at hdD
  rw [HY2.out] at hdC
  rw [HZ.out] at hdW
  rw [HX.out, HY1.out, HY2.out]
  clear hS
  by_cases h0 : X = 0
  · subst h0
    rw [if_pos rfl] at hdD hdC hdW
    obtain ⟨rfl, h2⟩ := hE0 rfl
    have hz := (hok rfl).2.bound t
    have ht := okI_in h2
    have hzb : -840 ≤ Z ∧ Z ≤ 52596840 := by rw [hdW]; omega
    rw [← hdW] at hdD hdC
    have hsm := splitMinute_any Z (by omega) (by omega)
    rw [← hdD, ← hdC] at hsm
    clear hok hE0 h2 hdW hdD hdC hz ht
    go_enter Try.func18, Try.ntmps18
    obtain ⟨b0, b1, b2⟩ := HB0.out
    go_wp2_with (first
      | (go_at_call 16; (with_reducible refine (hv _ HS1.out).mono ?_); rintro e w1 ⟨rfl, g1⟩)
      | (go_at_call 30; (with_reducible refine (hsm _).mono ?_); rintro e w2 ⟨rfl, k2, rfl⟩)
      | fail)
    go_ret3
    exact ⟨rfl, below_drewN (ccall g1) _⟩
  · rw [if_neg h0] at hdD hdC
    subst hdD hdC
    have h1 : (X != 0) = true := by simpa using h0
    clear hok hE0 hdW
    go_enter Try.func18, Try.ntmps18
    obtain ⟨b0, b1, b2⟩ := HB0.out
    go_wp2_with (first
      | (go_at_call 16; (with_reducible refine (hv _ HS1.out).mono ?_); rintro e w1 ⟨rfl, g1⟩)
      | fail)
    go_ret3
    exact ⟨rfl, ccall g1⟩
set_option maxHeartbeats 8000000 in
set_option maxRecDepth 1000000 in
theorem rlocalMinute_any (nm : List UInt8) (hnl : nm.length ≤ 9223372036854775807) (o : Int) (a : Option Addr) (n c : Nat) (ss : List (Int × Int)) (w : World) (hS : ShIn w a n ss) (hn : n ≤ 9223372036854775807) (t : Int) :
    Calls Try.prog 17 #[.agg #[.string ⟨nm.toArray⟩, .int .i64 o, .slice a n c], .int .i64 t] w (RetNE w (loV (zE (nameB nm) o ss) o ss t) (atE (zE (nameB nm) o ss) t)) := by
  have hv := fun w hS => roffsetAt_any nm hnl o a n c ss w hS hn t
  have HS1 := Lib.hid (hS.call (cnew w (.cells #[.string ⟨nm.toArray⟩, .int .i64 o, .slice a n c] 24)))
  have HB0 := Lib.hid (boxZ_new w nm o a n c 24)
  have hok := @zE_ok (nameB nm) o ss
  obtain ⟨E, HE⟩ : ∃ v, Hid (zE (nameB nm) o ss = v) := ⟨_, rfl⟩
  rw [HE.out] at hok ⊢
  simp only [HE.out] at hv
  have hdV : loV E o ss t = if atE E t = 0 then t + offs o ss t else 0 := rfl
  have hdW : atV E o ss t = if atE E t = 0 then offs o ss t else 0 := rfl
  have hE0 : atE E t = 0 → E = 0 ∧ okI t = true := by
    unfold atE; split
    · rename_i h; split
      · rename_i h2; exact fun _ => ⟨h, h2⟩
      · intro h3; cases h3
    · rename_i h; exact fun h2 => absurd h2 h
  obtain ⟨X, HX⟩ : ∃ v, Hid (atE E t = v) := ⟨_, rfl⟩
  obtain ⟨Y, HY⟩ : ∃ v, Hid (loV E o ss t = v) := ⟨_, rfl⟩
  obtain ⟨Z, HZ⟩ : ∃ v, Hid (atV E o ss t = v) := ⟨_, rfl⟩
  simp only [HX.out, HZ.out] at hv
  rw [HX.out] at hdV hdW hE0
  rw [HY.out] at hdV
  rw [HZ.out] at hdW
  rw [HX.out, HY.out]
  clear hS
  by_cases h0 : X = 0
  · subst h0
    rw [if_pos rfl] at hdV hdW
    obtain ⟨rfl, h2⟩ := hE0 rfl
    have hz := (hok rfl).2.bound t
    rw [← hdW] at hz hdV
    have ht := okI_in h2
    subst hdV
    have s1 : IntKind.i64.wrap (t + Z) = t + Z := IntWalk.i64_in _ (by omega)
    clear hok hE0 h2 hdW
    go_enter Try.func17, Try.ntmps17
    obtain ⟨b0, b1, b2⟩ := HB0.out
    go_wp2_with (first
      | (go_at_call 15; (with_reducible refine (hv _ HS1.out).mono ?_); rintro e w1 ⟨rfl, g1⟩)
      | fail)
    go_ret2
    exact ⟨rfl, ccall g1⟩
  · rw [if_neg h0] at hdV
    subst hdV
    have h1 : (X != 0) = true := by simpa using h0
    clear hok hE0 hdW
    go_enter Try.func17, Try.ntmps17
    obtain ⟨b0, b1, b2⟩ := HB0.out
    go_wp2_with (first
      | (go_at_call 15; (with_reducible refine (hv _ HS1.out).mono ?_); rintro e w1 ⟨rfl, g1⟩)
      | fail)
    go_ret2
    exact ⟨rfl, ccall g1⟩
set_option maxHeartbeats 8000000 in
set_option maxRecDepth 1000000 in
theorem rlocalTime_any (nm : List UInt8) (hnl : nm.length ≤ 9223372036854775807) (o : Int) (a : Option Addr) (n c : Nat) (ss : List (Int × Int)) (w : World) (hS : ShIn w a n ss) (hn : n ≤ 9223372036854775807) (t : Int) :
    Calls Try.prog 19 #[.agg #[.string ⟨nm.toArray⟩, .int .i64 o, .slice a n c], .int .i64 t] w (RetTE w (ltD (zE (nameB nm) o ss) o ss t) (ltC (zE (nameB nm) o ss) o ss t) (atE (zE (nameB nm) o ss) t)) := by
  have hv := fun w hS => rlocalMinute_any nm hnl o a n c ss w hS hn t
  have HS1 := Lib.hid (hS.call (cnew w (.cells #[.string ⟨nm.toArray⟩, .int .i64 o, .slice a n c] 24)))
  have HB0 := Lib.hid (boxZ_new w nm o a n c 24)
  have hok := @zE_ok (nameB nm) o ss
  obtain ⟨E, HE⟩ : ∃ v, Hid (zE (nameB nm) o ss = v) := ⟨_, rfl⟩
  rw [HE.out] at hok ⊢
  simp only [HE.out] at hv
  have hdD : ltD E o ss t = if atE E t = 0 then (t + offs o ss t) / 1440 else 0 := rfl
  have hdC : ltC E o ss t = if atE E t = 0 then (t + offs o ss t) % 1440 else 0 := rfl
  have hdW : loV E o ss t = if atE E t = 0 then t + offs o ss t else 0 := rfl
  have hE0 : atE E t = 0 → E = 0 ∧ okI t = true := by
    unfold atE; split
    · rename_i h; split
      · rename_i h2; exact fun _ => ⟨h, h2⟩
      · intro h3; cases h3
    · rename_i h; exact fun h2 => absurd h2 h
  obtain ⟨X, HX⟩ : ∃ v, Hid (atE E t = v) := ⟨_, rfl⟩
  obtain ⟨Y1, HY1⟩ : ∃ v, Hid (ltD E o ss t = v) := ⟨_, rfl⟩
  obtain ⟨Y2, HY2⟩ : ∃ v, Hid (ltC E o ss t = v) := ⟨_, rfl⟩
  obtain ⟨Z, HZ⟩ : ∃ v, Hid (loV E o ss t = v) := ⟨_, rfl⟩
  simp only [HX.out, HZ.out] at hv
  rw [HX.out] at hdD hdC hdW hE0
  rw [HY1.out] at hdD
  rw [HY2.out] at hdC
  rw [HZ.out] at hdW
  rw [HX.out, HY1.out, HY2.out]
  clear hS
  by_cases h0 : X = 0
  · subst h0
    rw [if_pos rfl] at hdD hdC hdW
    obtain ⟨rfl, h2⟩ := hE0 rfl
    have hz := (hok rfl).2.bound t
    have ht := okI_in h2
    have hzb : -840 ≤ Z ∧ Z ≤ 52596840 := by rw [hdW]; omega
    rw [← hdW] at hdD hdC
    have hsm := rsplitMinute_any Z (by omega) (by omega)
    rw [← hdD, ← hdC] at hsm
    clear hok hE0 h2 hdW hdD hdC hz ht
    go_enter Try.func19, Try.ntmps19
    obtain ⟨b0, b1, b2⟩ := HB0.out
    go_wp2_with (first
      | (go_at_call 17; (with_reducible refine (hv _ HS1.out).mono ?_); rintro e w1 ⟨rfl, g1⟩)
      | (go_at_call 38; (with_reducible refine (hsm _).mono ?_); rintro e w2 ⟨rfl, k2, rfl⟩)
      | fail)
    go_ret3
    exact ⟨rfl, below_drewN (ccall g1) _⟩
  · rw [if_neg h0] at hdD hdC
    subst hdD hdC
    have h1 : (X != 0) = true := by simpa using h0
    clear hok hE0 hdW
    go_enter Try.func19, Try.ntmps19
    obtain ⟨b0, b1, b2⟩ := HB0.out
    go_wp2_with (first
      | (go_at_call 17; (with_reducible refine (hv _ HS1.out).mono ?_); rintro e w1 ⟨rfl, g1⟩)
      | fail)
    go_ret3
    exact ⟨rfl, ccall g1⟩
set_option maxHeartbeats 8000000 in
set_option maxRecDepth 1000000 in
theorem awake7_any (w : World) : Calls Try.prog 11 #[] w (RetB1 w true) := by
  have h := localTime_any [97] (by decide) 60 none 0 0 [] w ⟨rfl, .inl rfl⟩ (by omega) 60
  rw [show zE (nameB [97]) 60 [] = 0 by decide, show ltD 0 60 [] 60 = 0 by decide, show ltC 0 60 [] 60 = 120 by decide, show atE 0 60 = 0 by decide] at h
  go_enter Try.func11, Try.ntmps11
  go_wp2_with (first
    | (go_at_call 18; (with_reducible refine h.mono ?_); rintro e w1 ⟨rfl, g1⟩)
    | fail)
  go_ret
  exact ⟨rfl, g1⟩
end Go.Proofs.Ytiohakpbgmignaa

