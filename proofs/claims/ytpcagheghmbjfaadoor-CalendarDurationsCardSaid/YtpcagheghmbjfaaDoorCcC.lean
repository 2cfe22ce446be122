/-
  Calendar: a text is cut at its first colon; hours.
-/
import Derived.Test.YtpcagheghmbjfaaDoorCaX
import Derived.Lib.Bytealg
set_option linter.unusedVariables false
set_option linter.unusedSimpArgs false
namespace Go.Proofs.YtpcagheghmbjfaaDoor
open Go.RowKit

set_option maxHeartbeats 2000000 in
set_option maxRecDepth 100000 in
theorem indexByteS_any (l : List UInt8) (w : World) : Calls Tryd.prog 81 #[.string ⟨l.toArray⟩, .int .u8 58] w (RetI0 w (idx l 58)) := by
  have hrun : (Extern.BytealgIndexByte.indexByte #[.string ⟨l.toArray⟩, .int .u8 58]).run Tryd.prog w = .ok (.int .i64 (idx l 58)) w := by
    rw [Lib.run_indexByteString]; rfl
  go_enter Tryd.func81, Tryd.ntmps81
  go_wp2
  rw [run_callFunc_extern Tryd.func90 (by kernel_rfl) (by kernel_rfl) (by kernel_rfl) (e := Extern.BytealgIndexByte.indexByte) (by kernel_rfl), hrun]
  simp only [Result.andThen]
  rw [Oper.upon_value]
  go_wp2
  go_ret
  exact ⟨rfl, rfl⟩
set_option maxHeartbeats 2000000 in
set_option maxRecDepth 100000 in
theorem indexS_any (l : List UInt8) (w : World) : Calls Tryd.prog 73 #[.string ⟨l.toArray⟩, .string ⟨#[58]⟩] w (RetI0 w (idx l 58)) := by
  have hi := indexByteS_any l
  have hs1 : (⟨#[58]⟩ : ByteArray).size = 1 := rfl
  have hg : ∀ h, ((⟨#[58]⟩ : ByteArray)[0]'h).toNat = 58 := fun h => rfl
  by_cases h : l = [58]
  · subst h
    have hx : idx [58] 58 = 0 := by decide
    rw [hx]
    clear hi
    go_enter Tryd.func73, Tryd.ntmps73
    go_wp2_with fail
    go_ret
    exact ⟨rfl, rfl⟩
  · have e1 : (([58] : List UInt8) == l) = false := by rw [beq_eq_false_iff_ne]; exact fun h2 => h h2.symm
    have e2 : (l == ([58] : List UInt8)) = false := by rw [beq_eq_false_iff_ne]; exact h
    have e3 : ¬ ([58] : List UInt8) = l := fun h2 => h h2.symm
    obtain ⟨R, HR⟩ : ∃ v, Hid (idx l 58 = v) := ⟨_, rfl⟩
    rw [HR.out] at hi ⊢
    go_enter Tryd.func73, Tryd.ntmps73
    go_wp2_with (first
      | (go_at_call 81; (with_reducible refine (hi _).mono ?_); rintro e w1 ⟨rfl, rfl⟩)
      | fail)
    go_ret
    exact ⟨rfl, rfl⟩
def RetC3 (w : World) (a b : List UInt8) (f : Bool) (e : Ending) (w' : World) : Prop := e = .returned (.tuple #[.string ⟨a.toArray⟩, .string ⟨b.toArray⟩, .bool f]) ∧ Below w.heap.size w w'
def ct1 (l : List UInt8) : List UInt8 := if 0 ≤ idx l 58 then l.take (idx l 58).toNat else l
def ct2 (l : List UInt8) : List UInt8 := if 0 ≤ idx l 58 then l.drop ((idx l 58).toNat + 1) else []
def ctF (l : List UInt8) : Bool := decide (0 ≤ idx l 58)
set_option maxHeartbeats 2000000 in
set_option maxRecDepth 100000 in
theorem litCutS_any (l : List UInt8) (hl : l.length ≤ 9223372036854775807) (w : World) : Calls Tryd.prog 68 #[.string ⟨l.toArray⟩, .string ⟨#[58]⟩] w (RetC3 w (ct1 l) (ct2 l) (ctF l)) := by
  have hi := indexS_any l
  have hlo := idx_lo l 58
  have hhi := idx_hi l 58
  have hs1 : (⟨#[58]⟩ : ByteArray).size = 1 := rfl
  have hsz := bsize l
  have h1 : ct1 l = if 0 ≤ idx l 58 then l.take (idx l 58).toNat else l := rfl
  have h2 : ct2 l = if 0 ≤ idx l 58 then l.drop ((idx l 58).toNat + 1) else [] := rfl
  have h3 : ctF l = decide (0 ≤ idx l 58) := rfl
  obtain ⟨X, HX⟩ : ∃ v, Hid (ct1 l = v) := ⟨_, rfl⟩
  obtain ⟨Y, HY⟩ : ∃ v, Hid (ct2 l = v) := ⟨_, rfl⟩
  obtain ⟨F, HF⟩ : ∃ v, Hid (ctF l = v) := ⟨_, rfl⟩
  rw [HX.out, HY.out, HF.out]
  rw [HX.out] at h1
  rw [HY.out] at h2
  rw [HF.out] at h3
  obtain ⟨L, HL⟩ : ∃ v, Hid (l.length = v) := ⟨_, rfl⟩
  rw [HL.out] at hhi hsz hl
  by_cases h : 0 ≤ idx l 58
  · obtain ⟨i, hii⟩ : ∃ i : Nat, idx l 58 = (i : Int) := ⟨(idx l 58).toNat, by omega⟩
    rw [hii] at hi hhi h1 h2 h3
    rw [if_pos (by omega)] at h1 h2
    rw [decide_eq_true (by omega)] at h3
    rw [Int.toNat_natCast] at h1 h2
    subst h3
    have hiL : i < L := by omega
    have x1 : (⟨l.toArray⟩ : ByteArray).extract 0 i = ⟨X.toArray⟩ := by rw [ext_take, List.drop_zero, h1]
    have x2 : (⟨l.toArray⟩ : ByteArray).extract (i + 1) L = ⟨Y.toArray⟩ := by rw [ext_take, List.take_of_length_le (by rw [HL.out]; exact Nat.le_refl _), h2]
    have k1 : (0 : Int) ≤ (i : Int) := by omega
    have k2 : (i : Int) ≤ (L : Int) := by omega
    have k3 : (i : Int) + 1 ≤ (L : Int) := by omega
    have k4 : (0 : Int) ≤ (i : Int) + 1 := by omega
    have k5 : IntKind.i64.wrap ((i : Int) + 1) = (i : Int) + 1 := IntWalk.i64_in _ (by omega)
    have k6 : ((i : Int) + 1).toNat = i + 1 := by omega
    clear h1 h2 hlo h hii
    go_enter Tryd.func68, Tryd.ntmps68
    go_upto_region 3 with (first
      | (go_at_call 73; (with_reducible refine (hi _).mono ?_); rintro e w1 ⟨rfl, rfl⟩)
      | fail)
    first
    | (go_quiet (fail))
    | skip
    go_wp2_with fail
    go_ret3
    exact ⟨rfl, by first | exact Below.refl _ _ | exact below_drewN (Below.refl _ _) _⟩
  · have hm : idx l 58 = -1 := by omega
    rw [hm] at hi h1 h2 h3
    rw [if_neg (by omega)] at h1 h2
    rw [decide_eq_false (by omega)] at h3
    subst h1 h2 h3
    clear hm h hlo hhi
    go_enter Tryd.func68, Tryd.ntmps68
    go_wp2_with (first
      | (go_at_call 73; (with_reducible refine (hi _).mono ?_); rintro e w1 ⟨rfl, rfl⟩)
      | fail)
    go_ret3
    exact ⟨rfl, Below.refl _ _⟩
set_option maxHeartbeats 2000000 in
set_option maxRecDepth 100000 in
theorem cutS_any (l : List UInt8) (hl : l.length ≤ 9223372036854775807) (w : World) : Calls Tryd.prog 56 #[.string ⟨l.toArray⟩, .string ⟨#[58]⟩] w (RetC3 w (ct1 l) (ct2 l) (ctF l)) := by
  have hi := litCutS_any l hl w
  unfold RetC3 at *
  obtain ⟨X, HX⟩ : ∃ v, Hid (ct1 l = v) := ⟨_, rfl⟩
  obtain ⟨Y, HY⟩ : ∃ v, Hid (ct2 l = v) := ⟨_, rfl⟩
  obtain ⟨F, HF⟩ : ∃ v, Hid (ctF l = v) := ⟨_, rfl⟩
  rw [HX.out, HY.out, HF.out] at hi ⊢
  go_enter Tryd.func56, Tryd.ntmps56
  go_wp2_with (first
    | (go_at_call 68; (with_reducible refine hi.mono ?_); rintro e w1 ⟨rfl, g1⟩)
    | fail)
  go_ret3
  exact ⟨rfl, g1⟩

/-- Hours: one to eleven digits, the first not 0 unless it is the only one. -/
def hoursB (l : List UInt8) : Bool := decide (1 ≤ l.length) && decide (l.length ≤ 11) && l.all dgOk && (decide ((bAt l 0).toNat ≠ 48) || decide (l.length = 1))
set_option maxHeartbeats 4000000 in
set_option maxRecDepth 100000 in
theorem isHours_any (l : List UInt8) (hl : l.length ≤ 9223372036854775807) (w : World) : Calls Tryd.prog 57 #[.string ⟨l.toArray⟩] w (RetB1 w (hoursB l)) := by
  have hd := areDigits_any l hl w
  have hdef : hoursB l = (decide (1 ≤ l.length) && decide (l.length ≤ 11) && l.all dgOk && (decide ((bAt l 0).toNat ≠ 48) || decide (l.length = 1))) := rfl
  obtain ⟨B, HB⟩ : ∃ v, Hid (hoursB l = v) := ⟨_, rfl⟩
  rw [HB.out] at hdef ⊢
  have hsz := bsize l
  obtain ⟨A, HA⟩ : ∃ v, Hid (l.all dgOk = v) := ⟨_, rfl⟩
  rw [HA.out] at hd hdef
  by_cases h0 : l = []
  · subst h0
    obtain rfl : B = false := by rw [hdef]; rfl
    clear hdef hd hsz HB HA
    go_enter Tryd.func57, Tryd.ntmps57
    go_wp2_with fail
    go_ret
    exact ⟨rfl, Below.refl _ _⟩
  have hpos : 1 ≤ l.length := by
    rcases Nat.eq_zero_or_pos l.length with h | h
    · exact absurd (List.eq_nil_of_length_eq_zero h) h0
    · exact h
  have hg := bget (l := l) (k := 0) (by omega)
  have h48 : l = [48] ↔ (l.length = 1 ∧ (bAt l 0).toNat = 48) := by
    constructor
    · rintro rfl; exact ⟨rfl, rfl⟩
    · rintro ⟨h1, h2⟩
      rw [one_b h1]; congr 1; exact u8_ex h2
  obtain ⟨n, HN⟩ : ∃ v, Hid ((bAt l 0).toNat = v) := ⟨_, rfl⟩
  have hg2 : ∀ h, ((⟨l.toArray⟩ : ByteArray)[0]'h).toNat = n := fun h => by rw [hg h]; exact HN.out
  rw [HN.out] at hdef h48
  clear hg
  obtain ⟨L, HL⟩ : ∃ v, Hid (l.length = v) := ⟨_, rfl⟩
  rw [HL.out] at hsz hl hdef hpos h48
  have e1 : (l == ([] : List UInt8)) = false := by rw [beq_eq_false_iff_ne]; exact h0
  have j0 : (0 : Int) < (L : Int) := by omega
  rw [decide_eq_true hpos, Bool.true_and] at hdef
  by_cases h11 : 11 < L
  · have q1 : (11 : Int) < (L : Int) := by omega
    obtain rfl : B = false := by rw [hdef, decide_eq_false (by omega)]; rfl
    clear hdef h48 hd
    go_enter Tryd.func57, Tryd.ntmps57
    go_wp2_with fail
    go_ret
    exact ⟨rfl, Below.refl _ _⟩
  have q1 : decide ((11 : Int) < (L : Int)) = false := by simp; omega
  rw [decide_eq_true (show L ≤ 11 by omega), Bool.true_and] at hdef
  cases A with
  | false =>
    obtain rfl : B = false := by rw [hdef]; rfl
    clear hdef h48
    go_enter Tryd.func57, Tryd.ntmps57
    go_wp2_with (first
      | (go_at_call 69; (with_reducible refine hd.mono ?_); rintro e w1 ⟨rfl, g1⟩)
      | fail)
    go_ret
    exact ⟨rfl, g1⟩
  | true =>
    rw [Bool.true_and] at hdef
    by_cases hn : n = 48
    · subst hn
      by_cases hL1 : L = 1
      · have hl48 : l = [48] := h48.2 ⟨hL1, rfl⟩
        have e2 : (l == ([48] : List UInt8)) = true := by rw [hl48]; rfl
        obtain rfl : B = true := by rw [hdef, decide_eq_true hL1]; simp
        clear hdef h48 hl48 h0
        go_enter Tryd.func57, Tryd.ntmps57
        go_wp2_with (first
          | (go_at_call 69; (with_reducible refine hd.mono ?_); rintro e w1 ⟨rfl, g1⟩)
          | fail)
        go_ret
        exact ⟨rfl, g1⟩
      · have hl48 : ¬ l = [48] := fun h => hL1 (h48.1 h).1
        have e2 : (l == ([48] : List UInt8)) = false := by rw [beq_eq_false_iff_ne]; exact hl48
        obtain rfl : B = false := by rw [hdef, decide_eq_false hL1]; simp
        clear hdef h48
        go_enter Tryd.func57, Tryd.ntmps57
        go_wp2_with (first
          | (go_at_call 69; (with_reducible refine hd.mono ?_); rintro e w1 ⟨rfl, g1⟩)
          | fail)
        go_ret
        exact ⟨rfl, g1⟩
    · have e3 : ((n : Int) == 48) = false := by simp; omega
      have e4 : ((n : Int) != 48) = true := by rw [bne, e3]; rfl
      have e5 : ¬ (n : Int) = 48 := by omega
      obtain rfl : B = true := by rw [hdef, decide_eq_true hn]; rfl
      clear hdef h48
      go_enter Tryd.func57, Tryd.ntmps57
      go_wp2_with (first
        | (go_at_call 69; (with_reducible refine hd.mono ?_); rintro e w1 ⟨rfl, g1⟩)
        | fail)
      go_ret
      exact ⟨rfl, g1⟩
end Go.Proofs.YtpcagheghmbjfaaDoor

