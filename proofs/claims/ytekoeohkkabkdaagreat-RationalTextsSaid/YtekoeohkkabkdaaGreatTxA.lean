/-
  Texts of integers: what is decimal, on both sides.
-/
import Derived.Test.YtekoeohkkabkdaaGreatLightA
set_option linter.unusedVariables false
set_option linter.unusedSimpArgs false
namespace Go.Proofs.YtekoeohkkabkdaaGreat
open Go.RowKit

/-- A decimal digit. -/
def isD (b : UInt8) : Bool := decide (48 ≤ b.toNat ∧ b.toNat ≤ 57)
def allD (l : List UInt8) : Bool := l.all isD
def byteAt (l : List UInt8) (k : Nat) : UInt8 := l.getD k 0
theorem str_size (l : List UInt8) : (⟨l.toArray⟩ : ByteArray).size = l.length := by show l.toArray.size = _; simp
theorem str_get {l : List UInt8} {k : Nat} (hk : k < l.length) : ∀ h, ((⟨l.toArray⟩ : ByteArray)[k]'h) = byteAt l k := by
  intro h
  show l.toArray[k] = _
  unfold byteAt
  simp [List.getD, List.getElem?_eq_getElem hk]
theorem allD_take {l : List UInt8} {k : Nat} (hk : k < l.length) : allD (l.take (k + 1)) = (allD (l.take k) && isD (byteAt l k)) := by
  unfold allD byteAt
  have h : l[k]? = some l[k] := List.getElem?_eq_getElem hk
  have h2 : l.take (k + 1) = l.take k ++ [l[k]] := by rw [List.take_add_one, h]; rfl
  rw [h2, List.all_append]
  simp [List.getD, h]
theorem allD_bad {l : List UInt8} {k : Nat} (hk : k < l.length) (h : isD (byteAt l k) = false) : allD l = false := by
  unfold allD byteAt at *
  have h1 : l[k]? = some l[k] := List.getElem?_eq_getElem hk
  simp only [List.getD, h1, Option.getD_some] at h
  rw [List.all_eq_false]
  exact ⟨l[k], List.getElem_mem hk, by rw [h]; simp⟩
/-- What is a decimal number without a sign. -/
def decB (l : List UInt8) : Bool := allD l && decide (0 < l.length) && !(decide ((byteAt l 0).toNat = 48) && decide (1 < l.length))

set_option maxHeartbeats 4000000 in
set_option maxRecDepth 100000 in
theorem digits_any (l : List UInt8) (hl : l.length ≤ 100000) (w : World) : Calls Tryz.prog 28 #[.string ⟨l.toArray⟩] w (RetB1 w (allD l && decide (0 < l.length))) := by
  obtain ⟨L, HL⟩ : ∃ v, Hid (l.length = v) := ⟨_, rfl⟩
  have hsz := str_size l
  rw [HL.out] at hl hsz ⊢
  go_enter Tryz.func28, Tryz.ntmps28
  go_upto_region 2 with fail
  go_loopg [3] L (fun r i wr => ∃ k : Nat, k + r = L ∧ i = .int .i64 k ∧ wr = w ∧ allD (l.take k) = true)
  case atStart => exact ⟨0, by omega, rfl, rfl, rfl⟩
  case round =>
    obtain ⟨k, hk, rfl, rfl, hall⟩ := hrel
    by_cases hlt : k < L
    · have j0 : (0 : Int) ≤ (k : Int) := by omega
      have j1 : (k : Int) < (L : Int) := by omega
      have hg := str_get (l := l) (k := k) (by rw [HL.out]; exact hlt)
      have hta := allD_take (l := l) (k := k) (by rw [HL.out]; exact hlt)
      have hbad := allD_bad (l := l) (k := k) (by rw [HL.out]; exact hlt)
      obtain ⟨b, HB⟩ : ∃ v, Hid (byteAt l k = v) := ⟨_, rfl⟩
      simp only [HB.out] at hg hta hbad
      unfold isD at hta hbad
      obtain ⟨n, HN⟩ : ∃ v, Hid (b.toNat = v) := ⟨_, rfl⟩
      rw [HN.out] at hta hbad
      have hg2 : ∀ h, ((⟨l.toArray⟩ : ByteArray)[k]'h).toNat = n := fun h => by rw [hg h]; exact HN.out
      clear hg
      by_cases h1 : n < 48
      · have hf := hbad (by simp; omega)
        rw [hf]
        have q1 : (n : Int) < 48 := by omega
        go_wp2_with fail
        go_ret
        exact ⟨rfl, Below.refl _ _⟩
      by_cases h2 : 57 < n
      · have hf := hbad (by simp; omega)
        rw [hf]
        have q1 : ¬ (n : Int) < 48 := by omega
        have q2 : (57 : Int) < n := by omega
        go_wp2_with fail
        go_ret
        exact ⟨rfl, Below.refl _ _⟩
      have HA : Hid (allD (l.take (k + 1)) = true) := by unfold Hid; rw [hta, hall]; simp; omega
      have q1 : ¬ (n : Int) < 48 := by omega
      have q2 : ¬ (57 : Int) < n := by omega
      clear hta hbad hall
      go_wp2_with fail
      go_roundg (gk - 1)
      case rel => exact ⟨k + 1, by omega, by go_num, rfl, HA.out⟩
      case measure => omega
    · obtain rfl : k = L := by omega
      have ht : l.take k = l := List.take_of_length_le (by rw [HL.out]; exact Nat.le_refl _)
      rw [ht] at hall
      rw [hall]
      have j1 : ¬ (k : Int) < (k : Int) := by omega
      by_cases h0 : 0 < k
      · have q0 : (0 : Int) < (k : Int) := by omega
        rw [show (true && decide (0 < k)) = true by simp [h0]]
        go_wp2_with fail
        go_ret
        exact ⟨rfl, Below.refl _ _⟩
      · obtain rfl : k = 0 := by omega
        go_wp2_with fail
        go_ret
        exact ⟨rfl, Below.refl _ _⟩

set_option maxHeartbeats 4000000 in
set_option maxRecDepth 100000 in
theorem decimal_any (l : List UInt8) (hl : l.length ≤ 100000) (w : World) : Calls Tryz.prog 24 #[.string ⟨l.toArray⟩] w (RetB1 w (decB l)) := by
  have hd := digits_any l hl w
  have hsz := str_size l
  unfold decB
  obtain ⟨L, HL⟩ : ∃ v, Hid (l.length = v) := ⟨_, rfl⟩
  rw [HL.out] at hl hsz hd ⊢
  by_cases h0 : L = 0
  · subst h0
    rw [show (allD l && decide (0 < 0) && !(decide ((byteAt l 0).toNat = 48) && decide (1 < 0))) = false by simp]
    go_enter Tryz.func24, Tryz.ntmps24
    go_wp2_with fail
    go_ret
    exact ⟨rfl, Below.refl _ _⟩
  · have hg := str_get (l := l) (k := 0) (by rw [HL.out]; omega)
    obtain ⟨n, HN⟩ : ∃ v, Hid ((byteAt l 0).toNat = v) := ⟨_, rfl⟩
    have hg2 : ∀ h, ((⟨l.toArray⟩ : ByteArray)[0]'h).toNat = n := fun h => by rw [hg h]; exact HN.out
    rw [HN.out]
    clear hg
    have q0 : ((L : Int) == 0) = false := by simp; omega
    have q1 : (0 : Int) < (L : Int) := by omega
    by_cases h1 : n = 48
    · subst h1
      by_cases h2 : 1 < L
      · have q2 : (1 : Int) < (L : Int) := by omega
        rw [show (allD l && decide (0 < L) && !(decide (48 = 48) && decide (1 < L))) = false by simp [h2]]
        go_enter Tryz.func24, Tryz.ntmps24
        go_wp2_with fail
        go_ret
        exact ⟨rfl, Below.refl _ _⟩
      · have q2 : ¬ (1 : Int) < (L : Int) := by omega
        rw [show (allD l && decide (0 < L) && !(decide (48 = 48) && decide (1 < L))) = (allD l && decide (0 < L)) by simp [h2]]
        go_enter Tryz.func24, Tryz.ntmps24
        go_wp2_with (first
          | (go_at_call 28; (with_reducible refine hd.mono ?_); rintro e w1 ⟨rfl, g1⟩)
          | fail)
        go_ret
        exact ⟨rfl, g1⟩
    · have q2 : ((n : Int) == 48) = false := by simp; omega
      have q3 : ¬ (n : Int) = 48 := by omega
      rw [show (allD l && decide (0 < L) && !(decide (n = 48) && decide (1 < L))) = (allD l && decide (0 < L)) by simp [h1]]
      go_enter Tryz.func24, Tryz.ntmps24
      go_wp2_with (first
        | (go_at_call 28; (with_reducible refine hd.mono ?_); rintro e w1 ⟨rfl, g1⟩)
        | fail)
      go_ret
      exact ⟨rfl, g1⟩
end Go.Proofs.YtekoeohkkabkdaaGreat

