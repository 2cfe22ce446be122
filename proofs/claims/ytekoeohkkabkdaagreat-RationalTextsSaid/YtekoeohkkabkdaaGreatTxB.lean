/-
  Texts of integers: what is decimal for the program; the sign of a text.
-/
import Derived.Test.YtekoeohkkabkdaaGreatTxA
set_option linter.unusedVariables false
set_option linter.unusedSimpArgs false
namespace Go.Proofs.YtekoeohkkabkdaaGreat
open Go.RowKit

theorem one_byte {l : List UInt8} (h : l.length = 1) : l = [byteAt l 0] := by
  match l, h with
  | [b], _ => rfl
theorem u8_ext {a b : UInt8} (h : a.toNat = b.toNat) : a = b := UInt8.toNat_inj.1 h
theorem first_byte {l : List UInt8} (h : 0 < l.length) : l = byteAt l 0 :: l.drop 1 := by
  match l, h with
  | b :: m, _ => rfl

set_option maxHeartbeats 4000000 in
set_option maxRecDepth 100000 in
theorem isDecimal_any (l : List UInt8) (hl : l.length ≤ 100000) (w : World) : Calls Tryz.prog 59 #[.string ⟨l.toArray⟩] w (RetB1 w (decB l)) := by
  obtain ⟨L, HL⟩ : ∃ v, Hid (l.length = v) := ⟨_, rfl⟩
  have hsz := str_size l
  obtain ⟨B, HBB⟩ : ∃ v, Hid (decB l = v) := ⟨_, rfl⟩
  rw [HL.out] at hl hsz
  rw [HBB.out]
  go_enter Tryz.func59, Tryz.ntmps59
  go_upto_region 2 with fail
  go_loopg [6] L (fun r i wr => ∃ k : Nat, k + r = L ∧ i = .int .i64 k ∧ wr = w ∧ allD (l.take k) = true)
  case atStart => exact ⟨0, by omega, rfl, rfl, rfl⟩
  case round =>
    obtain ⟨k, hk, rfl, rfl, hall⟩ := hrel
    by_cases hlt : k < L
    · have j0 : (0 : Int) ≤ (k : Int) := by omega
      have j1 : (k : Int) < (L : Int) := by omega
      have hg := str_get (l := l) (k := k) (by rw [HL.out]; exact hlt)
      have hta := allD_take (l := l) (k := k) (by rw [HL.out]; exact hlt)
      have hbad := allD_bad (l := l) (k := k) (by rw [HL.out]; exact hlt)
      obtain ⟨b, HB⟩ : ∃ v, Hid (byteAt l k = v) := ⟨_, rfl⟩
      simp only [HB.out] at hg hta hbad
      unfold isD at hta hbad
      obtain ⟨n, HN⟩ : ∃ v, Hid (b.toNat = v) := ⟨_, rfl⟩
      rw [HN.out] at hta hbad
      have hg2 : ∀ h, ((⟨l.toArray⟩ : ByteArray)[k]'h).toNat = n := fun h => by rw [hg h]; exact HN.out
      clear hg
      by_cases h1 : n < 48
      · obtain rfl : B = false := by rw [← HBB.out]; unfold decB; rw [hbad (by simp; omega)]; rfl
        have q1 : (n : Int) < 48 := by omega
        go_wp2_with fail
        go_ret
        exact ⟨rfl, Below.refl _ _⟩
      by_cases h2 : 57 < n
      · obtain rfl : B = false := by rw [← HBB.out]; unfold decB; rw [hbad (by simp; omega)]; rfl
        have q1 : ¬ (n : Int) < 48 := by omega
        have q2 : (57 : Int) < n := by omega
        go_wp2_with fail
        go_ret
        exact ⟨rfl, Below.refl _ _⟩
      have HA : Hid (allD (l.take (k + 1)) = true) := by unfold Hid; rw [hta, hall]; simp; omega
      have q1 : ¬ (n : Int) < 48 := by omega
      have q2 : ¬ (57 : Int) < n := by omega
      clear hta hbad hall
      go_wp2_with fail
      go_roundg (gk - 1)
      case rel => exact ⟨k + 1, by omega, by go_num, rfl, HA.out⟩
      case measure => omega
    · obtain rfl : k = L := by omega
      have ht : l.take k = l := List.take_of_length_le (by rw [HL.out]; exact Nat.le_refl _)
      rw [ht] at hall
      have hdef : B = (decide (0 < k) && !(decide ((byteAt l 0).toNat = 48) && decide (1 < k))) := by
        rw [← HBB.out]; unfold decB; rw [hall, HL.out]; rfl
      have j1 : ¬ (k : Int) < (k : Int) := by omega
      by_cases h0 : k = 0
      · subst h0
        obtain rfl : B = false := by rw [hdef]; simp
        have hnil : l = [] := List.eq_nil_of_length_eq_zero HL.out
        clear hsz HBB hall ht hdef HL
        subst hnil
        go_wp2_with fail
        go_ret
        exact ⟨rfl, Below.refl _ _⟩
      have hg := str_get (l := l) (k := 0) (by rw [HL.out]; omega)
      obtain ⟨n, HN⟩ : ∃ v, Hid ((byteAt l 0).toNat = v) := ⟨_, rfl⟩
      have hg2 : ∀ h, ((⟨l.toArray⟩ : ByteArray)[0]'h).toNat = n := fun h => by rw [hg h]; exact HN.out
      have hne : (l == ([] : List UInt8)) = false := by
        rw [beq_eq_false_iff_ne]; intro h; rw [h] at HL; exact h0 HL.out.symm
      have hne2 : ¬ l = [] := by intro h; rw [h] at HL; exact h0 HL.out.symm
      have q3 : (0 : Int) < (k : Int) := by omega
      rw [HN.out] at hdef
      by_cases h1 : n = 48
      · by_cases h2 : k = 1
        · have hl1 : l = [48] := by
            have := one_byte (l := l) (by rw [HL.out, h2])
            rw [this]
            congr 1
            exact u8_ext (by rw [HN.out, h1]; rfl)
          obtain rfl : B = true := by rw [hdef, h2]; simp
          clear hg hg2 hdef hne hne2 hsz hall ht
          subst hl1
          go_wp2_with fail
          go_ret
          exact ⟨rfl, Below.refl _ _⟩
        · have hl1 : (l == [48]) = false := by
            rw [beq_eq_false_iff_ne]; intro h; rw [h] at HL; exact h2 HL.out.symm
          have hl2 : ¬ l = [48] := by intro h; rw [h] at HL; exact h2 HL.out.symm
          obtain rfl : B = false := by rw [hdef, h1]; simp; omega
          subst h1
          clear hg hdef hall ht
          go_wp2_with fail
          go_ret
          exact ⟨rfl, Below.refl _ _⟩
      · have hl2 : ¬ l = [48] := by
          intro h
          rw [h] at HN
          exact h1 HN.out.symm
        have hl1 : (l == [48]) = false := by rw [beq_eq_false_iff_ne]; exact hl2
        obtain rfl : B = true := by rw [hdef]; simp [h1]; omega
        have q4 : ((n : Int) == 48) = false := by simp; omega
        have q5 : ¬ (n : Int) = 48 := by omega
        have q6 : ((n : Int) != 48) = true := by simp only [bne_iff_ne, ne_eq]; omega
        clear hg hdef hall ht
        go_wp2_with fail
        go_ret
        exact ⟨rfl, Below.refl _ _⟩

theorem loop_all (b : ByteArray) : ∀ (n i : Nat) (r : List UInt8), i + n = b.size → ByteArray.toList.loop b i r = r.reverse ++ b.data.toList.drop i := by
  intro n
  induction n with
  | zero =>
    intro i r h
    unfold ByteArray.toList.loop
    have : ¬ i < b.size := by omega
    rw [if_neg this]
    have h2 : b.data.toList.length ≤ i := by
      have : b.data.toList.length = b.size := Array.length_toList
      omega
    rw [List.drop_eq_nil_of_le h2]; simp
  | succ n ih =>
    intro i r h
    unfold ByteArray.toList.loop
    have h1 : i < b.size := by omega
    rw [if_pos h1, ih (i+1) _ (by omega)]
    have h3 : i < b.data.toList.length := by rw [Array.length_toList]; exact h1
    rw [List.drop_eq_getElem_cons h3]
    have h4 : b.get! i = b.data.toList[i] := by
      have h5 : i < b.data.size := h1
      show b.data[i]! = _
      rw [getElem!_pos b.data i h5]
      rfl
    rw [h4]; simp
theorem toList_data (b : ByteArray) : b.toList = b.data.toList := by
  unfold ByteArray.toList
  rw [loop_all b b.size 0 [] (by omega)]; simp
theorem extract_data (l : List UInt8) (i j : Nat) : (⟨l.toArray⟩ : ByteArray).extract i j = ⟨((l.take j).drop i).toArray⟩ := by
  have : ((⟨l.toArray⟩ : ByteArray).extract i j).data = ((l.take j).drop i).toArray := by
    rw [ByteArray.data_extract]
    show l.toArray.extract i j = _
    simp [List.extract_eq_take_drop, List.drop_take]
  generalize (⟨l.toArray⟩ : ByteArray).extract i j = c at *
  cases c; simp_all
/-- A text without its sign. -/
def cutV (l : List UInt8) : List UInt8 × Bool := if 0 < l.length ∧ (byteAt l 0).toNat = 45 then (l.drop 1, true) else (l, false)
set_option maxHeartbeats 4000000 in
set_option maxRecDepth 100000 in
theorem hasPrefix_any (l : List UInt8) (hl : l.length ≤ 100000) (w : World) : Calls Tryz.prog 78 #[.string ⟨l.toArray⟩, .string ⟨#[45]⟩] w (RetB1 w (cutV l).2) := by
  obtain ⟨L, HL⟩ : ∃ v, Hid (l.length = v) := ⟨_, rfl⟩
  have hsz := str_size l
  obtain ⟨B, HBB⟩ : ∃ v, Hid ((cutV l).2 = v) := ⟨_, rfl⟩
  rw [HBB.out]
  rw [HL.out] at hl hsz
  have hs1 : (⟨#[45]⟩ : ByteArray).size = 1 := rfl
  by_cases h0 : L = 0
  · subst h0
    obtain rfl : B = false := by rw [← HBB.out]; unfold cutV; rw [if_neg (by rw [HL.out]; omega)]
    go_enter Tryz.func78, Tryz.ntmps78
    go_wp2_with fail
    go_ret
    exact ⟨rfl, Below.refl _ _⟩
  · have q1 : (1 : Int) ≤ (L : Int) := by omega
    have hx : (((⟨l.toArray⟩ : ByteArray).extract 0 1).toList == [45]) = B := by
      rw [extract_data, toList_data, ← HBB.out]
      have h1 := first_byte (l := l) (by rw [HL.out]; omega)
      have hc : (cutV l).2 = decide ((byteAt l 0).toNat = 45) := by
        unfold cutV
        by_cases hb : (byteAt l 0).toNat = 45
        · rw [if_pos ⟨by rw [HL.out]; omega, hb⟩]; simp [hb]
        · rw [if_neg (fun h => hb h.2)]; simp [hb]
      rw [hc]
      have h2 : l.take 1 = [byteAt l 0] := by rw [h1]; rfl
      show (((l.take 1).drop 0) == [(45 : UInt8)]) = _
      rw [h2]
      generalize byteAt l 0 = b
      show ([b] == [(45 : UInt8)]) = _
      by_cases hb : b.toNat = 45
      · rw [u8_ext (a := b) (b := 45) (by rw [hb]; rfl)]; rfl
      · have h4 : b ≠ 45 := fun h => hb (by rw [h]; rfl)
        rw [show decide (b.toNat = 45) = false by simp [hb], beq_eq_false_iff_ne]; intro h; exact h4 (List.cons.inj h).1
    go_enter Tryz.func78, Tryz.ntmps78
    go_wp2_with fail
    go_ret
    refine ⟨?_, Below.refl _ _⟩
    rfl
end Go.Proofs.YtekoeohkkabkdaaGreat

