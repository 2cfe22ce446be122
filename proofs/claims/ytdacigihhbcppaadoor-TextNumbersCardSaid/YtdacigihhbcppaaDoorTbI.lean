/-
  The reference's IsName, IsCode and IsAirport, at every string.
-/
import Derived.Test.YtdacigihhbcppaaDoorTbH
set_option linter.unusedVariables false
set_option linter.unusedSimpArgs false
namespace Go.Proofs.YtdacigihhbcppaaDoor
open Go.RowKit

def lowB (n : Nat) : Bool := decide (97 ≤ n ∧ n ≤ 122)
def upB (n : Nat) : Bool := decide (65 ≤ n ∧ n ≤ 90)
def numB (n : Nat) : Bool := decide (48 ≤ n ∧ n ≤ 57)
theorem lowB_any (n : Nat) (hn : n < 256) (w : World) : Calls Tryd.prog 32 #[.int .u8 (n : Int)] w (RetQ w (lowB n)) := lower_any n hn w
theorem upB_any (n : Nat) (hn : n < 256) (w : World) : Calls Tryd.prog 34 #[.int .u8 (n : Int)] w (RetQ w (upB n)) := upper_any n hn w
theorem numB_any (n : Nat) (hn : n < 256) (w : World) : Calls Tryd.prog 33 #[.int .u8 (n : Int)] w (RetQ w (numB n)) := number_any n hn w
theorem cls_lowB (n : Nat) : decide (cls n = 1) = lowB n := by
  unfold lowB
  rcases cls_cases n with ⟨h, h1, h2⟩ | ⟨h, h1, h2⟩ | ⟨h, h1, h2⟩ | ⟨h, h1, h2, h3⟩ <;> rw [h] <;> simp <;> omega
theorem cls_upB (n : Nat) : decide (cls n = 2) = upB n := by
  unfold upB
  rcases cls_cases n with ⟨h, h1, h2⟩ | ⟨h, h1, h2⟩ | ⟨h, h1, h2⟩ | ⟨h, h1, h2, h3⟩ <;> rw [h] <;> simp <;> omega
theorem cls_numB (n : Nat) : decide (cls n = 3) = numB n := by
  unfold numB
  rcases cls_cases n with ⟨h, h1, h2⟩ | ⟨h, h1, h2⟩ | ⟨h, h1, h2⟩ | ⟨h, h1, h2, h3⟩ <;> rw [h] <;> simp <;> omega
set_option maxHeartbeats 4000000 in
set_option maxRecDepth 100000 in
theorem rIsName_any (l : List UInt8) (hl : l.length ≤ 9223372036854775807) (w : World) : Calls Tryd.prog 17 #[.string ⟨l.toArray⟩] w (RetQ w (nameB l)) := by
  obtain ⟨B, HB⟩ : ∃ B, Hid (nameB l = B) := ⟨_, rfl⟩
  rw [HB.out]
  have hsz := bsize l
  obtain ⟨L, HL⟩ : ∃ L, Hid (l.length = L) := ⟨_, rfl⟩
  have hdef : B = nameB l := HB.out.symm
  unfold nameB at hdef
  rw [HL.out] at hsz hl hdef
  by_cases h0 : L = 0
  · obtain rfl : B = false := by rw [hdef]; simp [h0]
    have q0 : (L : Int) < 1 := by omega
    clear hdef h0
    go_enter Tryd.func17, Tryd.ntmps17
    go_wp2_with fail
    go_ret
    exact ⟨rfl, rfl⟩
  have q0 : decide ((L : Int) < 1) = false := by simp; omega
  have p0 : (0 : Int) < (L : Int) := by omega
  by_cases h16 : 16 < L
  · obtain rfl : B = false := by rw [hdef]; simp; omega
    have q1 : (16 : Int) < (L : Int) := by omega
    clear hdef
    go_enter Tryd.func17, Tryd.ntmps17
    go_wp2_with fail
    go_ret
    exact ⟨rfl, rfl⟩
  have q1 : decide ((16 : Int) < (L : Int)) = false := by simp; omega
  have hg := bget (l := l) (k := 0) (by rw [HL.out]; omega)
  obtain ⟨n0, HNn0⟩ : ∃ v, Hid ((bAt l 0).toNat = v) := ⟨_, rfl⟩
  have hnn0 : n0 < 256 := by rw [← HNn0.out]; exact UInt8.toNat_lt _
  have hgn0 : ∀ h, ((⟨l.toArray⟩ : ByteArray)[0]'h).toNat = n0 := fun h => by rw [hg h]; exact HNn0.out
  clear hg
  rw [HNn0.out, cls_lowB] at hdef
  by_cases hc : lowB n0 = true
  rotate_left
  · have hc2 : lowB n0 = false := by simpa using hc
    obtain rfl : B = false := by rw [hdef, hc2]; simp
    clear hdef hc
    go_enter Tryd.func17, Tryd.ntmps17
    go_wp2_with (go_at_call 32; (with_reducible refine (lowB_any _ (by assumption) _).mono ?_); rintro e w1 ⟨rfl, rfl⟩)
    go_ret
    exact ⟨rfl, rfl⟩
  have hB : B = l.all nmOk := by rw [hdef, hc]; simp; omega
  clear hdef
  have HBB := Lib.hid hB
  clear hB
  go_enter Tryd.func17, Tryd.ntmps17
  go_wp2_with (first | (go_at_call 32; (with_reducible refine (lowB_any _ (by assumption) _).mono ?_); rintro e w1 ⟨rfl, rfl⟩) | fail)
  go_loop [3] (fun i => ∃ k : Nat, k ≤ L ∧ i = .int .i64 k ∧ Hid ((l.take k).all nmOk = true)) (fun i => L - (intOf i).toNat)
  case atStart => exact ⟨0, by omega, rfl, by unfold Hid; simp⟩
  case round =>
    obtain ⟨k, hk, rfl, hall⟩ := hrel
    by_cases hlt : k < L
    · have hta := all_take nmOk (l := l) (k := k) (by rw [HL.out]; exact hlt)
      have hbad := all_bad nmOk (l := l) (k := k) (by rw [HL.out]; exact hlt)
      have hg := bget (l := l) (k := k) (by rw [HL.out]; exact hlt)
      obtain ⟨n, HNn⟩ : ∃ v, Hid ((bAt l k).toNat = v) := ⟨_, rfl⟩
      have hnn : n < 256 := by rw [← HNn.out]; exact UInt8.toNat_lt _
      have hgn : ∀ h, ((⟨l.toArray⟩ : ByteArray)[k]'h).toNat = n := fun h => by rw [hg h]; exact HNn.out
      clear hg
      rw [show nmOk (bAt l k) = (decide (cls (bAt l k).toNat = 1) || decide (cls (bAt l k).toNat = 3) || decide ((bAt l k).toNat = 95)) from rfl, HNn.out] at hta hbad
      have j0 : (0 : Int) ≤ (k : Int) := by omega
      have j1 : (k : Int) < (L : Int) := by omega
      rw [cls_lowB, cls_numB] at hta hbad
      by_cases b1 : lowB n = true
      · skip
        have HA : Hid ((l.take (k + 1)).all nmOk = true) := by unfold Hid; rw [hta, hall.out, b1]; simp
        clear hta hbad
        go_wp2_with (first | (go_at_call 32; (with_reducible refine (lowB_any _ (by assumption) _).mono ?_); rintro e w1 ⟨rfl, rfl⟩) | (go_at_call 33; (with_reducible refine (numB_any _ (by assumption) _).mono ?_); rintro e w1 ⟨rfl, rfl⟩) | fail)
        go_round
        case rel => exact ⟨k + 1, by omega, by go_num, HA⟩
        case measure => simp [intOf]; omega
      have b1 : lowB n = false := by simpa using b1
      by_cases b2 : numB n = true
      · skip
        have HA : Hid ((l.take (k + 1)).all nmOk = true) := by unfold Hid; rw [hta, hall.out, b1, b2]; simp
        clear hta hbad
        go_wp2_with (first | (go_at_call 32; (with_reducible refine (lowB_any _ (by assumption) _).mono ?_); rintro e w1 ⟨rfl, rfl⟩) | (go_at_call 33; (with_reducible refine (numB_any _ (by assumption) _).mono ?_); rintro e w1 ⟨rfl, rfl⟩) | fail)
        go_round
        case rel => exact ⟨k + 1, by omega, by go_num, HA⟩
        case measure => simp [intOf]; omega
      have b2 : numB n = false := by simpa using b2
      by_cases b3 : n = 95
      · have u1 : ((n : Int) != 95) = false := by simp; omega
        have HA : Hid ((l.take (k + 1)).all nmOk = true) := by unfold Hid; rw [hta, hall.out, b1, b2, show decide (n = 95) = true by simp [b3]]; simp
        clear hta hbad b3
        go_wp2_with (first | (go_at_call 32; (with_reducible refine (lowB_any _ (by assumption) _).mono ?_); rintro e w1 ⟨rfl, rfl⟩) | (go_at_call 33; (with_reducible refine (numB_any _ (by assumption) _).mono ?_); rintro e w1 ⟨rfl, rfl⟩) | fail)
        go_round
        case rel => exact ⟨k + 1, by omega, by go_num, HA⟩
        case measure => simp [intOf]; omega
      · have u1 : ((n : Int) != 95) = true := by simp; omega
        obtain rfl : B = false := by rw [HBB.out]; exact hbad (by rw [b1, b2, show decide (n = 95) = false by simp [b3]]; simp)
        clear hta hbad
        go_wp2_with (first | (go_at_call 32; (with_reducible refine (lowB_any _ (by assumption) _).mono ?_); rintro e w1 ⟨rfl, rfl⟩) | (go_at_call 33; (with_reducible refine (numB_any _ (by assumption) _).mono ?_); rintro e w1 ⟨rfl, rfl⟩) | fail)
        go_ret
        exact ⟨rfl, rfl⟩
    · obtain rfl : k = L := by omega
      obtain rfl : B = true := by
        rw [HBB.out, ← hall.out, List.take_of_length_le (by rw [HL.out]; exact Nat.le_refl _)]
      have j1 : ¬ (k : Int) < (k : Int) := by omega
      go_wp2_with fail
      go_ret
      exact ⟨rfl, rfl⟩
set_option maxHeartbeats 4000000 in
set_option maxRecDepth 100000 in
theorem rIsCode_any (l : List UInt8) (hl : l.length ≤ 9223372036854775807) (w : World) : Calls Tryd.prog 19 #[.string ⟨l.toArray⟩] w (RetQ w (codeB l)) := by
  obtain ⟨B, HB⟩ : ∃ B, Hid (codeB l = B) := ⟨_, rfl⟩
  rw [HB.out]
  have hsz := bsize l
  obtain ⟨L, HL⟩ : ∃ L, Hid (l.length = L) := ⟨_, rfl⟩
  have hdef : B = codeB l := HB.out.symm
  unfold codeB at hdef
  rw [HL.out] at hsz hl hdef
  have hB : B = (decide (0 < L) && decide (L ≤ 8) && l.all cdOk) := hdef
  clear hdef
  have HBB := Lib.hid hB
  clear hB
  go_enter Tryd.func19, Tryd.ntmps19
  go_wp2_with (first | (go_at_call 32; (with_reducible refine (lowB_any _ (by assumption) _).mono ?_); rintro e w1 ⟨rfl, rfl⟩) | fail)
  go_loop [3] (fun i => ∃ k : Nat, k ≤ L ∧ i = .int .i64 k ∧ Hid ((l.take k).all cdOk = true)) (fun i => L - (intOf i).toNat)
  case atStart => exact ⟨0, by omega, rfl, by unfold Hid; simp⟩
  case round =>
    obtain ⟨k, hk, rfl, hall⟩ := hrel
    by_cases hlt : k < L
    · have hta := all_take cdOk (l := l) (k := k) (by rw [HL.out]; exact hlt)
      have hbad := all_bad cdOk (l := l) (k := k) (by rw [HL.out]; exact hlt)
      have hg := bget (l := l) (k := k) (by rw [HL.out]; exact hlt)
      obtain ⟨n, HNn⟩ : ∃ v, Hid ((bAt l k).toNat = v) := ⟨_, rfl⟩
      have hnn : n < 256 := by rw [← HNn.out]; exact UInt8.toNat_lt _
      have hgn : ∀ h, ((⟨l.toArray⟩ : ByteArray)[k]'h).toNat = n := fun h => by rw [hg h]; exact HNn.out
      clear hg
      rw [show cdOk (bAt l k) = (decide (cls (bAt l k).toNat = 2) || decide (cls (bAt l k).toNat = 3)) from rfl, HNn.out] at hta hbad
      have j0 : (0 : Int) ≤ (k : Int) := by omega
      have j1 : (k : Int) < (L : Int) := by omega
      rw [cls_upB, cls_numB] at hta hbad
      by_cases b1 : upB n = true
      · skip
        have HA : Hid ((l.take (k + 1)).all cdOk = true) := by unfold Hid; rw [hta, hall.out, b1]; simp
        clear hta hbad
        go_wp2_with (first | (go_at_call 34; (with_reducible refine (upB_any _ (by assumption) _).mono ?_); rintro e w1 ⟨rfl, rfl⟩) | (go_at_call 33; (with_reducible refine (numB_any _ (by assumption) _).mono ?_); rintro e w1 ⟨rfl, rfl⟩) | fail)
        go_round
        case rel => exact ⟨k + 1, by omega, by go_num, HA⟩
        case measure => simp [intOf]; omega
      have b1 : upB n = false := by simpa using b1
      by_cases b2 : numB n = true
      · skip
        have HA : Hid ((l.take (k + 1)).all cdOk = true) := by unfold Hid; rw [hta, hall.out, b1, b2]; simp
        clear hta hbad
        go_wp2_with (first | (go_at_call 34; (with_reducible refine (upB_any _ (by assumption) _).mono ?_); rintro e w1 ⟨rfl, rfl⟩) | (go_at_call 33; (with_reducible refine (numB_any _ (by assumption) _).mono ?_); rintro e w1 ⟨rfl, rfl⟩) | fail)
        go_round
        case rel => exact ⟨k + 1, by omega, by go_num, HA⟩
        case measure => simp [intOf]; omega
      · have b2 : numB n = false := by simpa using b2
        have hb0 := hbad (by rw [b1, b2]; simp)
        obtain rfl : B = false := by rw [HBB.out, hb0]; simp
        clear hta hbad hb0
        go_wp2_with (first | (go_at_call 34; (with_reducible refine (upB_any _ (by assumption) _).mono ?_); rintro e w1 ⟨rfl, rfl⟩) | (go_at_call 33; (with_reducible refine (numB_any _ (by assumption) _).mono ?_); rintro e w1 ⟨rfl, rfl⟩) | fail)
        go_ret
        exact ⟨rfl, rfl⟩
    · obtain rfl : k = L := by omega
      have ha : l.all cdOk = true := by
        rw [← hall.out, List.take_of_length_le (by rw [HL.out]; exact Nat.le_refl _)]
      have hbb := HBB.out
      rw [ha] at hbb
      have j1 : ¬ (k : Int) < (k : Int) := by omega
      by_cases h1 : 0 < k
      · have v1 : (1 : Int) ≤ (k : Int) := by omega
        by_cases h8 : k ≤ 8
        · obtain rfl : B = true := by rw [hbb]; simp; omega
          have v2 : (k : Int) ≤ 8 := by omega
          clear hbb ha
          go_wp2_with fail
          go_ret
          exact ⟨rfl, rfl⟩
        · obtain rfl : B = false := by rw [hbb]; simp; omega
          have v2 : decide ((k : Int) ≤ 8) = false := by simp; omega
          clear hbb ha
          go_wp2_with fail
          go_ret
          exact ⟨rfl, rfl⟩
      · obtain rfl : B = false := by rw [hbb]; simp; omega
        have v1 : decide ((1 : Int) ≤ (k : Int)) = false := by simp; omega
        clear hbb ha
        go_wp2_with fail
        go_ret
        exact ⟨rfl, rfl⟩
set_option maxHeartbeats 4000000 in
set_option maxRecDepth 100000 in
theorem rIsAirport_any (l : List UInt8) (hl : l.length ≤ 9223372036854775807) (w : World) : Calls Tryd.prog 21 #[.string ⟨l.toArray⟩] w (RetQ w (airB l)) := by
  obtain ⟨B, HB⟩ : ∃ B, Hid (airB l = B) := ⟨_, rfl⟩
  rw [HB.out]
  have hsz := bsize l
  obtain ⟨L, HL⟩ : ∃ L, Hid (l.length = L) := ⟨_, rfl⟩
  have hdef : B = airB l := HB.out.symm
  unfold airB at hdef
  rw [HL.out] at hsz hl hdef
  by_cases h3 : L = 3
  rotate_left
  · obtain rfl : B = false := by rw [hdef]; simp [h3]
    have q1 : ((L : Int) == 3) = false := by simp; omega
    clear hdef
    go_enter Tryd.func21, Tryd.ntmps21
    go_wp2_with fail
    go_ret
    exact ⟨rfl, rfl⟩
  have q1 : ((L : Int) == 3) = true := by simp; omega
  have p0 : (0 : Int) < (L : Int) := by omega
  have p1 : (1 : Int) < (L : Int) := by omega
  have p2 : (2 : Int) < (L : Int) := by omega
  have hl3 : l = [bAt l 0, bAt l 1, bAt l 2] := by
    have h := HL.out
    rw [h3] at h
    match l, h with
    | [x, y, z], _ => rfl
  have hB : B = (apOk (bAt l 0) && (apOk (bAt l 1) && apOk (bAt l 2))) := by
    rw [hdef, h3]; conv => lhs; rw [hl3]
    simp
  rw [show apOk (bAt l 0) = decide (cls (bAt l 0).toNat = 2) from rfl, show apOk (bAt l 1) = decide (cls (bAt l 1).toNat = 2) from rfl, show apOk (bAt l 2) = decide (cls (bAt l 2).toNat = 2) from rfl, cls_upB, cls_upB, cls_upB] at hB
  have hg := bget (l := l) (k := 0) (by rw [HL.out]; omega)
  obtain ⟨n0, HNn0⟩ : ∃ v, Hid ((bAt l 0).toNat = v) := ⟨_, rfl⟩
  have hnn0 : n0 < 256 := by rw [← HNn0.out]; exact UInt8.toNat_lt _
  have hgn0 : ∀ h, ((⟨l.toArray⟩ : ByteArray)[0]'h).toNat = n0 := fun h => by rw [hg h]; exact HNn0.out
  clear hg
  have hg := bget (l := l) (k := 1) (by rw [HL.out]; omega)
  obtain ⟨n1, HNn1⟩ : ∃ v, Hid ((bAt l 1).toNat = v) := ⟨_, rfl⟩
  have hnn1 : n1 < 256 := by rw [← HNn1.out]; exact UInt8.toNat_lt _
  have hgn1 : ∀ h, ((⟨l.toArray⟩ : ByteArray)[1]'h).toNat = n1 := fun h => by rw [hg h]; exact HNn1.out
  clear hg
  have hg := bget (l := l) (k := 2) (by rw [HL.out]; omega)
  obtain ⟨n2, HNn2⟩ : ∃ v, Hid ((bAt l 2).toNat = v) := ⟨_, rfl⟩
  have hnn2 : n2 < 256 := by rw [← HNn2.out]; exact UInt8.toNat_lt _
  have hgn2 : ∀ h, ((⟨l.toArray⟩ : ByteArray)[2]'h).toNat = n2 := fun h => by rw [hg h]; exact HNn2.out
  clear hg
  rw [HNn0.out, HNn1.out, HNn2.out] at hB
  clear hl3 hdef h3
  by_cases b0 : upB n0 = true
  · by_cases b1 : upB n1 = true
    · obtain ⟨b2, HB2⟩ : ∃ v, upB n2 = v := ⟨_, rfl⟩
      obtain rfl : B = b2 := by rw [hB, b0, b1, HB2]; simp
      clear hB
      go_enter Tryd.func21, Tryd.ntmps21
      go_wp2_with (go_at_call 34; (with_reducible refine (upB_any _ (by assumption) _).mono ?_); rintro e w1 ⟨rfl, rfl⟩)
      all_goals
        go_ret
        exact ⟨rfl, rfl⟩
    · have b1 : upB n1 = false := by simpa using b1
      obtain rfl : B = false := by rw [hB, b0, b1]; simp
      clear hB
      go_enter Tryd.func21, Tryd.ntmps21
      go_wp2_with (go_at_call 34; (with_reducible refine (upB_any _ (by assumption) _).mono ?_); rintro e w1 ⟨rfl, rfl⟩)
      go_ret
      exact ⟨rfl, rfl⟩
  · have b0 : upB n0 = false := by simpa using b0
    obtain rfl : B = false := by rw [hB, b0]; simp
    clear hB
    go_enter Tryd.func21, Tryd.ntmps21
    go_wp2_with (go_at_call 34; (with_reducible refine (upB_any _ (by assumption) _).mono ?_); rintro e w1 ⟨rfl, rfl⟩)
    go_ret
    exact ⟨rfl, rfl⟩
end Go.Proofs.YtdacigihhbcppaaDoor

