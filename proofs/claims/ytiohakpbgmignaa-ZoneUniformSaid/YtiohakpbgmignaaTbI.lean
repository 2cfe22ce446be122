/-
  The reference's IsName, IsCode and IsAirport, at every string.
-/
import Derived.Test.YtiohakpbgmignaaTbH
set_option linter.unusedVariables false
set_option linter.unusedSimpArgs false
namespace Go.Proofs.Ytiohakpbgmignaa
open Go.RowKit

def lowB (n : Nat) : Bool := decide (97 ≤ n ∧ n ≤ 122)
def upB (n : Nat) : Bool := decide (65 ≤ n ∧ n ≤ 90)
def numB (n : Nat) : Bool := decide (48 ≤ n ∧ n ≤ 57)
theorem lowB_any (n : Nat) (hn : n < 256) (w : World) : Calls Try.prog 51 #[.int .u8 (n : Int)] w (RetQ w (lowB n)) := lower_any n hn w
theorem numB_any (n : Nat) (hn : n < 256) (w : World) : Calls Try.prog 52 #[.int .u8 (n : Int)] w (RetQ w (numB n)) := number_any n hn w
theorem cls_lowB (n : Nat) : decide (cls n = 1) = lowB n := by
  unfold lowB
  rcases cls_cases n with ⟨h, h1, h2⟩ | ⟨h, h1, h2⟩ | ⟨h, h1, h2⟩ | ⟨h, h1, h2, h3⟩ <;> rw [h] <;> simp <;> omega
theorem cls_upB (n : Nat) : decide (cls n = 2) = upB n := by
  unfold upB
  rcases cls_cases n with ⟨h, h1, h2⟩ | ⟨h, h1, h2⟩ | ⟨h, h1, h2⟩ | ⟨h, h1, h2, h3⟩ <;> rw [h] <;> simp <;> omega
theorem cls_numB (n : Nat) : decide (cls n = 3) = numB n := by
  unfold numB
  rcases cls_cases n with ⟨h, h1, h2⟩ | ⟨h, h1, h2⟩ | ⟨h, h1, h2⟩ | ⟨h, h1, h2, h3⟩ <;> rw [h] <;> simp <;> omega
set_option maxHeartbeats 4000000 in
set_option maxRecDepth 100000 in
theorem rIsName_any (l : List UInt8) (hl : l.length ≤ 9223372036854775807) (w : World) : Calls Try.prog 34 #[.string ⟨l.toArray⟩] w (RetQ w (nameB l)) := by
  obtain ⟨B, HB⟩ : ∃ B, Hid (nameB l = B) := ⟨_, rfl⟩
  rw [HB.out]
  have hsz := bsize l
  obtain ⟨L, HL⟩ : ∃ L, Hid (l.length = L) := ⟨_, rfl⟩
  have hdef : B = nameB l := HB.out.symm
  unfold nameB at hdef
  rw [HL.out] at hsz hl hdef
  by_cases h0 : L = 0
  · obtain rfl : B = false := by rw [hdef]; simp [h0]
    have q0 : (L : Int) < 1 := by omega
    clear hdef h0
    go_enter Try.func34, Try.ntmps34
    go_wp2_with fail
    go_ret
    exact ⟨rfl, rfl⟩
  have q0 : decide ((L : Int) < 1) = false := by simp; omega
  have p0 : (0 : Int) < (L : Int) := by omega
  by_cases h16 : 16 < L
  · obtain rfl : B = false := by rw [hdef]; simp; omega
    have q1 : (16 : Int) < (L : Int) := by omega
    clear hdef
    go_enter Try.func34, Try.ntmps34
    go_wp2_with fail
    go_ret
    exact ⟨rfl, rfl⟩
  have q1 : decide ((16 : Int) < (L : Int)) = false := by simp; omega
  have hg := bget (l := l) (k := 0) (by rw [HL.out]; omega)
  obtain ⟨n0, HNn0⟩ : ∃ v, Hid ((bAt l 0).toNat = v) := ⟨_, rfl⟩
  have hnn0 : n0 < 256 := by rw [← HNn0.out]; exact UInt8.toNat_lt _
  have hgn0 : ∀ h, ((⟨l.toArray⟩ : ByteArray)[0]'h).toNat = n0 := fun h => by rw [hg h]; exact HNn0.out
  clear hg
  rw [HNn0.out, cls_lowB] at hdef
  by_cases hc : lowB n0 = true
  rotate_left
  · have hc2 : lowB n0 = false := by simpa using hc
    obtain rfl : B = false := by rw [hdef, hc2]; simp
    clear hdef hc
    go_enter Try.func34, Try.ntmps34
    go_wp2_with (go_at_call 51; (with_reducible refine (lowB_any _ (by assumption) _).mono ?_); rintro e w1 ⟨rfl, rfl⟩)
    go_ret
    exact ⟨rfl, rfl⟩
  have hB : B = l.all nmOk := by rw [hdef, hc]; simp; omega
  clear hdef
  have HBB := Lib.hid hB
  clear hB
  go_enter Try.func34, Try.ntmps34
  go_wp2_with (first | (go_at_call 51; (with_reducible refine (lowB_any _ (by assumption) _).mono ?_); rintro e w1 ⟨rfl, rfl⟩) | fail)
  go_loop [3] (fun i => ∃ k : Nat, k ≤ L ∧ i = .int .i64 k ∧ Hid ((l.take k).all nmOk = true)) (fun i => L - (intOf i).toNat)
  case atStart => exact ⟨0, by omega, rfl, by unfold Hid; simp⟩
  case round =>
    obtain ⟨k, hk, rfl, hall⟩ := hrel
    by_cases hlt : k < L
    · have hta := all_take nmOk (l := l) (k := k) (by rw [HL.out]; exact hlt)
      have hbad := all_bad nmOk (l := l) (k := k) (by rw [HL.out]; exact hlt)
      have hg := bget (l := l) (k := k) (by rw [HL.out]; exact hlt)
      obtain ⟨n, HNn⟩ : ∃ v, Hid ((bAt l k).toNat = v) := ⟨_, rfl⟩
      have hnn : n < 256 := by rw [← HNn.out]; exact UInt8.toNat_lt _
      have hgn : ∀ h, ((⟨l.toArray⟩ : ByteArray)[k]'h).toNat = n := fun h => by rw [hg h]; exact HNn.out
      clear hg
      rw [show nmOk (bAt l k) = (decide (cls (bAt l k).toNat = 1) || decide (cls (bAt l k).toNat = 3) || decide ((bAt l k).toNat = 95)) from rfl, HNn.out] at hta hbad
      have j0 : (0 : Int) ≤ (k : Int) := by omega
      have j1 : (k : Int) < (L : Int) := by omega
      rw [cls_lowB, cls_numB] at hta hbad
      by_cases b1 : lowB n = true
      · skip
        have HA : Hid ((l.take (k + 1)).all nmOk = true) := by unfold Hid; rw [hta, hall.out, b1]; simp
        clear hta hbad
        go_wp2_with (first | (go_at_call 51; (with_reducible refine (lowB_any _ (by assumption) _).mono ?_); rintro e w1 ⟨rfl, rfl⟩) | (go_at_call 52; (with_reducible refine (numB_any _ (by assumption) _).mono ?_); rintro e w1 ⟨rfl, rfl⟩) | fail)
        go_round
        case rel => exact ⟨k + 1, by omega, by go_num, HA⟩
        case measure => simp [intOf]; omega
      have b1 : lowB n = false := by simpa using b1
      by_cases b2 : numB n = true
      · skip
        have HA : Hid ((l.take (k + 1)).all nmOk = true) := by unfold Hid; rw [hta, hall.out, b1, b2]; simp
        clear hta hbad
        go_wp2_with (first | (go_at_call 51; (with_reducible refine (lowB_any _ (by assumption) _).mono ?_); rintro e w1 ⟨rfl, rfl⟩) | (go_at_call 52; (with_reducible refine (numB_any _ (by assumption) _).mono ?_); rintro e w1 ⟨rfl, rfl⟩) | fail)
        go_round
        case rel => exact ⟨k + 1, by omega, by go_num, HA⟩
        case measure => simp [intOf]; omega
      have b2 : numB n = false := by simpa using b2
      by_cases b3 : n = 95
      · have u1 : ((n : Int) != 95) = false := by simp; omega
        have HA : Hid ((l.take (k + 1)).all nmOk = true) := by unfold Hid; rw [hta, hall.out, b1, b2, show decide (n = 95) = true by simp [b3]]; simp
        clear hta hbad b3
        go_wp2_with (first | (go_at_call 51; (with_reducible refine (lowB_any _ (by assumption) _).mono ?_); rintro e w1 ⟨rfl, rfl⟩) | (go_at_call 52; (with_reducible refine (numB_any _ (by assumption) _).mono ?_); rintro e w1 ⟨rfl, rfl⟩) | fail)
        go_round
        case rel => exact ⟨k + 1, by omega, by go_num, HA⟩
        case measure => simp [intOf]; omega
      · have u1 : ((n : Int) != 95) = true := by simp; omega
        obtain rfl : B = false := by rw [HBB.out]; exact hbad (by rw [b1, b2, show decide (n = 95) = false by simp [b3]]; simp)
        clear hta hbad
        go_wp2_with (first | (go_at_call 51; (with_reducible refine (lowB_any _ (by assumption) _).mono ?_); rintro e w1 ⟨rfl, rfl⟩) | (go_at_call 52; (with_reducible refine (numB_any _ (by assumption) _).mono ?_); rintro e w1 ⟨rfl, rfl⟩) | fail)
        go_ret
        exact ⟨rfl, rfl⟩
    · obtain rfl : k = L := by omega
      obtain rfl : B = true := by
        rw [HBB.out, ← hall.out, List.take_of_length_le (by rw [HL.out]; exact Nat.le_refl _)]
      have j1 : ¬ (k : Int) < (k : Int) := by omega
      go_wp2_with fail
      go_ret
      exact ⟨rfl, rfl⟩
end Go.Proofs.Ytiohakpbgmignaa

