/-
  The program's IsName, IsCode and IsAirport, at every string.
-/
import Derived.Test.YtiohakpbgmignaaTbG
set_option linter.unusedVariables false
set_option linter.unusedSimpArgs false
namespace Go.Proofs.Ytiohakpbgmignaa
open Go.RowKit

set_option maxHeartbeats 4000000 in
set_option maxRecDepth 100000 in
theorem pIsName_any (l : List UInt8) (hl : l.length ≤ 9223372036854775807) (w : World) : Calls Try.prog 31 #[.string ⟨l.toArray⟩] w (RetB1 w (nameB l)) := by
  obtain ⟨B, HB⟩ : ∃ B, Hid (nameB l = B) := ⟨_, rfl⟩
  rw [HB.out]
  have hsz := bsize l
  obtain ⟨L, HL⟩ : ∃ L, Hid (l.length = L) := ⟨_, rfl⟩
  have hdef : B = nameB l := HB.out.symm
  unfold nameB at hdef
  rw [HL.out] at hsz hl hdef
  by_cases h0 : l = []
  · obtain rfl : L = 0 := by rw [← HL.out, h0]; rfl
    obtain rfl : B = false := by rw [hdef]; simp
    clear hdef hsz HL HB
    subst h0
    go_enter Try.func31, Try.ntmps31
    go_wp2_with fail
    go_ret
    exact ⟨rfl, Below.refl _ _⟩
  have hpos : 0 < L := by
    rcases Nat.eq_zero_or_pos L with h | h
    · exact absurd (List.eq_nil_of_length_eq_zero (HL.out.trans h)) h0
    · exact h
  have e1 : (l == ([] : List UInt8)) = false := by rw [beq_eq_false_iff_ne]; exact h0
  by_cases h16 : 16 < L
  · obtain rfl : B = false := by rw [hdef]; simp; omega
    have q1 : (16 : Int) < (L : Int) := by omega
    clear hdef
    go_enter Try.func31, Try.ntmps31
    go_wp2_with fail
    go_ret
    exact ⟨rfl, Below.refl _ _⟩
  have q1 : decide ((16 : Int) < (L : Int)) = false := by simp; omega
  have hg := bget (l := l) (k := 0) (by rw [HL.out]; exact hpos)
  obtain ⟨n0, HN⟩ : ∃ v, Hid ((bAt l 0).toNat = v) := ⟨_, rfl⟩
  have hn0 : n0 < 256 := by rw [← HN.out]; exact UInt8.toNat_lt _
  have hg2 : ∀ h, ((⟨l.toArray⟩ : ByteArray)[0]'h).toNat = n0 := fun h => by rw [hg h]; exact HN.out
  rw [HN.out] at hdef
  clear hg
  have hcl := classOf_any n0 hn0
  obtain ⟨c0, HC0⟩ : ∃ v, Hid (cls n0 = v) := ⟨_, rfl⟩
  rw [HC0.out] at hcl hdef
  by_cases hc0 : c0 = 1
  rotate_left
  · obtain rfl : B = false := by rw [hdef]; simp [hc0]
    have q2 : (c0 != 1) = true := by simpa using hc0
    clear hdef
    go_enter Try.func31, Try.ntmps31
    go_wp2_with (go_at_call 50; (with_reducible refine (hcl _).mono ?_); rintro e w1 ⟨rfl, rfl⟩)
    go_ret
    exact ⟨rfl, Below.refl _ _⟩
  subst hc0
  have hB : B = l.all nmOk := by rw [hdef]; simp; omega
  clear hdef
  obtain ⟨C, T, hC1, hC2, hcv, hcell⟩ := conv_facts l (by rw [HL.out]; exact hl) w
  rw [HL.out] at hC1 hcv hcell
  have HCELL := Lib.hid hcell
  have HBB := Lib.hid hB
  clear hcell hB
  go_enter Try.func31, Try.ntmps31
  go_wp2_with ((go_at_call 50; (with_reducible refine (hcl _).mono ?_); rintro e w1 ⟨rfl, rfl⟩))
  go_loop [22] (fun i => ∃ k : Nat, k ≤ L ∧ i = .int .i64 k ∧ Hid ((l.take k).all nmOk = true)) (fun i => L - (intOf i).toNat)
  case atStart => exact ⟨0, by omega, rfl, by unfold Hid; simp⟩
  case round =>
    obtain ⟨k, hk, rfl, hall⟩ := hrel
    by_cases hlt : k < L
    · have hc := HCELL.out k hlt
      have hta := all_take nmOk (l := l) (k := k) (by rw [HL.out]; exact hlt)
      have hbad := all_bad nmOk (l := l) (k := k) (by rw [HL.out]; exact hlt)
      obtain ⟨b, Hb⟩ : ∃ v, Hid (bAt l k = v) := ⟨_, rfl⟩
      rw [Hb.out] at hta hbad hc
      rw [show nmOk b = (decide (cls b.toNat = 1) || decide (cls b.toNat = 3) || decide (b.toNat = 95)) from rfl] at hta hbad
      obtain ⟨n, Hn⟩ : ∃ v, Hid (b.toNat = v) := ⟨_, rfl⟩
      have hn : n < 256 := by rw [← Hn.out]; exact UInt8.toNat_lt _
      rw [Hn.out] at hta hbad hc
      have hcl := classOf_any n hn
      have hcs := cls_cases n
      obtain ⟨cn, HCN⟩ : ∃ v, Hid (cls n = v) := ⟨_, rfl⟩
      rw [HCN.out] at hta hbad hcl hcs
      have j0 : (0 : Int) ≤ (k : Int) := by omega
      have j1 : (k : Int) < (L : Int) := by omega
      have HTA := Lib.hid hta
      have HBAD := Lib.hid hbad
      clear hta hbad
      rcases hcs with ⟨rfl, r1, r2⟩ | ⟨rfl, r1, r2⟩ | ⟨rfl, r1, r2⟩ | ⟨rfl, r1, r2, r3⟩
      · skip
        have HA : Hid ((l.take (k + 1)).all nmOk = true) := by unfold Hid; rw [HTA.out, hall.out]; simp
        go_wp2_with (go_at_call 50; (with_reducible refine (hcl _).mono ?_); rintro e w1 ⟨rfl, rfl⟩)
        go_round
        case rel => exact ⟨k + 1, by omega, by go_num, HA⟩
        case measure => simp [intOf]; omega
      · by_cases h95 : n = 95
        · have u1 : ((n : Int) != 95) = false := by simp; omega
          have HA : Hid ((l.take (k + 1)).all nmOk = true) := by unfold Hid; rw [HTA.out, hall.out]; simp [h95]
          clear h95
          go_wp2_with (go_at_call 50; (with_reducible refine (hcl _).mono ?_); rintro e w1 ⟨rfl, rfl⟩)
          go_round
          case rel => exact ⟨k + 1, by omega, by go_num, HA⟩
          case measure => simp [intOf]; omega
        · have u1 : ((n : Int) != 95) = true := by simp; omega
          obtain rfl : B = false := by rw [HBB.out]; exact HBAD.out (by simp; exact h95)
          go_wp2_with (go_at_call 50; (with_reducible refine (hcl _).mono ?_); rintro e w1 ⟨rfl, rfl⟩)
          go_ret
          exact ⟨rfl, below_conv _ _⟩
      · skip
        have HA : Hid ((l.take (k + 1)).all nmOk = true) := by unfold Hid; rw [HTA.out, hall.out]; simp
        go_wp2_with (go_at_call 50; (with_reducible refine (hcl _).mono ?_); rintro e w1 ⟨rfl, rfl⟩)
        go_round
        case rel => exact ⟨k + 1, by omega, by go_num, HA⟩
        case measure => simp [intOf]; omega
      · by_cases h95 : n = 95
        · have u1 : ((n : Int) != 95) = false := by simp; omega
          have HA : Hid ((l.take (k + 1)).all nmOk = true) := by unfold Hid; rw [HTA.out, hall.out]; simp [h95]
          clear h95
          go_wp2_with (go_at_call 50; (with_reducible refine (hcl _).mono ?_); rintro e w1 ⟨rfl, rfl⟩)
          go_round
          case rel => exact ⟨k + 1, by omega, by go_num, HA⟩
          case measure => simp [intOf]; omega
        · have u1 : ((n : Int) != 95) = true := by simp; omega
          obtain rfl : B = false := by rw [HBB.out]; exact HBAD.out (by simp; exact h95)
          go_wp2_with (go_at_call 50; (with_reducible refine (hcl _).mono ?_); rintro e w1 ⟨rfl, rfl⟩)
          go_ret
          exact ⟨rfl, below_conv _ _⟩
    · obtain rfl : k = L := by omega
      obtain rfl : B = true := by
        rw [HBB.out, ← hall.out, List.take_of_length_le (by rw [HL.out]; exact Nat.le_refl _)]
      have j1 : ¬ (k : Int) < (k : Int) := by omega
      go_wp2_with fail
      go_ret
      exact ⟨rfl, below_conv _ _⟩
end Go.Proofs.Ytiohakpbgmignaa

