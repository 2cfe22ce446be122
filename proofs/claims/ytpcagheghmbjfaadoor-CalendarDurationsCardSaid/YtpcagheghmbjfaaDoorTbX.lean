/-
  The reference's ParseInt, at every string.
-/
import Derived.Test.YtpcagheghmbjfaaDoorTbW
import Derived.Test.YtpcagheghmbjfaaDoorTbI
set_option linter.unusedVariables false
set_option linter.unusedSimpArgs false
namespace Go.Proofs.YtpcagheghmbjfaaDoor
open Go.RowKit

def digB (l : List UInt8) (lo hi : Nat) : Bool := decide (lo ≤ l.length) && decide (l.length ≤ hi) && l.all dgOk
def digV (l : List UInt8) (lo hi : Nat) : Int := if digB l lo hi = true then (decN l : Int) else 0
def RetD (w : World) (l : List UInt8) (lo hi : Nat) (e : Ending) (w' : World) : Prop := e = .returned (.tuple #[.int .i64 (digV l lo hi), .bool (digB l lo hi)]) ∧ w = w'
set_option maxHeartbeats 4000000 in
set_option maxRecDepth 100000 in
theorem rDigits_any (l : List UInt8) (hl : l.length ≤ 9223372036854775807) (lo hi : Nat) (hhi : hi ≤ 18) (hlo : lo ≤ 18) (w : World) : Calls Tryd.prog 51 #[.string ⟨l.toArray⟩, .int .i64 (lo : Int), .int .i64 (hi : Int)] w (RetD w l lo hi) := by
  have hV : digV l lo hi = if digB l lo hi = true then (decN l : Int) else 0 := rfl
  obtain ⟨V, HV⟩ : ∃ v, Hid (digV l lo hi = v) := ⟨_, rfl⟩
  unfold RetD
  rw [HV.out]
  rw [HV.out] at hV
  have hB : digB l lo hi = (decide (lo ≤ l.length) && decide (l.length ≤ hi) && l.all dgOk) := rfl
  obtain ⟨B, HB⟩ : ∃ v, Hid (digB l lo hi = v) := ⟨_, rfl⟩
  rw [HB.out] at hV hB ⊢
  have hsz := bsize l
  obtain ⟨L, HL⟩ : ∃ L, Hid (l.length = L) := ⟨_, rfl⟩
  rw [HL.out] at hsz hl hB
  by_cases h1 : L < lo
  · obtain rfl : B = false := by rw [hB]; simp; omega
    obtain rfl : V = 0 := by rw [hV]; simp
    have q1 : (L : Int) < (lo : Int) := by omega
    clear hB hV
    go_enter Tryd.func51, Tryd.ntmps51
    go_wp2_with fail
    go_ret2
    exact ⟨rfl, rfl⟩
  have q1 : decide ((L : Int) < (lo : Int)) = false := by simp; omega
  have q1' : ¬ (L : Int) < (lo : Int) := by omega
  by_cases h2 : hi < L
  · obtain rfl : B = false := by rw [hB]; simp; omega
    obtain rfl : V = 0 := by rw [hV]; simp
    have q2 : (hi : Int) < (L : Int) := by omega
    clear hB hV
    go_enter Tryd.func51, Tryd.ntmps51
    go_wp2_with fail
    go_ret2
    exact ⟨rfl, rfl⟩
  have q2 : decide ((hi : Int) < (L : Int)) = false := by simp; omega
  have q2' : ¬ (hi : Int) < (L : Int) := by omega
  have hB2 : B = l.all dgOk := by rw [hB]; simp; omega
  have hL18 : L ≤ 18 := by omega
  have HBB := Lib.hid hB2
  have HVV := Lib.hid hV
  clear hB hB2 hV
  go_enter Tryd.func51, Tryd.ntmps51
  go_wp2_with fail
  go_loop [9, 8] (fun i v => ∃ k m : Nat, k ≤ L ∧ i = .int .i64 k ∧ v = .int .i64 m ∧ Hid (decN (l.take k) = m) ∧ Hid ((l.take k).all dgOk = true)) (fun i _ => L - (intOf i).toNat)
  case atStart => exact ⟨0, 0, by omega, rfl, rfl, rfl, by unfold Hid; simp⟩
  case round =>
    obtain ⟨k, m, hk, rfl, rfl, hm, hall⟩ := hrel
    by_cases hlt : k < L
    · have hg := bget (l := l) (k := k) (by rw [HL.out]; exact hlt)
      have hta := all_take dgOk (l := l) (k := k) (by rw [HL.out]; exact hlt)
      have hbad := all_bad dgOk (l := l) (k := k) (by rw [HL.out]; exact hlt)
      have hts := decN_take (l := l) (k := k) (by rw [HL.out]; exact hlt)
      have hlt2 := decN_lt hall.out
      rw [hm.out] at hts hlt2
      rw [List.length_take, HL.out] at hlt2
      have hms : m < 100000000000000000 := by
        have := pow_le10 (k := min k L) (n := 17) (by omega)
        omega
      clear hlt2
      rw [show dgOk (bAt l k) = numB (bAt l k).toNat from rfl] at hta hbad
      obtain ⟨c, HC⟩ : ∃ v, Hid ((bAt l k).toNat = v) := ⟨_, rfl⟩
      have hc256 : c < 256 := by rw [← HC.out]; exact UInt8.toNat_lt _
      have hgc : ∀ h, ((⟨l.toArray⟩ : ByteArray)[k]'h).toNat = c := fun h => by rw [hg h]; exact HC.out
      clear hg
      rw [HC.out] at hts hta hbad
      have hnum := numB_any c hc256
      have j0 : (0 : Int) ≤ (k : Int) := by omega
      have j1 : (k : Int) < (L : Int) := by omega
      have HTS := Lib.hid hts
      have HTA := Lib.hid hta
      have HBAD := Lib.hid hbad
      clear hts hta hbad
      by_cases hd : numB c = true
      · have hdd : 48 ≤ c ∧ c ≤ 57 := by simpa [numB] using hd
        obtain ⟨hd1, hd2⟩ := hdd
        rw [hd] at hnum
        have HA : Hid ((l.take (k + 1)).all dgOk = true) := by unfold Hid; rw [HTA.out, hall.out, hd]; rfl
        clear hd
        go_wp2_with (first
          | (go_at_call 66; (with_reducible refine (hnum _).mono ?_); rintro e w1 ⟨rfl, rfl⟩)
          | fail)
        go_round
        case rel => exact ⟨k + 1, 10 * m + (c - 48), by omega, by go_num, by go_num, HTS, HA⟩
        case measure => simp [intOf]; omega
      · have hd0 : numB c = false := by simpa using hd
        rw [hd0] at hnum
        obtain rfl : B = false := by rw [HBB.out]; exact HBAD.out hd0
        obtain rfl : V = 0 := by rw [HVV.out]; simp
        clear hd hd0
        go_wp2_with (first
          | (go_at_call 66; (with_reducible refine (hnum _).mono ?_); rintro e w1 ⟨rfl, rfl⟩)
          | fail)
        go_ret2
        exact ⟨rfl, rfl⟩
    · obtain rfl : k = L := by omega
      have hRt : l.take k = l := List.take_of_length_le (by rw [HL.out]; exact Nat.le_refl _)
      have hmm := hm.out
      have haa := hall.out
      rw [hRt] at hmm haa
      obtain rfl : B = true := by rw [HBB.out]; exact haa
      have HM : Hid (V = (m : Int)) := by unfold Hid; rw [HVV.out, if_pos rfl, hmm]
      have j1 : ¬ (k : Int) < (k : Int) := by omega
      clear hmm haa hRt
      go_wp2_with fail
      go_ret2
      exact ⟨by rw [HM.out]; rfl, rfl⟩

def plB (l : List UInt8) : Bool := decide (l.length = 1) || (decide (1 < l.length) && decide ((bAt l 0).toNat ≠ 48))
set_option maxHeartbeats 4000000 in
set_option maxRecDepth 100000 in
theorem rPlain_any (l : List UInt8) (hl : l.length ≤ 9223372036854775807) (w : World) : Calls Tryd.prog 58 #[.string ⟨l.toArray⟩] w (RetQ w (plB l)) := by
  obtain ⟨B, HB⟩ : ∃ B, Hid (plB l = B) := ⟨_, rfl⟩
  rw [HB.out]
  have hsz := bsize l
  obtain ⟨L, HL⟩ : ∃ L, Hid (l.length = L) := ⟨_, rfl⟩
  have hdef : B = plB l := HB.out.symm
  unfold plB at hdef
  rw [HL.out] at hsz hl hdef
  by_cases h1 : L = 1
  · subst h1
    obtain rfl : B = true := by rw [hdef]; simp
    clear hdef
    go_enter Tryd.func58, Tryd.ntmps58
    go_wp2_with fail
    go_ret
    exact ⟨rfl, rfl⟩
  have q1 : ((L : Int) == 1) = false := by simp; omega
  by_cases h0 : L = 0
  · subst h0
    obtain rfl : B = false := by rw [hdef]; simp
    clear hdef
    go_enter Tryd.func58, Tryd.ntmps58
    go_wp2_with fail
    go_ret
    exact ⟨rfl, rfl⟩
  have q2 : (1 : Int) < (L : Int) := by omega
  have q3 : (0 : Int) < (L : Int) := by omega
  have hg := bget (l := l) (k := 0) (by rw [HL.out]; omega)
  obtain ⟨n0, HN⟩ : ∃ v, Hid ((bAt l 0).toNat = v) := ⟨_, rfl⟩
  have hg2 : ∀ h, ((⟨l.toArray⟩ : ByteArray)[0]'h).toNat = n0 := fun h => by rw [hg h]; exact HN.out
  rw [HN.out] at hdef
  clear hg
  by_cases h48 : n0 = 48
  · subst h48
    obtain rfl : B = false := by rw [hdef]; simp [h1]
    clear hdef
    go_enter Tryd.func58, Tryd.ntmps58
    go_wp2_with fail
    go_ret
    exact ⟨rfl, rfl⟩
  · obtain rfl : B = true := by rw [hdef]; simp [h48]; omega
    have u1 : ((n0 : Int) != 48) = true := by simp; omega
    have u2 : ((n0 : Int) == 48) = false := by simp; omega
    have u3 : ¬ (n0 : Int) = 48 := by omega
    clear hdef
    go_enter Tryd.func58, Tryd.ntmps58
    go_wp2_with fail
    go_ret
    exact ⟨rfl, rfl⟩

theorem nat_dig (l : List UInt8) : natB l = (digB l 1 10 && plB l) := by
  unfold natB digB plB
  by_cases h1 : l.length = 1
  · rw [h1]; simp
  · by_cases h0 : l.length = 0
    · rw [h0]; simp
    · have q : decide (0 < l.length) = true := by simp; omega
      have q1 : decide (1 ≤ l.length) = true := by simp; omega
      have q2 : decide (1 < l.length) = true := by simp; omega
      have q3 : decide (l.length = 1) = false := by simp [h1]
      rw [q, q1, q2, q3]
      simp only [Bool.true_and, Bool.or_false, Bool.false_or]
      cases decide (l.length ≤ 10) <;> cases decide ((bAt l 0).toNat ≠ 48) <;> cases l.all dgOk <;> rfl

end Go.Proofs.YtpcagheghmbjfaaDoor

