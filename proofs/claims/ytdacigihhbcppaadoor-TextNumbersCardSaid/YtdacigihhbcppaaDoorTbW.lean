/-
  ParseInt on both sides, at every string.
-/
import Derived.Test.YtdacigihhbcppaaDoorTbV
set_option linter.unusedVariables false
set_option linter.unusedSimpArgs false
namespace Go.Proofs.YtdacigihhbcppaaDoor
open Go.RowKit

theorem decN_lt_take {l : List UInt8} (h : l.all dgOk = true) : ∀ k, k ≤ l.length → decN (l.take k) < 10 ^ k
  | 0, _ => by simp [decN]
  | k + 1, hk => by
    have ih := decN_lt_take h k (by omega)
    have hd := dg_at h (k := k) (by omega)
    have e := decN_take (l := l) (k := k) (by omega)
    rw [e, Nat.pow_succ]
    omega
theorem decN_lt {l : List UInt8} (h : l.all dgOk = true) : decN l < 10 ^ l.length := by
  have := decN_lt_take h l.length (Nat.le_refl _)
  rwa [List.take_length] at this
theorem pow_le10 {k n : Nat} (h : k ≤ n) : 10 ^ k ≤ 10 ^ n := Nat.pow_le_pow_right (by omega) h
theorem fold_pos : ∀ (m : List UInt8) (v : Nat), 0 < v → 0 < m.foldl (fun v b => 10 * v + (b.toNat - 48)) v
  | [], v, h => h
  | b :: m, v, h => by rw [List.foldl_cons]; exact fold_pos m (10 * v + (b.toNat - 48)) (by omega)
theorem natB_and {l : List UInt8} (h : natB l = true) : 0 < l.length ∧ l.length ≤ 10 ∧ ((bAt l 0).toNat ≠ 48 ∨ l.length = 1) ∧ l.all dgOk = true := by
  unfold natB at h
  simpa [and_assoc] using h
theorem decN_zero {l : List UInt8} (h : natB l = true) : decN l = 0 ↔ l = [48] := by
  obtain ⟨h1, h2, h3, h4⟩ := natB_and h
  constructor
  · intro h0
    have hd := dg_at h4 (k := 0) h1
    by_cases h5 : (bAt l 0).toNat = 48
    · rcases h3 with h3 | h3
      · exact absurd h5 h3
      · rw [one_b h3]
        congr 1
        exact u8_ex (by rw [h5]; rfl)
    · exfalso
      rw [first_b h1] at h0
      unfold decN at h0
      rw [List.foldl_cons] at h0
      have := fold_pos (l.drop 1) (10 * 0 + ((bAt l 0).toNat - 48)) (by omega)
      omega
  · intro h0; rw [h0]; rfl
theorem parts {l : List UInt8} : (parB l = true ∧ natB (cutB l).1 = true ∧ ((cutB l).2 = false ∨ (cutB l).1 ≠ [48])) ∨ (parB l = false ∧ (natB (cutB l).1 = false ∨ ((cutB l).2 = true ∧ (cutB l).1 = [48]))) := by
  unfold parB
  cases h1 : natB (cutB l).1 with
  | false => right; simp
  | true =>
    cases h2 : (cutB l).2 with
    | false => left; simp
    | true =>
      by_cases h3 : (cutB l).1 = [48]
      · right; rw [h3]; simp
      · left; simp [h3]

set_option maxHeartbeats 4000000 in
set_option maxRecDepth 100000 in
theorem pParse_any (l : List UInt8) (hl : l.length ≤ 9223372036854775807) (w : World) : Calls Tryd.prog 22 #[.string ⟨l.toArray⟩] w (RetP w l) := by
  have hcut := cutP_any l hl w
  have hR : (cutB l).1.length ≤ 9223372036854775807 := Nat.le_trans (cutB_len l) hl
  have hcs := @parts l
  have hV : parV l = if parB l = true then (if (cutB l).2 = true then -(decN (cutB l).1 : Int) else (decN (cutB l).1 : Int)) else 0 := rfl
  have hE : parE l = if parB l = true then 0 else 1 := rfl
  unfold RetC2 at hcut
  unfold RetP
  obtain ⟨V, HV⟩ : ∃ v, Hid (parV l = v) := ⟨_, rfl⟩
  obtain ⟨F, HF⟩ : ∃ v, Hid (parE l = v) := ⟨_, rfl⟩
  rw [HV.out, HF.out]
  rw [HV.out] at hV
  rw [HF.out] at hE
  obtain ⟨R, HR⟩ : ∃ v, Hid ((cutB l).1 = v) := ⟨_, rfl⟩
  obtain ⟨B, HB⟩ : ∃ v, Hid ((cutB l).2 = v) := ⟨_, rfl⟩
  rw [HR.out] at hcut hR hcs hV
  rw [HB.out] at hcut hcs hV
  obtain ⟨Q, HQ⟩ : ∃ v, Hid (parB l = v) := ⟨_, rfl⟩
  rw [HQ.out] at hcs hV hE
  have hnat := isNatural_any R hR
  have hall := fun h : natB R = true => natB_and h
  obtain ⟨N, HN⟩ : ∃ v, Hid (natB R = v) := ⟨_, rfl⟩
  rw [HN.out] at hcs hnat hall
  by_cases hbad : Q = true
  rotate_left
  · obtain rfl : Q = false := by simpa using hbad
    obtain rfl : V = 0 := by rw [hV]; simp
    obtain rfl : F = 1 := by rw [hE]; simp
    clear hall hV hE hbad
    cases N with
    | false =>
      clear hcs
      go_enter Tryd.func22, Tryd.ntmps22
      go_wp2_with (first
        | (go_at_call 35; (with_reducible refine hcut.mono ?_); rintro e w1 ⟨rfl, g1⟩)
        | (go_at_call 36; (with_reducible refine (hnat _).mono ?_); rintro e w2 ⟨rfl, g2⟩)
        | fail)
      go_ret2
      exact ⟨rfl, g1.trans (g2.mono g1.size)⟩
    | true =>
      obtain ⟨rfl, h48⟩ : B = true ∧ R = [48] := by simpa using hcs
      clear hcs
      have e2 : (R == [48]) = true := by rw [h48]; rfl
      clear h48
      go_enter Tryd.func22, Tryd.ntmps22
      go_wp2_with (first
        | (go_at_call 35; (with_reducible refine hcut.mono ?_); rintro e w1 ⟨rfl, g1⟩)
        | (go_at_call 36; (with_reducible refine (hnat _).mono ?_); rintro e w2 ⟨rfl, g2⟩)
        | fail)
      go_ret2
      exact ⟨rfl, g1.trans (g2.mono g1.size)⟩
  subst hbad
  obtain ⟨hN1, hcs2⟩ : N = true ∧ (B = false ∨ R ≠ [48]) := by simpa using hcs
  clear hcs
  have hcs := hcs2
  clear hcs2
  subst hN1
  obtain ⟨hp, h10, _, hal⟩ := hall rfl
  clear hall
  rw [if_pos rfl] at hE hV
  subst hE
  obtain ⟨L, HL⟩ : ∃ v, Hid (R.length = v) := ⟨_, rfl⟩
  have hsz := bsize R
  have HAL := Lib.hid hal
  clear hal
  have HVV := Lib.hid hV
  clear hV
  have HCS := Lib.hid hcs
  clear hcs
  rw [HL.out] at hp h10 hsz
  have hcv0 := fun W : World => conv_facts R hR W
  rw [HL.out] at hcv0
  have HCV := Lib.hid hcv0
  clear hcv0
  have LOOP : ∀ b : Bool, B = b → (b = true → ((R == [48]) = false)) → Calls Tryd.prog 22 #[.string ⟨l.toArray⟩] w (fun e w' => e = .returned (.tuple #[.int .i64 V, .int .i64 0]) ∧ Below w.heap.size w w') := by
    intro b hb e2
    subst hb
    cases B with
    | false =>
      clear e2
      obtain rfl : V = (decN R : Int) := by rw [HVV.out]; simp
      go_enter Tryd.func22, Tryd.ntmps22
      go_wp2_with (first
        | (go_at_call 35; (with_reducible refine hcut.mono ?_); rintro e w1 ⟨rfl, g1⟩)
        | (go_at_call 36; (with_reducible refine (hnat _).mono ?_); rintro e w2 ⟨rfl, g2⟩; obtain ⟨C, T, hC1, hC2, hcv, hcell⟩ := HCV.out w2; have HCELL := Lib.hid hcell; clear hcell)
        | fail)
      go_loop [27, 6] (fun i v => ∃ k m : Nat, k ≤ L ∧ i = .int .i64 k ∧ v = .int .i64 m ∧ Hid (decN (R.take k) = m)) (fun i _ => L - (intOf i).toNat)
      case atStart => exact ⟨0, 0, by omega, rfl, rfl, rfl⟩
      case round =>
        obtain ⟨k, m, hk, rfl, rfl, hm⟩ := hrel
        by_cases hlt : k < L
        · have hc := HCELL.out k hlt
          have hts := decN_take (l := R) (k := k) (by rw [HL.out]; exact hlt)
          have hd := dg_at HAL.out (k := k) (by rw [HL.out]; exact hlt)
          have hlt2 := decN_lt_take HAL.out k (by rw [HL.out]; omega)
          rw [hm.out] at hts hlt2
          have hms : m ≤ 999999999 := by
            have := pow_le10 (k := k) (n := 9) (by omega)
            omega
          clear hlt2
          obtain ⟨c, HC⟩ : ∃ v, Hid ((bAt R k).toNat = v) := ⟨_, rfl⟩
          rw [HC.out] at hts hd hc
          obtain ⟨hd1, hd2⟩ := hd
          have HTS := Lib.hid hts
          clear hts
          have j0 : (0 : Int) ≤ (k : Int) := by omega
          have j1 : (k : Int) < (L : Int) := by omega
          go_wp2_with fail
          go_round
          case rel => exact ⟨k + 1, 10 * m + (c - 48), by omega, by go_num, by go_num, HTS⟩
          case measure => simp [intOf]; omega
        · obtain rfl : k = L := by omega
          have hRt : R.take k = R := List.take_of_length_le (by rw [HL.out]; exact Nat.le_refl _)
          have hmm := hm.out
          rw [hRt] at hmm
          have HM := Lib.hid hmm
          have j1 : ¬ (k : Int) < (k : Int) := by omega
          clear hmm hRt
          go_wp2_with fail
          go_ret2
          have b2 := g1.trans (g2.mono g1.size)
          exact ⟨by rw [HM.out]; rfl, b2.trans ((below_conv _ _).mono b2.size)⟩
    | true =>
      have e2 := e2 rfl
      obtain rfl : V = -(decN R : Int) := by rw [HVV.out]; simp
      go_enter Tryd.func22, Tryd.ntmps22
      go_wp2_with (first
        | (go_at_call 35; (with_reducible refine hcut.mono ?_); rintro e w1 ⟨rfl, g1⟩)
        | (go_at_call 36; (with_reducible refine (hnat _).mono ?_); rintro e w2 ⟨rfl, g2⟩; obtain ⟨C, T, hC1, hC2, hcv, hcell⟩ := HCV.out w2; have HCELL := Lib.hid hcell; clear hcell)
        | fail)
      go_loop [27, 6] (fun i v => ∃ k m : Nat, k ≤ L ∧ i = .int .i64 k ∧ v = .int .i64 m ∧ Hid (decN (R.take k) = m)) (fun i _ => L - (intOf i).toNat)
      case atStart => exact ⟨0, 0, by omega, rfl, rfl, rfl⟩
      case round =>
        obtain ⟨k, m, hk, rfl, rfl, hm⟩ := hrel
        by_cases hlt : k < L
        · have hc := HCELL.out k hlt
          have hts := decN_take (l := R) (k := k) (by rw [HL.out]; exact hlt)
          have hd := dg_at HAL.out (k := k) (by rw [HL.out]; exact hlt)
          have hlt2 := decN_lt_take HAL.out k (by rw [HL.out]; omega)
          rw [hm.out] at hts hlt2
          have hms : m ≤ 999999999 := by
            have := pow_le10 (k := k) (n := 9) (by omega)
            omega
          clear hlt2
          obtain ⟨c, HC⟩ : ∃ v, Hid ((bAt R k).toNat = v) := ⟨_, rfl⟩
          rw [HC.out] at hts hd hc
          obtain ⟨hd1, hd2⟩ := hd
          have HTS := Lib.hid hts
          clear hts
          have j0 : (0 : Int) ≤ (k : Int) := by omega
          have j1 : (k : Int) < (L : Int) := by omega
          go_wp2_with fail
          go_round
          case rel => exact ⟨k + 1, 10 * m + (c - 48), by omega, by go_num, by go_num, HTS⟩
          case measure => simp [intOf]; omega
        · obtain rfl : k = L := by omega
          have hRt : R.take k = R := List.take_of_length_le (by rw [HL.out]; exact Nat.le_refl _)
          have hmm := hm.out
          have hlt2 := decN_lt_take HAL.out k (by rw [HL.out]; omega)
          rw [hRt] at hmm hlt2
          rw [hmm] at hlt2
          have HM := Lib.hid hmm
          have hms : m ≤ 9999999999 := by
            have := pow_le10 (k := k) (n := 10) (by omega)
            omega
          have j1 : ¬ (k : Int) < (k : Int) := by omega
          clear hmm hRt hlt2
          go_wp2_with fail
          go_ret2
          have b2 := g1.trans (g2.mono g1.size)
          exact ⟨by rw [HM.out]; rfl, b2.trans ((below_conv _ _).mono b2.size)⟩
  refine LOOP B rfl fun h => ?_
  rcases HCS.out with h2 | h2
  · rw [h2] at h; exact Bool.noConfusion h
  · rw [beq_eq_false_iff_ne]; exact h2
end Go.Proofs.YtdacigihhbcppaaDoor

