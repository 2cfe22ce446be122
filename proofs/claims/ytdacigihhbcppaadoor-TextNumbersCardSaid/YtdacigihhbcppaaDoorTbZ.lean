/-
  The law TextNumbers walked: ParseInt and FormatInt agree with the reference's; ParseInt reads back what FormatInt writes.
-/
import Derived.Test.YtdacigihhbcppaaDoorTbY
set_option linter.unusedVariables false
set_option linter.unusedSimpArgs false
namespace Go.Proofs.YtdacigihhbcppaaDoor
open Go.RowKit

theorem dgn {d : Nat} (h : d < 10) : (UInt8.ofNat (48 + d)).toNat = 48 + d := by
  simp [UInt8.toNat_ofNat]; omega
theorem dec_small {u : Nat} (h : u < 10) : Lib.decDigits u = [UInt8.ofNat (48 + u)] := by rw [Lib.decDigits, dif_pos h]
theorem dec_big {u : Nat} (h : ¬ u < 10) : Lib.decDigits u = Lib.decDigits (u / 10) ++ [UInt8.ofNat (48 + u % 10)] := by rw [Lib.decDigits, dif_neg h]
theorem dec_ok : ∀ u : Nat, 0 < (Lib.decDigits u).length ∧ (Lib.decDigits u).all dgOk = true ∧ decN (Lib.decDigits u) = u ∧ (0 < u → (bAt (Lib.decDigits u) 0).toNat ≠ 48) := by
  intro u
  induction u using Nat.strongRecOn with
  | ind u ih =>
    by_cases h : u < 10
    · rw [dec_small h]
      have h1 := dgn h
      refine ⟨by simp, ?_, ?_, ?_⟩
      · simp only [List.all_cons, List.all_nil, Bool.and_true, dgOk, h1]; simp; omega
      · show 10 * 0 + ((UInt8.ofNat (48 + u)).toNat - 48) = u
        rw [h1]; omega
      · intro h2
        show (UInt8.ofNat (48 + u)).toNat ≠ 48
        rw [h1]; omega
    · rw [dec_big h]
      obtain ⟨i1, i2, i3, i4⟩ := ih (u / 10) (by omega)
      have h1 := dgn (show u % 10 < 10 by omega)
      refine ⟨by simp, ?_, ?_, ?_⟩
      · rw [List.all_append, i2]
        simp only [List.all_cons, List.all_nil, Bool.and_true, dgOk, h1]; simp; omega
      · rw [decN_snoc, i3, h1]; omega
      · intro _
        have h2 : bAt (Lib.decDigits (u / 10) ++ [UInt8.ofNat (48 + u % 10)]) 0 = bAt (Lib.decDigits (u / 10)) 0 := by
          unfold bAt
          simp [List.getD, List.getElem?_append, i1]
        rw [h2]
        exact i4 (by omega)
theorem pow_le_dig : ∀ (k u : Nat), 0 < u → k < Lib.nDigits u → 10 ^ k ≤ u
  | 0, u, h0, _ => by simp; omega
  | k + 1, u, h0, hk => by
    by_cases h : u < 10
    · rw [Lib.nDigits_small h] at hk; omega
    · rw [Lib.nDigits_big h] at hk
      have := pow_le_dig k (u / 10) (by omega) (by omega)
      rw [Nat.pow_succ]; omega
theorem dec_len {u : Nat} : (Lib.decDigits u).length ≤ 10 ↔ u ≤ 9999999999 := by
  rw [Lib.decDigits_length]
  constructor
  · intro h
    have h1 := Lib.lt_pow_nDigits u
    have h2 := pow_le10 h
    omega
  · intro h
    rcases Nat.lt_or_ge 10 (Lib.nDigits u) with h1 | h1
    · exfalso
      rcases Nat.eq_zero_or_pos u with h0 | h0
      · rw [h0, Lib.nDigits_small (by omega)] at h1; omega
      · have := pow_le_dig 10 u h0 h1
        omega
    · exact h1
theorem dec_nat (u : Nat) : natB (Lib.decDigits u) = decide (u ≤ 9999999999) := by
  obtain ⟨i1, i2, i3, i4⟩ := dec_ok u
  have hl := @dec_len u
  unfold natB
  rw [i2]
  have h3 : (decide ((bAt (Lib.decDigits u) 0).toNat ≠ 48) || decide ((Lib.decDigits u).length = 1)) = true := by
    rcases Nat.eq_zero_or_pos u with h | h
    · rw [h, dec_small (by omega)]; rfl
    · have := i4 h
      simp [this]
  rw [h3, show decide (0 < (Lib.decDigits u).length) = true by simp only [decide_eq_true_eq]; exact i1]
  simp only [Bool.true_and, Bool.and_true]
  by_cases h : u ≤ 9999999999
  · rw [decide_eq_true h, decide_eq_true (hl.2 h)]
  · rw [decide_eq_false h, decide_eq_false (fun h2 => h (hl.1 h2))]
theorem cut_neg (l : List UInt8) : cutB (45 :: l) = (l, true) := by
  unfold cutB
  rw [if_pos ⟨by simp, rfl⟩]; rfl
theorem cut_pos (u : Nat) : cutB (Lib.decDigits u) = (Lib.decDigits u, false) := by
  obtain ⟨i1, i2, i3, i4⟩ := dec_ok u
  have := dg_at i2 i1
  unfold cutB
  rw [if_neg (by omega)]
theorem itoa_par (n : Int) : (-9999999999 ≤ n ∧ n ≤ 9999999999 → parE (Lib.itoa n) = 0 ∧ parV (Lib.itoa n) = n) ∧ (¬ (-9999999999 ≤ n ∧ n ≤ 9999999999) → parE (Lib.itoa n) = 1 ∧ parV (Lib.itoa n) = 0) := by
  have hB : parB (Lib.itoa n) = decide (-9999999999 ≤ n ∧ n ≤ 9999999999) := by
    unfold parB Lib.itoa
    by_cases h : n < 0
    · rw [if_pos h, cut_neg]
      show (natB (Lib.decDigits n.natAbs) && !(true && decide (Lib.decDigits n.natAbs = [48]))) = _
      have h48 : decide (Lib.decDigits n.natAbs = [48]) = false := by
        rw [decide_eq_false_iff_not]
        intro h2
        have h3 := (dec_ok n.natAbs).2.2.1
        rw [h2] at h3
        have : decN [48] = 0 := rfl
        omega
      rw [h48, dec_nat]
      simp only [Bool.and_false, Bool.not_false, Bool.and_true, decide_eq_decide]
      omega
    · rw [if_neg h, cut_pos]
      show (natB (Lib.decDigits n.toNat) && !(false && decide (Lib.decDigits n.toNat = [48]))) = _
      rw [dec_nat]
      simp only [Bool.false_and, Bool.not_false, Bool.and_true, decide_eq_decide]
      omega
  constructor
  · intro h
    have hT : parB (Lib.itoa n) = true := by rw [hB]; exact decide_eq_true h
    refine ⟨by unfold parE; rw [if_pos hT], ?_⟩
    unfold parV
    rw [if_pos hT]
    unfold Lib.itoa
    by_cases h0 : n < 0
    · rw [if_pos h0, cut_neg]
      show (if true = true then -(decN (Lib.decDigits n.natAbs) : Int) else _) = n
      rw [if_pos rfl, (dec_ok _).2.2.1]; omega
    · rw [if_neg h0, cut_pos]
      show (if false = true then _ else (decN (Lib.decDigits n.toNat) : Int)) = n
      rw [if_neg (by simp), (dec_ok _).2.2.1]; omega
  · intro h
    have hF : parB (Lib.itoa n) = false := by rw [hB]; exact decide_eq_false h
    exact ⟨by unfold parE; rw [hF]; rfl, by unfold parV; rw [hF]; rfl⟩

set_option maxHeartbeats 4000000 in
set_option maxRecDepth 100000 in
theorem textNumbers_any (l : List UInt8) (hl : l.length ≤ 9223372036854775807) (n : Int) (h0 : -9223372036854775808 ≤ n) (h1 : n ≤ 9223372036854775807) (w : World)
    (htab : Lib.TabIs Tryd.prog w "internal/strconv.uint64pow10" .u64 Lib.pow10Tab) : Calls Tryd.prog 9 #[.string ⟨l.toArray⟩, .int .i64 n] w (RetB1 w true) := by
  have HTB := Lib.hid (Lib.tabBelow_of_tabIs htab)
  clear htab
  have p1 := pParse_any l hl
  have r1 := rParse_any l hl
  have hlen := Lib.itoa_length_le n h0 h1
  have p2 := pParse_any (Lib.itoa n) (by omega)
  have pf := Lib.hid (pFormat_any n h0 h1)
  have rf := Lib.hid (rFormat_any n h0 h1)
  obtain ⟨hin, hout⟩ := itoa_par n
  unfold RetP at p1 r1 p2
  obtain ⟨V, HV⟩ : ∃ v, Hid (parV l = v) := ⟨_, rfl⟩
  obtain ⟨F, HF⟩ : ∃ v, Hid (parE l = v) := ⟨_, rfl⟩
  rw [HV.out, HF.out] at p1 r1
  obtain ⟨T, HT⟩ : ∃ v, Hid (Lib.itoa n = v) := ⟨_, rfl⟩
  rw [HT.out] at p2 hin hout
  clear hlen
  have hpf : ∀ W, Below w.heap.size w W → Calls Tryd.prog 24 #[.int .i64 n] W fun e w' => e = .returned (.string ⟨T.toArray⟩) ∧ Below W.heap.size W w' := by
    intro W hb
    have := pf.out W (HTB.out W hb)
    rwa [HT.out] at this
  have hrf : ∀ W, Below w.heap.size w W → Calls Tryd.prog 25 #[.int .i64 n] W fun e w' => e = .returned (.string ⟨T.toArray⟩) ∧ Below W.heap.size W w' := by
    intro W hb
    have := rf.out W (HTB.out W hb)
    rwa [HT.out] at this
  have HPF := Lib.hid hpf
  have HRF := Lib.hid hrf
  clear hpf hrf pf rf
  by_cases hn : -9999999999 ≤ n ∧ n ≤ 9999999999
  · obtain ⟨e1, e2⟩ := hin hn
    rw [e1, e2] at p2
    obtain ⟨n1, n2⟩ := hn
    have q1 : ¬ n < -9999999999 := by omega
    have q2 : ¬ 9999999999 < n := by omega
    clear hin hout e1 e2
    go_enter Tryd.func9, Tryd.ntmps9
    go_wp2_with (first
      | (go_at_call_of 22 (Value.string ⟨l.toArray⟩); (with_reducible refine (p1 _).mono ?_); rintro e w1 ⟨rfl, g1⟩)
      | (go_at_call 23; (with_reducible refine (r1 _).mono ?_); rintro e w2 ⟨rfl, g2⟩; have b2 := g1.trans (g2.mono g1.size))
      | (go_at_call 24; (with_reducible refine (HPF.out _ b2).mono ?_); rintro e w3 ⟨rfl, g3⟩; have b3 := b2.trans (g3.mono b2.size))
      | (go_at_call_of 22 (Value.string ⟨T.toArray⟩); (with_reducible refine (p2 _).mono ?_); rintro e w4 ⟨rfl, g4⟩; have b4 := b3.trans (g4.mono b3.size))
      | (go_at_call 25; (with_reducible refine (HRF.out _ b4).mono ?_); rintro e w5 ⟨rfl, g5⟩; have b5 := b4.trans (g5.mono b4.size))
      | (go_at_call 10; (with_reducible refine (awake_any _).mono ?_); rintro e w6 ⟨rfl, g6⟩)
      | fail)
    go_ret
    exact ⟨rfl, b5.trans (g6.mono b5.size)⟩
  · obtain ⟨e1, e2⟩ := hout hn
    rw [e1, e2] at p2
    clear hin hout e1 e2
    by_cases q1 : n < -9999999999
    · clear hn
      go_enter Tryd.func9, Tryd.ntmps9
      go_wp2_with (first
        | (go_at_call_of 22 (Value.string ⟨l.toArray⟩); (with_reducible refine (p1 _).mono ?_); rintro e w1 ⟨rfl, g1⟩)
        | (go_at_call 23; (with_reducible refine (r1 _).mono ?_); rintro e w2 ⟨rfl, g2⟩; have b2 := g1.trans (g2.mono g1.size))
        | (go_at_call 24; (with_reducible refine (HPF.out _ b2).mono ?_); rintro e w3 ⟨rfl, g3⟩; have b3 := b2.trans (g3.mono b2.size))
        | (go_at_call_of 22 (Value.string ⟨T.toArray⟩); (with_reducible refine (p2 _).mono ?_); rintro e w4 ⟨rfl, g4⟩; have b4 := b3.trans (g4.mono b3.size))
        | (go_at_call 25; (with_reducible refine (HRF.out _ b4).mono ?_); rintro e w5 ⟨rfl, g5⟩; have b5 := b4.trans (g5.mono b4.size))
        | (go_at_call 10; (with_reducible refine (awake_any _).mono ?_); rintro e w6 ⟨rfl, g6⟩)
        | fail)
      go_ret
      exact ⟨rfl, b5.trans (g6.mono b5.size)⟩
    · have q2 : 9999999999 < n := by omega
      have q3 : decide (n < -9999999999) = false := by simp; omega
      clear hn
      go_enter Tryd.func9, Tryd.ntmps9
      go_wp2_with (first
        | (go_at_call_of 22 (Value.string ⟨l.toArray⟩); (with_reducible refine (p1 _).mono ?_); rintro e w1 ⟨rfl, g1⟩)
        | (go_at_call 23; (with_reducible refine (r1 _).mono ?_); rintro e w2 ⟨rfl, g2⟩; have b2 := g1.trans (g2.mono g1.size))
        | (go_at_call 24; (with_reducible refine (HPF.out _ b2).mono ?_); rintro e w3 ⟨rfl, g3⟩; have b3 := b2.trans (g3.mono b2.size))
        | (go_at_call_of 22 (Value.string ⟨T.toArray⟩); (with_reducible refine (p2 _).mono ?_); rintro e w4 ⟨rfl, g4⟩; have b4 := b3.trans (g4.mono b3.size))
        | (go_at_call 25; (with_reducible refine (HRF.out _ b4).mono ?_); rintro e w5 ⟨rfl, g5⟩; have b5 := b4.trans (g5.mono b4.size))
        | (go_at_call 10; (with_reducible refine (awake_any _).mono ?_); rintro e w6 ⟨rfl, g6⟩)
        | fail)
      go_ret
      exact ⟨rfl, b5.trans (g6.mono b5.size)⟩
end Go.Proofs.YtdacigihhbcppaaDoor

