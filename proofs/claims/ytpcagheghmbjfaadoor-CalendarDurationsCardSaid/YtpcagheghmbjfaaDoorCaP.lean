/-
  Calendar: the forms of texts: digits, the form itself, the number that digits denote.
-/
import Derived.Test.YtpcagheghmbjfaaDoorTbX
import Derived.Test.YtpcagheghmbjfaaDoorCaA
set_option linter.unusedVariables false
set_option linter.unusedSimpArgs false
namespace Go.Proofs.YtpcagheghmbjfaaDoor
open Go.RowKit

set_option maxHeartbeats 2000000 in
set_option maxRecDepth 100000 in
theorem isDigit_any (n : Nat) (hn : n < 256) (w : World) : Calls Tryd.prog 65 #[.int .u8 (n : Int)] w (RetQ w (decide (48 ≤ n ∧ n ≤ 57))) := by
  obtain ⟨R, HR⟩ : ∃ R, Hid (decide (48 ≤ n ∧ n ≤ 57) = R) := ⟨_, rfl⟩
  rw [HR.out]
  by_cases h1 : 48 ≤ n
  · have q1 : (48 : Int) ≤ (n : Int) := by omega
    by_cases h2 : n ≤ 57
    · obtain rfl : R = true := by rw [← HR.out]; simp; omega
      have q2 : (n : Int) ≤ 57 := by omega
      go_enter Tryd.func65, Tryd.ntmps65
      go_wp2
      go_ret
      exact ⟨rfl, rfl⟩
    · obtain rfl : R = false := by rw [← HR.out]; simp; omega
      have q2 : decide ((n : Int) ≤ 57) = false := by simp; omega
      go_enter Tryd.func65, Tryd.ntmps65
      go_wp2
      go_ret
      exact ⟨rfl, rfl⟩
  · obtain rfl : R = false := by rw [← HR.out]; simp; omega
    have q1 : decide ((48 : Int) ≤ (n : Int)) = false := by simp; omega
    go_enter Tryd.func65, Tryd.ntmps65
    go_wp2
    go_ret
    exact ⟨rfl, rfl⟩

def fmOk (b c : UInt8) : Bool := if c.toNat = 48 then decide (48 ≤ b.toNat ∧ b.toNat ≤ 57) else decide (b.toNat = c.toNat)
def formA (l f : List UInt8) (k : Nat) : Bool := (List.range k).all fun i => fmOk (bAt l i) (bAt f i)
def formB (l f : List UInt8) : Bool := decide (l.length = f.length) && formA l f f.length
theorem formA_succ (l f : List UInt8) (k : Nat) : formA l f (k + 1) = (formA l f k && fmOk (bAt l k) (bAt f k)) := by
  unfold formA; rw [List.range_succ, List.all_append]; simp
theorem formA_bad {l f : List UInt8} {k n : Nat} (hk : k < n) (h : fmOk (bAt l k) (bAt f k) = false) : formA l f n = false := by
  unfold formA
  rw [List.all_eq_false]
  exact ⟨k, List.mem_range.2 hk, by rw [h]; exact Bool.false_ne_true⟩
set_option maxHeartbeats 4000000 in
set_option maxRecDepth 100000 in
theorem hasForm_any (l f : List UInt8) (hl : l.length ≤ 9223372036854775807) (hf : f.length ≤ 9223372036854775807) (w : World) : Calls Tryd.prog 49 #[.string ⟨l.toArray⟩, .string ⟨f.toArray⟩] w (RetB1 w (formB l f)) := by
  have hdef : formB l f = (decide (l.length = f.length) && formA l f f.length) := rfl
  obtain ⟨B, HB⟩ : ∃ v, Hid (formB l f = v) := ⟨_, rfl⟩
  rw [HB.out] at hdef ⊢
  have hsz := bsize l
  have hszf := bsize f
  obtain ⟨L, HL⟩ : ∃ v, Hid (l.length = v) := ⟨_, rfl⟩
  obtain ⟨N, HN⟩ : ∃ v, Hid (f.length = v) := ⟨_, rfl⟩
  rw [HL.out] at hsz hl hdef
  rw [HN.out] at hszf hf hdef
  by_cases hlen : L = N
  · subst hlen
    rw [decide_eq_true rfl, Bool.true_and] at hdef
    have HBB := Lib.hid hdef
    clear hdef
    obtain ⟨C, T, hC1, hC2, hcv, hcell⟩ := conv_facts f (by rw [HN.out]; exact hf) w
    rw [HN.out] at hC1 hcv hcell
    have HCELL := Lib.hid hcell
    clear hcell
    go_enter Tryd.func49, Tryd.ntmps49
    go_wp2_with fail
    go_loop [15] (fun i => ∃ k : Nat, k ≤ L ∧ i = .int .i64 k ∧ Hid (formA l f k = true)) (fun i => L - (intOf i).toNat)
    case atStart => exact ⟨0, by omega, rfl, rfl⟩
    case round =>
      obtain ⟨k, hk, rfl, hall⟩ := hrel
      by_cases hlt : k < L
      · have hc := HCELL.out k hlt
        have hg := bget (l := l) (k := k) (by rw [HL.out]; exact hlt)
        have hsu := formA_succ l f k
        have hbad := @formA_bad l f k L hlt
        rw [hall.out, Bool.true_and] at hsu
        obtain ⟨c, Hc⟩ : ∃ v, Hid (bAt f k = v) := ⟨_, rfl⟩
        obtain ⟨b, Hb⟩ : ∃ v, Hid (bAt l k = v) := ⟨_, rfl⟩
        rw [Hc.out, Hb.out] at hsu hbad
        rw [Hc.out] at hc
        rw [Hb.out] at hg
        unfold fmOk at hsu hbad
        obtain ⟨n, Hn⟩ : ∃ v, Hid (c.toNat = v) := ⟨_, rfl⟩
        obtain ⟨q, Hq⟩ : ∃ v, Hid (b.toNat = v) := ⟨_, rfl⟩
        have hq : q < 256 := by rw [← Hq.out]; exact UInt8.toNat_lt _
        rw [Hn.out, Hq.out] at hsu hbad
        rw [Hn.out] at hc
        have hg2 : ∀ h, ((⟨l.toArray⟩ : ByteArray)[k]'h).toNat = q := fun h => by rw [hg h]; exact Hq.out
        clear hg
        have hdg := isDigit_any q hq
        have j0 : (0 : Int) ≤ (k : Int) := by omega
        have j1 : (k : Int) < (L : Int) := by omega
        by_cases h48 : n = 48
        · subst h48
          rw [if_pos rfl] at hsu hbad
          by_cases hd : 48 ≤ q ∧ q ≤ 57
          · rw [decide_eq_true hd] at hdg hsu
            have HSU := Lib.hid hsu
            clear hsu hbad hd
            go_wp2_with (first
              | (go_at_call 65; (with_reducible refine (hdg _).mono ?_); rintro e w1 ⟨rfl, rfl⟩)
              | fail)
            go_round
            case rel => exact ⟨k + 1, by omega, by go_num, HSU⟩
            case measure => simp [intOf]; omega
          · rw [decide_eq_false hd] at hdg hbad
            obtain rfl : B = false := by rw [HBB.out]; exact hbad rfl
            clear hsu hbad hd
            go_wp2_with (first
              | (go_at_call 65; (with_reducible refine (hdg _).mono ?_); rintro e w1 ⟨rfl, rfl⟩)
              | fail)
            go_ret
            exact ⟨rfl, below_conv _ _⟩
        · rw [if_neg h48] at hsu hbad
          have e1 : ((n : Int) == 48) = false := by simp; omega
          have e2 : ((n : Int) != 48) = true := by rw [bne, e1]; rfl
          have e3 : ¬ (n : Int) = 48 := by omega
          by_cases hqn : q = n
          · subst hqn
            rw [decide_eq_true rfl] at hsu
            have HSU := Lib.hid hsu
            clear hsu hbad hdg
            go_wp2_with fail
            go_round
            case rel => exact ⟨k + 1, by omega, by go_num, HSU⟩
            case measure => simp [intOf]; omega
          · rw [decide_eq_false hqn] at hbad
            obtain rfl : B = false := by rw [HBB.out]; exact hbad rfl
            have e4 : ((q : Int) == (n : Int)) = false := by simp; omega
            have e5 : ((q : Int) != (n : Int)) = true := by rw [bne, e4]; rfl
            have e6 : ¬ (q : Int) = (n : Int) := by omega
            clear hsu hbad hdg
            go_wp2_with fail
            go_ret
            exact ⟨rfl, below_conv _ _⟩
      · obtain rfl : k = L := by omega
        obtain rfl : B = true := by rw [HBB.out, hall.out]
        have j1 : ¬ (k : Int) < (k : Int) := by omega
        go_wp2_with fail
        go_ret
        exact ⟨rfl, below_conv _ _⟩
  · obtain rfl : B = false := by rw [hdef]; simp [hlen]
    have e4 : ((L : Int) == (N : Int)) = false := by simp; omega
    have e5 : ((L : Int) != (N : Int)) = true := by rw [bne, e4]; rfl
    have e6 : ¬ (L : Int) = (N : Int) := by omega
    clear hdef
    go_enter Tryd.func49, Tryd.ntmps49
    go_wp2_with fail
    go_ret
    exact ⟨rfl, Below.refl _ _⟩

set_option maxHeartbeats 4000000 in
set_option maxRecDepth 100000 in
theorem numberOf_any (l : List UInt8) (hall : l.all dgOk = true) (hl : l.length ≤ 17) (w : World) : Calls Tryd.prog 50 #[.string ⟨l.toArray⟩] w (fun e w' => e = .returned (.int .i64 (decN l : Int)) ∧ ∃ T, w' = (w.alloc T).drew) := by
  have hsz := bsize l
  have hdat := fun k (hk : k < l.length) => dg_at hall hk
  have hlt := fun k (hk : k ≤ l.length) => decN_lt_take hall k hk
  obtain ⟨C, T, hC1, hC2, hcv, hcell⟩ := conv_facts l (by omega) w
  obtain ⟨L, HL⟩ : ∃ v, Hid (l.length = v) := ⟨_, rfl⟩
  obtain ⟨V, HV⟩ : ∃ v, Hid (decN l = v) := ⟨_, rfl⟩
  rw [HV.out]
  rw [HL.out] at hsz hl hC1 hcv hcell hdat hlt
  have HCELL := Lib.hid hcell
  have HDAT := Lib.hid hdat
  have HLT := Lib.hid hlt
  clear hcell hdat hlt
  go_enter Tryd.func50, Tryd.ntmps50
  go_wp2_with fail
  go_loop [9, 3] (fun i v => ∃ k m : Nat, k ≤ L ∧ i = .int .i64 k ∧ v = .int .i64 m ∧ Hid (decN (l.take k) = m)) (fun i _ => L - (intOf i).toNat)
  case atStart => exact ⟨0, 0, by omega, rfl, rfl, rfl⟩
  case round =>
    obtain ⟨k, m, hk, rfl, rfl, hm⟩ := hrel
    by_cases hlt : k < L
    · have hc := HCELL.out k hlt
      obtain ⟨q1, q2⟩ := HDAT.out k hlt
      have hts := decN_take (l := l) (k := k) (by rw [HL.out]; exact hlt)
      have hml := HLT.out k hk
      rw [hm.out] at hts hml
      have hms : m < 100000000000000000 := by
        have := pow_le10 (k := k) (n := 17) (by omega)
        omega
      obtain ⟨c, HC⟩ : ∃ v, Hid ((bAt l k).toNat = v) := ⟨_, rfl⟩
      rw [HC.out] at hts hc q1 q2
      have HTS : Hid (decN (l.take (k + 1)) = 10 * m + (c - 48)) := hts
      have j0 : (0 : Int) ≤ (k : Int) := by omega
      have j1 : (k : Int) < (L : Int) := by omega
      have i1 : (48 : Int) ≤ (c : Int) := by omega
      have i2 : (c : Int) ≤ 57 := by omega
      clear hts hml
      go_wp2_with fail
      go_round
      case rel => exact ⟨k + 1, 10 * m + (c - 48), by omega, by go_num, by go_num, HTS⟩
      case measure => simp [intOf]; omega
    · obtain rfl : k = L := by omega
      have HF : Hid (m = V) := by
        unfold Hid; rw [← hm.out, ← HV.out, List.take_of_length_le (by rw [HL.out]; exact Nat.le_refl _)]
      have j1 : ¬ (k : Int) < (k : Int) := by omega
      go_wp2_with fail
      go_ret
      exact ⟨by rw [HF.out]; rfl, _, rfl⟩
set_option maxHeartbeats 4000000 in
set_option maxRecDepth 100000 in
theorem areDigits_any (l : List UInt8) (hl : l.length ≤ 9223372036854775807) (w : World) : Calls Tryd.prog 69 #[.string ⟨l.toArray⟩] w (RetB1 w (l.all dgOk)) := by
  have hsz := bsize l
  obtain ⟨B, HB⟩ : ∃ v, Hid (l.all dgOk = v) := ⟨_, rfl⟩
  rw [HB.out]
  obtain ⟨C, T, hC1, hC2, hcv, hcell⟩ := conv_facts l hl w
  obtain ⟨L, HL⟩ : ∃ v, Hid (l.length = v) := ⟨_, rfl⟩
  rw [HL.out] at hsz hl hC1 hcv hcell
  have HCELL := Lib.hid hcell
  clear hcell
  go_enter Tryd.func69, Tryd.ntmps69
  go_wp2_with fail
  go_loop [8] (fun i => ∃ k : Nat, k ≤ L ∧ i = .int .i64 k ∧ Hid ((l.take k).all dgOk = true)) (fun i => L - (intOf i).toNat)
  case atStart => exact ⟨0, by omega, rfl, by unfold Hid; simp⟩
  case round =>
    obtain ⟨k, hk, rfl, hall⟩ := hrel
    by_cases hlt : k < L
    · have hc := HCELL.out k hlt
      have hta := all_take dgOk (l := l) (k := k) (by rw [HL.out]; exact hlt)
      have hbad := all_bad dgOk (l := l) (k := k) (by rw [HL.out]; exact hlt)
      obtain ⟨b, Hb⟩ : ∃ v, Hid (bAt l k = v) := ⟨_, rfl⟩
      rw [Hb.out] at hta hbad hc
      rw [show dgOk b = decide (48 ≤ b.toNat ∧ b.toNat ≤ 57) from rfl] at hta hbad
      obtain ⟨n, Hn⟩ : ∃ v, Hid (b.toNat = v) := ⟨_, rfl⟩
      have hn : n < 256 := by rw [← Hn.out]; exact UInt8.toNat_lt _
      rw [Hn.out] at hta hbad hc
      have hdg := isDigit_any n hn
      have j0 : (0 : Int) ≤ (k : Int) := by omega
      have j1 : (k : Int) < (L : Int) := by omega
      by_cases hd : 48 ≤ n ∧ n ≤ 57
      · rw [decide_eq_true hd] at hdg hta
        have HA : Hid ((l.take (k + 1)).all dgOk = true) := by unfold Hid; rw [hta, hall.out]; rfl
        clear hta hbad hd
        go_wp2_with (first
          | (go_at_call 65; (with_reducible refine (hdg _).mono ?_); rintro e w1 ⟨rfl, rfl⟩)
          | fail)
        go_round
        case rel => exact ⟨k + 1, by omega, by go_num, HA⟩
        case measure => simp [intOf]; omega
      · rw [decide_eq_false hd] at hdg hbad
        obtain rfl : B = false := by rw [← HB.out]; exact hbad rfl
        clear hta hbad hd
        go_wp2_with (first
          | (go_at_call 65; (with_reducible refine (hdg _).mono ?_); rintro e w1 ⟨rfl, rfl⟩)
          | fail)
        go_ret
        exact ⟨rfl, below_conv _ _⟩
    · obtain rfl : k = L := by omega
      obtain rfl : B = true := by
        rw [← HB.out, ← hall.out, List.take_of_length_le (by rw [HL.out]; exact Nat.le_refl _)]
      have j1 : ¬ (k : Int) < (k : Int) := by omega
      go_wp2_with fail
      go_ret
      exact ⟨rfl, below_conv _ _⟩
end Go.Proofs.YtpcagheghmbjfaaDoor

