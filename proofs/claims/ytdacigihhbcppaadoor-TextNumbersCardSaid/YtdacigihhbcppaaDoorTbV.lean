/-
  The program's ParseInt: the sign is cut off, what is a natural number in decimal notation, its value.
-/
import Derived.Test.YtdacigihhbcppaaDoorTbQ
set_option linter.unusedVariables false
set_option linter.unusedSimpArgs false
namespace Go.Proofs.YtdacigihhbcppaaDoor
open Go.RowKit

theorem one_b {l : List UInt8} (h : l.length = 1) : l = [bAt l 0] := by
  match l, h with
  | [b], _ => rfl
theorem first_b {l : List UInt8} (h : 0 < l.length) : l = bAt l 0 :: l.drop 1 := by
  match l, h with
  | b :: m, _ => rfl
theorem u8_ex {a b : UInt8} (h : a.toNat = b.toNat) : a = b := UInt8.toNat_inj.1 h
def cutB (l : List UInt8) : List UInt8 × Bool := if 0 < l.length ∧ (bAt l 0).toNat = 45 then (l.drop 1, true) else (l, false)
theorem cutB_true {l : List UInt8} (h : (cutB l).2 = true) : 0 < l.length ∧ (bAt l 0).toNat = 45 ∧ (cutB l).1 = l.drop 1 := by
  unfold cutB at *
  by_cases hb : 0 < l.length ∧ (bAt l 0).toNat = 45
  · rw [if_pos hb]; exact ⟨hb.1, hb.2, rfl⟩
  · rw [if_neg hb] at h; exact Bool.noConfusion h
theorem cutB_false {l : List UInt8} (h : (cutB l).2 = false) : (cutB l).1 = l := by
  unfold cutB at *
  by_cases hb : 0 < l.length ∧ (bAt l 0).toNat = 45
  · rw [if_pos hb] at h; exact Bool.noConfusion h
  · rw [if_neg hb]
theorem cutB_len (l : List UInt8) : (cutB l).1.length ≤ l.length := by
  unfold cutB
  by_cases hb : 0 < l.length ∧ (bAt l 0).toNat = 45
  · rw [if_pos hb]; simp
  · rw [if_neg hb]; exact Nat.le_refl _
def dgOk (b : UInt8) : Bool := decide (48 ≤ b.toNat ∧ b.toNat ≤ 57)
def natB (l : List UInt8) : Bool := decide (0 < l.length) && decide (l.length ≤ 10) && (decide ((bAt l 0).toNat ≠ 48) || decide (l.length = 1)) && l.all dgOk
def decN (l : List UInt8) : Nat := l.foldl (fun v b => 10 * v + (b.toNat - 48)) 0
theorem decN_snoc (l : List UInt8) (b : UInt8) : decN (l ++ [b]) = 10 * decN l + (b.toNat - 48) := by unfold decN; rw [List.foldl_append]; rfl
theorem decN_take {l : List UInt8} {k : Nat} (hk : k < l.length) : decN (l.take (k + 1)) = 10 * decN (l.take k) + ((bAt l k).toNat - 48) := by
  rw [List.take_succ_eq_append_getElem hk, decN_snoc, bAt_get hk]
theorem dg_at {l : List UInt8} (h : l.all dgOk = true) {k : Nat} (hk : k < l.length) : 48 ≤ (bAt l k).toNat ∧ (bAt l k).toNat ≤ 57 := by
  have := List.all_eq_true.1 h (bAt l k) (by rw [bAt_get hk]; exact List.getElem_mem hk)
  simpa [dgOk] using this
def parB (l : List UInt8) : Bool := natB (cutB l).1 && !((cutB l).2 && decide ((cutB l).1 = [48]))
def parV (l : List UInt8) : Int := if parB l = true then (if (cutB l).2 = true then -(decN (cutB l).1 : Int) else (decN (cutB l).1 : Int)) else 0
def parE (l : List UInt8) : Int := if parB l = true then 0 else 1
def RetP (w : World) (l : List UInt8) (e : Ending) (w' : World) : Prop := e = .returned (.tuple #[.int .i64 (parV l), .int .i64 (parE l)]) ∧ Below w.heap.size w w'

set_option maxHeartbeats 4000000 in
set_option maxRecDepth 100000 in
theorem prefix_any (l : List UInt8) (hl : l.length ≤ 9223372036854775807) (w : World) : Calls Tryd.prog 54 #[.string ⟨l.toArray⟩, .string ⟨#[45]⟩] w (RetB1 w (cutB l).2) := by
  obtain ⟨L, HL⟩ : ∃ v, Hid (l.length = v) := ⟨_, rfl⟩
  have hsz := bsize l
  obtain ⟨B, HBB⟩ : ∃ v, Hid ((cutB l).2 = v) := ⟨_, rfl⟩
  rw [HBB.out]
  rw [HL.out] at hl hsz
  have hs1 : (⟨#[45]⟩ : ByteArray).size = 1 := rfl
  by_cases h0 : L = 0
  · subst h0
    obtain rfl : B = false := by rw [← HBB.out]; unfold cutB; rw [if_neg (by rw [HL.out]; omega)]
    go_enter Tryd.func54, Tryd.ntmps54
    go_wp2_with fail
    go_ret
    exact ⟨rfl, Below.refl _ _⟩
  · have q1 : (1 : Int) ≤ (L : Int) := by omega
    have hx : (((⟨l.toArray⟩ : ByteArray).extract 0 1).toList == [45]) = B := by
      rw [ext_take, toListD, ← HBB.out]
      have h1 := first_b (l := l) (by rw [HL.out]; omega)
      have hc : (cutB l).2 = decide ((bAt l 0).toNat = 45) := by
        unfold cutB
        by_cases hb : (bAt l 0).toNat = 45
        · rw [if_pos ⟨by rw [HL.out]; omega, hb⟩]; simp [hb]
        · rw [if_neg (fun h => hb h.2)]; simp [hb]
      rw [hc]
      have h2 : l.take 1 = [bAt l 0] := by rw [h1]; rfl
      show (((l.take 1).drop 0) == [(45 : UInt8)]) = _
      rw [h2]
      generalize bAt l 0 = b
      show ([b] == [(45 : UInt8)]) = _
      by_cases hb : b.toNat = 45
      · rw [u8_ex (a := b) (b := 45) (by rw [hb]; rfl)]; rfl
      · have h4 : b ≠ 45 := fun h => hb (by rw [h]; rfl)
        rw [show decide (b.toNat = 45) = false by simp [hb], beq_eq_false_iff_ne]; intro h; exact h4 (List.cons.inj h).1
    go_enter Tryd.func54, Tryd.ntmps54
    go_wp2_with fail
    go_ret
    refine ⟨?_, Below.refl _ _⟩
    rfl

def RetC2 (w : World) (l : List UInt8) (e : Ending) (w' : World) : Prop := e = .returned (.tuple #[.string ⟨(cutB l).1.toArray⟩, .bool (cutB l).2]) ∧ Below w.heap.size w w'
set_option maxHeartbeats 4000000 in
set_option maxRecDepth 100000 in
theorem litCutP_any (l : List UInt8) (hl : l.length ≤ 9223372036854775807) (w : World) : Calls Tryd.prog 45 #[.string ⟨l.toArray⟩, .string ⟨#[45]⟩] w (RetC2 w l) := by
  have hd := prefix_any l hl w
  obtain ⟨L, HL⟩ : ∃ v, Hid (l.length = v) := ⟨_, rfl⟩
  have hsz := bsize l
  rw [HL.out] at hl hsz
  have hs1 : (⟨#[45]⟩ : ByteArray).size = 1 := rfl
  obtain ⟨R, HR⟩ : ∃ v, Hid ((cutB l).1 = v) := ⟨_, rfl⟩
  obtain ⟨B, HB⟩ : ∃ v, Hid ((cutB l).2 = v) := ⟨_, rfl⟩
  unfold RetC2
  rw [HB.out] at hd ⊢
  rw [HR.out]
  cases B with
  | false =>
    have e0 := cutB_false HB.out
    rw [HR.out] at e0
    subst e0
    go_enter Tryd.func45, Tryd.ntmps45
    go_wp2_with (first
      | (go_at_call 54; (with_reducible refine hd.mono ?_); rintro e w1 ⟨rfl, g1⟩)
      | fail)
    go_ret2
    exact ⟨rfl, g1⟩
  | true =>
    obtain ⟨hpos, _, e0⟩ := cutB_true HB.out
    rw [HR.out] at e0
    rw [HL.out] at hpos
    have q1 : (1 : Int) ≤ (L : Int) := by omega
    have hx : (⟨l.toArray⟩ : ByteArray).extract 1 L = ⟨R.toArray⟩ := by
      rw [ext_take, e0, List.take_of_length_le (by rw [HL.out]; exact Nat.le_refl _)]
    go_enter Tryd.func45, Tryd.ntmps45
    go_wp2_with (first
      | (go_at_call 54; (with_reducible refine hd.mono ?_); rintro e w1 ⟨rfl, g1⟩)
      | fail)
    go_ret2
    refine ⟨?_, g1⟩
    rw [e0, List.drop_one]
    rfl

set_option maxHeartbeats 4000000 in
set_option maxRecDepth 100000 in
theorem cutP_any (l : List UInt8) (hl : l.length ≤ 9223372036854775807) (w : World) : Calls Tryd.prog 35 #[.string ⟨l.toArray⟩, .string ⟨#[45]⟩] w (RetC2 w l) := by
  have hd := litCutP_any l hl w
  unfold RetC2 at *
  obtain ⟨R, HR⟩ : ∃ v, Hid ((cutB l).1 = v) := ⟨_, rfl⟩
  obtain ⟨B, HB⟩ : ∃ v, Hid ((cutB l).2 = v) := ⟨_, rfl⟩
  rw [HB.out, HR.out] at hd ⊢
  go_enter Tryd.func35, Tryd.ntmps35
  go_wp2_with (first
    | (go_at_call 45; (with_reducible refine hd.mono ?_); rintro e w1 ⟨rfl, g1⟩)
    | fail)
  go_ret2
  exact ⟨rfl, g1⟩

set_option maxHeartbeats 4000000 in
set_option maxRecDepth 100000 in
theorem isNatural_any (l : List UInt8) (hl : l.length ≤ 9223372036854775807) (w : World) : Calls Tryd.prog 36 #[.string ⟨l.toArray⟩] w (RetB1 w (natB l)) := by
  obtain ⟨B, HB⟩ : ∃ B, Hid (natB l = B) := ⟨_, rfl⟩
  rw [HB.out]
  have hsz := bsize l
  obtain ⟨L, HL⟩ : ∃ L, Hid (l.length = L) := ⟨_, rfl⟩
  have hdef : B = natB l := HB.out.symm
  unfold natB at hdef
  rw [HL.out] at hsz hl hdef
  by_cases h0 : l = []
  · obtain rfl : L = 0 := by rw [← HL.out, h0]; rfl
    obtain rfl : B = false := by rw [hdef]; simp
    clear hdef hsz HL HB
    subst h0
    go_enter Tryd.func36, Tryd.ntmps36
    go_wp2_with fail
    go_ret
    exact ⟨rfl, Below.refl _ _⟩
  have hpos : 0 < L := by
    rcases Nat.eq_zero_or_pos L with h | h
    · exact absurd (List.eq_nil_of_length_eq_zero (HL.out.trans h)) h0
    · exact h
  have e1 : (l == ([] : List UInt8)) = false := by rw [beq_eq_false_iff_ne]; exact h0
  by_cases h10 : 10 < L
  · obtain rfl : B = false := by rw [hdef]; simp; omega
    have q1 : (10 : Int) < (L : Int) := by omega
    clear hdef
    go_enter Tryd.func36, Tryd.ntmps36
    go_wp2_with fail
    go_ret
    exact ⟨rfl, Below.refl _ _⟩
  have q1 : decide ((10 : Int) < (L : Int)) = false := by simp; omega
  have hg := bget (l := l) (k := 0) (by rw [HL.out]; exact hpos)
  obtain ⟨n0, HN⟩ : ∃ v, Hid ((bAt l 0).toNat = v) := ⟨_, rfl⟩
  have hn0 : n0 < 256 := by rw [← HN.out]; exact UInt8.toNat_lt _
  have hg2 : ∀ h, ((⟨l.toArray⟩ : ByteArray)[0]'h).toNat = n0 := fun h => by rw [hg h]; exact HN.out
  rw [HN.out] at hdef
  clear hg
  have j00 : (0 : Int) < (L : Int) := by omega
  obtain ⟨C, T, hC1, hC2, hcv, hcell⟩ := conv_facts l (by rw [HL.out]; exact hl) w
  rw [HL.out] at hC1 hcv hcell
  have HCELL := Lib.hid hcell
  clear hcell

  by_cases h48 : n0 = 48
  · subst h48
    by_cases hL1 : L = 1
    · have hl1 : l = [48] := by
        rw [one_b (l := l) (by rw [HL.out, hL1])]
        congr 1
        exact u8_ex (by rw [HN.out]; rfl)
      have e2 : (l == [48]) = true := by rw [hl1]; rfl
      have e3 : (l != [48]) = false := by rw [hl1]; rfl
      have hB : B = l.all dgOk := by rw [hdef]; simp [hL1]
      clear hdef hl1
      have HBB := Lib.hid hB
      clear hB
      go_enter Tryd.func36, Tryd.ntmps36
      go_wp2_with fail
      go_loop [24] (fun i => ∃ k : Nat, k ≤ L ∧ i = .int .i64 k ∧ Hid ((l.take k).all dgOk = true)) (fun i => L - (intOf i).toNat)
      case atStart => exact ⟨0, by omega, rfl, by unfold Hid; simp⟩
      case round =>
        obtain ⟨k, hk, rfl, hall⟩ := hrel
        by_cases hlt : k < L
        · have hc := HCELL.out k hlt
          have hta := all_take dgOk (l := l) (k := k) (by rw [HL.out]; exact hlt)
          have hbad := all_bad dgOk (l := l) (k := k) (by rw [HL.out]; exact hlt)
          obtain ⟨b, Hb⟩ : ∃ v, Hid (bAt l k = v) := ⟨_, rfl⟩
          rw [Hb.out] at hta hbad hc
          rw [show dgOk b = decide (48 ≤ b.toNat ∧ b.toNat ≤ 57) from rfl] at hta hbad
          obtain ⟨n, Hn⟩ : ∃ v, Hid (b.toNat = v) := ⟨_, rfl⟩
          have hn : n < 256 := by rw [← Hn.out]; exact UInt8.toNat_lt _
          rw [Hn.out] at hta hbad hc
          have hcl := classOf_any n hn
          have hcs := cls_cases n
          obtain ⟨cn, HCN⟩ : ∃ v, Hid (cls n = v) := ⟨_, rfl⟩
          rw [HCN.out] at hcl hcs
          have j0 : (0 : Int) ≤ (k : Int) := by omega
          have j1 : (k : Int) < (L : Int) := by omega
          have HTA := Lib.hid hta
          have HBAD := Lib.hid hbad
          clear hta hbad
          rcases hcs with ⟨rfl, r1, r2⟩ | ⟨rfl, r1, r2⟩ | ⟨rfl, r1, r2⟩ | ⟨rfl, r1, r2, r3⟩
          · obtain rfl : B = false := by rw [HBB.out]; exact HBAD.out (by simp; omega)
            go_wp2_with (go_at_call 31; (with_reducible refine (hcl _).mono ?_); rintro e w1 ⟨rfl, rfl⟩)
            go_ret
            exact ⟨rfl, below_conv _ _⟩
          · obtain rfl : B = false := by rw [HBB.out]; exact HBAD.out (by simp; omega)
            go_wp2_with (go_at_call 31; (with_reducible refine (hcl _).mono ?_); rintro e w1 ⟨rfl, rfl⟩)
            go_ret
            exact ⟨rfl, below_conv _ _⟩
          · have HA : Hid ((l.take (k + 1)).all dgOk = true) := by unfold Hid; rw [HTA.out, hall.out]; simp; omega
            go_wp2_with (go_at_call 31; (with_reducible refine (hcl _).mono ?_); rintro e w1 ⟨rfl, rfl⟩)
            go_round
            case rel => exact ⟨k + 1, by omega, by go_num, HA⟩
            case measure => simp [intOf]; omega
          · obtain rfl : B = false := by rw [HBB.out]; exact HBAD.out (by simp; omega)
            go_wp2_with (go_at_call 31; (with_reducible refine (hcl _).mono ?_); rintro e w1 ⟨rfl, rfl⟩)
            go_ret
            exact ⟨rfl, below_conv _ _⟩
        · obtain rfl : k = L := by omega
          obtain rfl : B = true := by
            rw [HBB.out, ← hall.out, List.take_of_length_le (by rw [HL.out]; exact Nat.le_refl _)]
          have j1 : ¬ (k : Int) < (k : Int) := by omega
          go_wp2_with fail
          go_ret
          exact ⟨rfl, below_conv _ _⟩
    · have hl2 : ¬ l = [48] := by intro h; rw [h] at HL; exact hL1 HL.out.symm
      have e2 : (l == [48]) = false := by rw [beq_eq_false_iff_ne]; exact hl2
      have e3 : (l != [48]) = true := by rw [bne, e2]; rfl
      obtain rfl : B = false := by rw [hdef]; simp [hL1]
      clear hdef
      go_enter Tryd.func36, Tryd.ntmps36
      go_wp2_with fail
      go_ret
      exact ⟨rfl, Below.refl _ _⟩
  · have q4 : ((n0 : Int) == 48) = false := by simp; omega
    have q5 : ¬ (n0 : Int) = 48 := by omega
    have hB : B = l.all dgOk := by rw [hdef]; simp [h48]; omega
    clear hdef
    have HBB := Lib.hid hB
    clear hB
    go_enter Tryd.func36, Tryd.ntmps36
    go_wp2_with fail
    go_loop [24] (fun i => ∃ k : Nat, k ≤ L ∧ i = .int .i64 k ∧ Hid ((l.take k).all dgOk = true)) (fun i => L - (intOf i).toNat)
    case atStart => exact ⟨0, by omega, rfl, by unfold Hid; simp⟩
    case round =>
      obtain ⟨k, hk, rfl, hall⟩ := hrel
      by_cases hlt : k < L
      · have hc := HCELL.out k hlt
        have hta := all_take dgOk (l := l) (k := k) (by rw [HL.out]; exact hlt)
        have hbad := all_bad dgOk (l := l) (k := k) (by rw [HL.out]; exact hlt)
        obtain ⟨b, Hb⟩ : ∃ v, Hid (bAt l k = v) := ⟨_, rfl⟩
        rw [Hb.out] at hta hbad hc
        rw [show dgOk b = decide (48 ≤ b.toNat ∧ b.toNat ≤ 57) from rfl] at hta hbad
        obtain ⟨n, Hn⟩ : ∃ v, Hid (b.toNat = v) := ⟨_, rfl⟩
        have hn : n < 256 := by rw [← Hn.out]; exact UInt8.toNat_lt _
        rw [Hn.out] at hta hbad hc
        have hcl := classOf_any n hn
        have hcs := cls_cases n
        obtain ⟨cn, HCN⟩ : ∃ v, Hid (cls n = v) := ⟨_, rfl⟩
        rw [HCN.out] at hcl hcs
        have j0 : (0 : Int) ≤ (k : Int) := by omega
        have j1 : (k : Int) < (L : Int) := by omega
        have HTA := Lib.hid hta
        have HBAD := Lib.hid hbad
        clear hta hbad
        rcases hcs with ⟨rfl, r1, r2⟩ | ⟨rfl, r1, r2⟩ | ⟨rfl, r1, r2⟩ | ⟨rfl, r1, r2, r3⟩
        · obtain rfl : B = false := by rw [HBB.out]; exact HBAD.out (by simp; omega)
          go_wp2_with (go_at_call 31; (with_reducible refine (hcl _).mono ?_); rintro e w1 ⟨rfl, rfl⟩)
          go_ret
          exact ⟨rfl, below_conv _ _⟩
        · obtain rfl : B = false := by rw [HBB.out]; exact HBAD.out (by simp; omega)
          go_wp2_with (go_at_call 31; (with_reducible refine (hcl _).mono ?_); rintro e w1 ⟨rfl, rfl⟩)
          go_ret
          exact ⟨rfl, below_conv _ _⟩
        · have HA : Hid ((l.take (k + 1)).all dgOk = true) := by unfold Hid; rw [HTA.out, hall.out]; simp; omega
          go_wp2_with (go_at_call 31; (with_reducible refine (hcl _).mono ?_); rintro e w1 ⟨rfl, rfl⟩)
          go_round
          case rel => exact ⟨k + 1, by omega, by go_num, HA⟩
          case measure => simp [intOf]; omega
        · obtain rfl : B = false := by rw [HBB.out]; exact HBAD.out (by simp; omega)
          go_wp2_with (go_at_call 31; (with_reducible refine (hcl _).mono ?_); rintro e w1 ⟨rfl, rfl⟩)
          go_ret
          exact ⟨rfl, below_conv _ _⟩
      · obtain rfl : k = L := by omega
        obtain rfl : B = true := by
          rw [HBB.out, ← hall.out, List.take_of_length_le (by rw [HL.out]; exact Nat.le_refl _)]
        have j1 : ¬ (k : Int) < (k : Int) := by omega
        go_wp2_with fail
        go_ret
        exact ⟨rfl, below_conv _ _⟩
end Go.Proofs.YtdacigihhbcppaaDoor

