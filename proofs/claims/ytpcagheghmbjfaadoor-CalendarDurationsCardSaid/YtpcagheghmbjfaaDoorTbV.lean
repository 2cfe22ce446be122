/-
  The program's ParseInt: the sign is cut off, what is a natural number in decimal notation, its value.
-/
import Derived.Test.YtpcagheghmbjfaaDoorTbQ
set_option linter.unusedVariables false
set_option linter.unusedSimpArgs false
namespace Go.Proofs.YtpcagheghmbjfaaDoor
open Go.RowKit

theorem one_b {l : List UInt8} (h : l.length = 1) : l = [bAt l 0] := by
  match l, h with
  | [b], _ => rfl
theorem first_b {l : List UInt8} (h : 0 < l.length) : l = bAt l 0 :: l.drop 1 := by
  match l, h with
  | b :: m, _ => rfl
theorem u8_ex {a b : UInt8} (h : a.toNat = b.toNat) : a = b := UInt8.toNat_inj.1 h
def cutB (l : List UInt8) : List UInt8 × Bool := if 0 < l.length ∧ (bAt l 0).toNat = 45 then (l.drop 1, true) else (l, false)
theorem cutB_true {l : List UInt8} (h : (cutB l).2 = true) : 0 < l.length ∧ (bAt l 0).toNat = 45 ∧ (cutB l).1 = l.drop 1 := by
  unfold cutB at *
  by_cases hb : 0 < l.length ∧ (bAt l 0).toNat = 45
  · rw [if_pos hb]; exact ⟨hb.1, hb.2, rfl⟩
  · rw [if_neg hb] at h; exact Bool.noConfusion h
theorem cutB_false {l : List UInt8} (h : (cutB l).2 = false) : (cutB l).1 = l := by
  unfold cutB at *
  by_cases hb : 0 < l.length ∧ (bAt l 0).toNat = 45
  · rw [if_pos hb] at h; exact Bool.noConfusion h
  · rw [if_neg hb]
theorem cutB_len (l : List UInt8) : (cutB l).1.length ≤ l.length := by
  unfold cutB
  by_cases hb : 0 < l.length ∧ (bAt l 0).toNat = 45
  · rw [if_pos hb]; simp
  · rw [if_neg hb]; exact Nat.le_refl _
def dgOk (b : UInt8) : Bool := decide (48 ≤ b.toNat ∧ b.toNat ≤ 57)
def natB (l : List UInt8) : Bool := decide (0 < l.length) && decide (l.length ≤ 10) && (decide ((bAt l 0).toNat ≠ 48) || decide (l.length = 1)) && l.all dgOk
def decN (l : List UInt8) : Nat := l.foldl (fun v b => 10 * v + (b.toNat - 48)) 0
theorem decN_snoc (l : List UInt8) (b : UInt8) : decN (l ++ [b]) = 10 * decN l + (b.toNat - 48) := by unfold decN; rw [List.foldl_append]; rfl
theorem decN_take {l : List UInt8} {k : Nat} (hk : k < l.length) : decN (l.take (k + 1)) = 10 * decN (l.take k) + ((bAt l k).toNat - 48) := by
  rw [List.take_succ_eq_append_getElem hk, decN_snoc, bAt_get hk]
theorem dg_at {l : List UInt8} (h : l.all dgOk = true) {k : Nat} (hk : k < l.length) : 48 ≤ (bAt l k).toNat ∧ (bAt l k).toNat ≤ 57 := by
  have := List.all_eq_true.1 h (bAt l k) (by rw [bAt_get hk]; exact List.getElem_mem hk)
  simpa [dgOk] using this
def parB (l : List UInt8) : Bool := natB (cutB l).1 && !((cutB l).2 && decide ((cutB l).1 = [48]))
def parV (l : List UInt8) : Int := if parB l = true then (if (cutB l).2 = true then -(decN (cutB l).1 : Int) else (decN (cutB l).1 : Int)) else 0
def parE (l : List UInt8) : Int := if parB l = true then 0 else 1
def RetP (w : World) (l : List UInt8) (e : Ending) (w' : World) : Prop := e = .returned (.tuple #[.int .i64 (parV l), .int .i64 (parE l)]) ∧ Below w.heap.size w w'

set_option maxHeartbeats 4000000 in
set_option maxRecDepth 100000 in
theorem prefix_any (l : List UInt8) (hl : l.length ≤ 9223372036854775807) (w : World) : Calls Tryd.prog 72 #[.string ⟨l.toArray⟩, .string ⟨#[45]⟩] w (RetB1 w (cutB l).2) := by
  obtain ⟨L, HL⟩ : ∃ v, Hid (l.length = v) := ⟨_, rfl⟩
  have hsz := bsize l
  obtain ⟨B, HBB⟩ : ∃ v, Hid ((cutB l).2 = v) := ⟨_, rfl⟩
  rw [HBB.out]
  rw [HL.out] at hl hsz
  have hs1 : (⟨#[45]⟩ : ByteArray).size = 1 := rfl
  by_cases h0 : L = 0
  · subst h0
    obtain rfl : B = false := by rw [← HBB.out]; unfold cutB; rw [if_neg (by rw [HL.out]; omega)]
    go_enter Tryd.func72, Tryd.ntmps72
    go_wp2_with fail
    go_ret
    exact ⟨rfl, Below.refl _ _⟩
  · have q1 : (1 : Int) ≤ (L : Int) := by omega
    have hx : (((⟨l.toArray⟩ : ByteArray).extract 0 1).toList == [45]) = B := by
      rw [ext_take, toListD, ← HBB.out]
      have h1 := first_b (l := l) (by rw [HL.out]; omega)
      have hc : (cutB l).2 = decide ((bAt l 0).toNat = 45) := by
        unfold cutB
        by_cases hb : (bAt l 0).toNat = 45
        · rw [if_pos ⟨by rw [HL.out]; omega, hb⟩]; simp [hb]
        · rw [if_neg (fun h => hb h.2)]; simp [hb]
      rw [hc]
      have h2 : l.take 1 = [bAt l 0] := by rw [h1]; rfl
      show (((l.take 1).drop 0) == [(45 : UInt8)]) = _
      rw [h2]
      generalize bAt l 0 = b
      show ([b] == [(45 : UInt8)]) = _
      by_cases hb : b.toNat = 45
      · rw [u8_ex (a := b) (b := 45) (by rw [hb]; rfl)]; rfl
      · have h4 : b ≠ 45 := fun h => hb (by rw [h]; rfl)
        rw [show decide (b.toNat = 45) = false by simp [hb], beq_eq_false_iff_ne]; intro h; exact h4 (List.cons.inj h).1
    go_enter Tryd.func72, Tryd.ntmps72
    go_wp2_with fail
    go_ret
    refine ⟨?_, Below.refl _ _⟩
    rfl

def RetC2 (w : World) (l : List UInt8) (e : Ending) (w' : World) : Prop := e = .returned (.tuple #[.string ⟨(cutB l).1.toArray⟩, .bool (cutB l).2]) ∧ Below w.heap.size w w'
set_option maxHeartbeats 4000000 in
set_option maxRecDepth 100000 in
theorem litCutP_any (l : List UInt8) (hl : l.length ≤ 9223372036854775807) (w : World) : Calls Tryd.prog 67 #[.string ⟨l.toArray⟩, .string ⟨#[45]⟩] w (RetC2 w l) := by
  have hd := prefix_any l hl w
  obtain ⟨L, HL⟩ : ∃ v, Hid (l.length = v) := ⟨_, rfl⟩
  have hsz := bsize l
  rw [HL.out] at hl hsz
  have hs1 : (⟨#[45]⟩ : ByteArray).size = 1 := rfl
  obtain ⟨R, HR⟩ : ∃ v, Hid ((cutB l).1 = v) := ⟨_, rfl⟩
  obtain ⟨B, HB⟩ : ∃ v, Hid ((cutB l).2 = v) := ⟨_, rfl⟩
  unfold RetC2
  rw [HB.out] at hd ⊢
  rw [HR.out]
  cases B with
  | false =>
    have e0 := cutB_false HB.out
    rw [HR.out] at e0
    subst e0
    go_enter Tryd.func67, Tryd.ntmps67
    go_wp2_with (first
      | (go_at_call 72; (with_reducible refine hd.mono ?_); rintro e w1 ⟨rfl, g1⟩)
      | fail)
    go_ret2
    exact ⟨rfl, g1⟩
  | true =>
    obtain ⟨hpos, _, e0⟩ := cutB_true HB.out
    rw [HR.out] at e0
    rw [HL.out] at hpos
    have q1 : (1 : Int) ≤ (L : Int) := by omega
    have hx : (⟨l.toArray⟩ : ByteArray).extract 1 L = ⟨R.toArray⟩ := by
      rw [ext_take, e0, List.take_of_length_le (by rw [HL.out]; exact Nat.le_refl _)]
    go_enter Tryd.func67, Tryd.ntmps67
    go_wp2_with (first
      | (go_at_call 72; (with_reducible refine hd.mono ?_); rintro e w1 ⟨rfl, g1⟩)
      | fail)
    go_ret2
    refine ⟨?_, g1⟩
    rw [e0, List.drop_one]
    rfl

set_option maxHeartbeats 4000000 in
set_option maxRecDepth 100000 in
theorem cutP_any (l : List UInt8) (hl : l.length ≤ 9223372036854775807) (w : World) : Calls Tryd.prog 55 #[.string ⟨l.toArray⟩, .string ⟨#[45]⟩] w (RetC2 w l) := by
  have hd := litCutP_any l hl w
  unfold RetC2 at *
  obtain ⟨R, HR⟩ : ∃ v, Hid ((cutB l).1 = v) := ⟨_, rfl⟩
  obtain ⟨B, HB⟩ : ∃ v, Hid ((cutB l).2 = v) := ⟨_, rfl⟩
  rw [HB.out, HR.out] at hd ⊢
  go_enter Tryd.func55, Tryd.ntmps55
  go_wp2_with (first
    | (go_at_call 67; (with_reducible refine hd.mono ?_); rintro e w1 ⟨rfl, g1⟩)
    | fail)
  go_ret2
  exact ⟨rfl, g1⟩

end Go.Proofs.YtpcagheghmbjfaaDoor

