/-
  Texts of integers: the sign is cut off.
-/
import Derived.Test.YtekoeohkkabkdaaGreatTxB
set_option linter.unusedVariables false
set_option linter.unusedSimpArgs false
namespace Go.Proofs.YtekoeohkkabkdaaGreat
open Go.RowKit

def RetCut (w : World) (l : List UInt8) (e : Ending) (w' : World) : Prop := e = .returned (.tuple #[.string ⟨(cutV l).1.toArray⟩, .bool (cutV l).2]) ∧ Below w.heap.size w w'
theorem cutV_true {l : List UInt8} (h : (cutV l).2 = true) : 0 < l.length ∧ (cutV l).1 = l.drop 1 := by
  unfold cutV at *
  by_cases hb : 0 < l.length ∧ (byteAt l 0).toNat = 45
  · rw [if_pos hb]; exact ⟨hb.1, rfl⟩
  · rw [if_neg hb] at h; exact Bool.noConfusion h
theorem cutV_false {l : List UInt8} (h : (cutV l).2 = false) : (cutV l).1 = l := by
  unfold cutV at *
  by_cases hb : 0 < l.length ∧ (byteAt l 0).toNat = 45
  · rw [if_pos hb] at h; exact Bool.noConfusion h
  · rw [if_neg hb]
theorem cutV_len (l : List UInt8) : (cutV l).1.length ≤ l.length := by
  unfold cutV
  by_cases hb : 0 < l.length ∧ (byteAt l 0).toNat = 45
  · rw [if_pos hb]; simp
  · rw [if_neg hb]; exact Nat.le_refl _

set_option maxHeartbeats 4000000 in
set_option maxRecDepth 100000 in
theorem litCut_any (l : List UInt8) (hl : l.length ≤ 100000) (w : World) : Calls Tryz.prog 88 #[.string ⟨l.toArray⟩, .string ⟨#[45]⟩] w (RetCut w l) := by
  have hd := hasPrefix_any l hl w
  obtain ⟨L, HL⟩ : ∃ v, Hid (l.length = v) := ⟨_, rfl⟩
  have hsz := str_size l
  rw [HL.out] at hl hsz
  have hs1 : (⟨#[45]⟩ : ByteArray).size = 1 := rfl
  obtain ⟨R, HR⟩ : ∃ v, Hid ((cutV l).1 = v) := ⟨_, rfl⟩
  obtain ⟨B, HB⟩ : ∃ v, Hid ((cutV l).2 = v) := ⟨_, rfl⟩
  unfold RetCut
  rw [HB.out] at hd ⊢
  rw [HR.out]
  cases B with
  | false =>
    have e0 := cutV_false HB.out
    rw [HR.out] at e0
    subst e0
    go_enter Tryz.func88, Tryz.ntmps88
    go_wp2_with (first
      | (go_at_call 78; (with_reducible refine hd.mono ?_); rintro e w1 ⟨rfl, g1⟩)
      | fail)
    go_ret2
    exact ⟨rfl, g1⟩
  | true =>
    obtain ⟨hpos, e0⟩ := cutV_true HB.out
    rw [HR.out] at e0
    rw [HL.out] at hpos
    have q1 : (1 : Int) ≤ (L : Int) := by omega
    have hx : (⟨l.toArray⟩ : ByteArray).extract 1 L = ⟨R.toArray⟩ := by
      rw [extract_data, e0, List.take_of_length_le (by rw [HL.out]; exact Nat.le_refl _)]
    go_enter Tryz.func88, Tryz.ntmps88
    go_wp2_with (first
      | (go_at_call 78; (with_reducible refine hd.mono ?_); rintro e w1 ⟨rfl, g1⟩)
      | fail)
    go_ret2
    refine ⟨?_, g1⟩
    rw [e0, List.drop_one]
    rfl

set_option maxHeartbeats 4000000 in
set_option maxRecDepth 100000 in
theorem cut_any (l : List UInt8) (hl : l.length ≤ 100000) (w : World) : Calls Tryz.prog 58 #[.string ⟨l.toArray⟩, .string ⟨#[45]⟩] w (RetCut w l) := by
  have hd := litCut_any l hl w
  unfold RetCut at *
  obtain ⟨R, HR⟩ : ∃ v, Hid ((cutV l).1 = v) := ⟨_, rfl⟩
  obtain ⟨B, HB⟩ : ∃ v, Hid ((cutV l).2 = v) := ⟨_, rfl⟩
  rw [HB.out, HR.out] at hd ⊢
  go_enter Tryz.func58, Tryz.ntmps58
  go_wp2_with (first
    | (go_at_call 88; (with_reducible refine hd.mono ?_); rintro e w1 ⟨rfl, g1⟩)
    | fail)
  go_ret2
  exact ⟨rfl, g1⟩
end Go.Proofs.YtekoeohkkabkdaaGreat

