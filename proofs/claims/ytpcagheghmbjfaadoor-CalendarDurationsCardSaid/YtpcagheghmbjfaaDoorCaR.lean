/-
  Calendar: the texts of dates and of clock times, on both sides.
-/
import Derived.Test.YtpcagheghmbjfaaDoorCaQ
import Derived.Test.YtpcagheghmbjfaaDoorCaH
import Derived.Deep.RegionHeld3
set_option linter.unusedVariables false
set_option linter.unusedSimpArgs false
namespace Go.Proofs.YtpcagheghmbjfaaDoor
open Go.RowKit

theorem PowT.box {w : World} (h : PowT w) (o : Obj) : PowT (w.alloc o) := h.below (cnew w o) (Nat.le_refl _)
theorem PowT.drew {w : World} (h : PowT w) : PowT w.drew := h.below (Below.refl w.heap.size w).drew (Nat.le_refl _)
theorem PowT.drewN {w : World} (h : PowT w) (k : Nat) : PowT (w.drewN k) := h.below (below_drewN (Below.refl w.heap.size w) k) (Nat.le_refl _)
theorem BoxD.drew {w : World} {b : Nat} {y m d : Int} (h : BoxD w b y m d) : BoxD w.drew b y m d := ⟨by simpa using h.1, by simpa using h.2.1, by simpa using h.2.2⟩
def dateT (y m d : Nat) : List UInt8 := padN y 4 ++ [45] ++ padN m 2 ++ [45] ++ padN d 2
def clockT (h m : Nat) : List UInt8 := padN h 2 ++ [58] ++ padN m 2
theorem two_le {u : Nat} (h : u < 100) : (Lib.decDigits u).length ≤ 2 := dig_le (k := 2) (by omega) (by omega)
theorem four_le {u : Nat} (h : u < 10000) : (Lib.decDigits u).length ≤ 4 := dig_le (k := 4) (by omega) (by omega)
/-- The pieces of a date's text. -/
theorem date_parts (y m d : Nat) (hy : y < 10000) (hm : m < 100) (hd : d < 100) : ∃ P1 P2 P3 X1 X2 X3 : List UInt8, padN y 4 = P1 ∧ padN m 2 = P2 ∧ padN d 2 = P3 ∧
    (⟨P1.toArray⟩ : ByteArray).size = 4 ∧ (⟨P2.toArray⟩ : ByteArray).size = 2 ∧ (⟨P3.toArray⟩ : ByteArray).size = 2 ∧ (⟨X1.toArray⟩ : ByteArray).size = 5 ∧ (⟨X2.toArray⟩ : ByteArray).size = 7 ∧ (⟨X3.toArray⟩ : ByteArray).size = 8 ∧
    (⟨P1.toArray⟩ : ByteArray) ++ ⟨#[45]⟩ = ⟨X1.toArray⟩ ∧ (⟨X1.toArray⟩ : ByteArray) ++ ⟨P2.toArray⟩ = ⟨X2.toArray⟩ ∧ (⟨X2.toArray⟩ : ByteArray) ++ ⟨#[45]⟩ = ⟨X3.toArray⟩ ∧ (⟨X3.toArray⟩ : ByteArray) ++ ⟨P3.toArray⟩ = ⟨(dateT y m d).toArray⟩ := by
  have l1 := pad_len (four_le hy)
  have l2 := pad_len (two_le hm)
  have l3 := pad_len (two_le hd)
  refine ⟨_, _, _, padN y 4 ++ [45], padN y 4 ++ [45] ++ padN m 2, padN y 4 ++ [45] ++ padN m 2 ++ [45], rfl, rfl, rfl, ?_, ?_, ?_, ?_, ?_, ?_, str_app _ [45], str_app _ _, str_app _ [45], str_app _ _⟩
  all_goals rw [bsize]; simp only [List.length_append, List.length_cons, List.length_nil, l1, l2, l3]
theorem clock_parts (h m : Nat) (hy : h < 100) (hm : m < 100) : ∃ P1 P2 X1 : List UInt8, padN h 2 = P1 ∧ padN m 2 = P2 ∧
    (⟨P1.toArray⟩ : ByteArray).size = 2 ∧ (⟨P2.toArray⟩ : ByteArray).size = 2 ∧ (⟨X1.toArray⟩ : ByteArray).size = 3 ∧
    (⟨P1.toArray⟩ : ByteArray) ++ ⟨#[58]⟩ = ⟨X1.toArray⟩ ∧ (⟨X1.toArray⟩ : ByteArray) ++ ⟨P2.toArray⟩ = ⟨(clockT h m).toArray⟩ := by
  have l1 := pad_len (two_le hy)
  have l2 := pad_len (two_le hm)
  refine ⟨_, _, padN h 2 ++ [58], rfl, rfl, ?_, ?_, ?_, str_app _ [58], str_app _ _⟩
  all_goals rw [bsize]; simp only [List.length_append, List.length_cons, List.length_nil, l1, l2]
set_option maxHeartbeats 4000000 in
set_option maxRecDepth 100000 in
theorem dateText_any (y m d : Nat) (hy : y < 10000) (hm : m < 100) (hd : d < 100) (w : World) (hP : PowT w) : Calls Tryd.prog 52 #[.agg #[.int .i64 (y : Int), .int .i64 (m : Int), .int .i64 (d : Int)]] w (RetT w (dateT y m d)) := by
  have h1 := fun w hP => padded_any y 4 (four_le hy) (by omega) (by omega) w hP
  have h2 := fun w hP => padded_any m 2 (two_le hm) (by omega) (by omega) w hP
  have h3 := fun w hP => padded_any d 2 (two_le hd) (by omega) (by omega) w hP
  simp only [Int.cast_ofNat_Int] at h1 h2 h3
  obtain ⟨P1, P2, P3, X1, X2, X3, e1, e2, e3, s1, s2, s3, s4, s5, s6, a1, a2, a3, a4⟩ := date_parts y m d hy hm hd
  rw [e1] at h1
  rw [e2] at h2
  rw [e3] at h3
  obtain ⟨R, HR⟩ : ∃ v, Hid (dateT y m d = v) := ⟨_, rfl⟩
  rw [HR.out] at a4 ⊢
  have hs45 : (⟨#[45]⟩ : ByteArray).size = 1 := rfl
  clear e1 e2 e3
  have HBX := Lib.hid (box_new w (y : Int) (m : Int) (d : Int) 23).drew
  have HP0 := Lib.hid (hP.box (.cells #[Value.int IntKind.i64 ↑y, Value.int IntKind.i64 ↑m, Value.int IntKind.i64 ↑d] 23)).drew
  have HB0 := Lib.hid (cnew w (.cells #[Value.int IntKind.i64 ↑y, Value.int IntKind.i64 ↑m, Value.int IntKind.i64 ↑d] 23)).drew
  clear hP
  go_enter Tryd.func52, Tryd.ntmps52
  go_upto_region 1 with fail
  go_region_held3 (fun w' => w'.cell? ⟨w.heap.size, 0, none⟩ = some (.int .i64 (y : Int)) ∧ w'.cell? ⟨w.heap.size, 1, none⟩ = some (.int .i64 (m : Int)) ∧ w'.cell? ⟨w.heap.size, 2, none⟩ = some (.int .i64 (d : Int)))
    (first | exact ⟨by simp, by simp, by simp⟩ | exact ⟨b0, b1, b2⟩ | exact ⟨c0, c1, c2⟩ | exact ⟨d0, d1, d2⟩)
    (first
    | (go_at_call 60; first
        | ((with_reducible refine (h1 _ HP0.out).mono ?_); rintro e w1 ⟨rfl, g1⟩; obtain ⟨b0, b1, b2⟩ := HBX.out.below g1 (by simp); have HP1 := Lib.hid (HP0.out.below g1 (Nat.le_refl _)); have B1 := Lib.hid (ccall2 HB0.out g1 HB0.out.size); have L1 := Lib.hid g1.size; clear g1)
        | ((with_reducible refine (h2 _ HP1.out).mono ?_); rintro e w2 ⟨rfl, g2⟩; obtain ⟨c0, c1, c2⟩ := (show BoxD w1 w.heap.size _ _ _ from ⟨b0, b1, b2⟩).below g2 (by have := L1.out; simp at this; omega); have HP2 := Lib.hid (HP1.out.below g2 (Nat.le_refl _)); have B2 := Lib.hid (ccall2 B1.out g2 B1.out.size); have L2 := Lib.hid (Nat.le_trans L1.out g2.size); clear g2)
        | ((with_reducible refine (h3 _ HP2.out).mono ?_); rintro e w3 ⟨rfl, g3⟩; obtain ⟨d0, d1, d2⟩ := (show BoxD w2 w.heap.size _ _ _ from ⟨c0, c1, c2⟩).below g3 (by have := L2.out; simp at this; omega); have B3 := Lib.hid (ccall2 B2.out g3 B2.out.size); clear g3))
    | fail)
  all_goals
    go_wp2_with fail
    go_ret
    exact ⟨rfl, B3.out⟩
end Go.Proofs.YtpcagheghmbjfaaDoor

