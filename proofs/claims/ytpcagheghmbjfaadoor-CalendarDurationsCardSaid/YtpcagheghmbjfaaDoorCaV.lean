/-
  Calendar: reading dates, by the program and by the reference.
-/
import Derived.Test.YtpcagheghmbjfaaDoorCaU
set_option linter.unusedVariables false
set_option linter.unusedSimpArgs false
namespace Go.Proofs.YtpcagheghmbjfaaDoor
open Go.RowKit

set_option maxHeartbeats 4000000 in
set_option maxRecDepth 100000 in
theorem parseDate_any (l : List UInt8) (hl : l.length ≤ 9223372036854775807) (w : World) (hT : MonT w) : Calls Tryd.prog 23 #[.string ⟨l.toArray⟩] w (RetPD w l) := by
  have hf : ∀ w, Calls Tryd.prog 49 #[.string ⟨l.toArray⟩, .string ⟨#[48, 48, 48, 48, 45, 48, 48, 45, 48, 48]⟩] w (RetB1 w (formB l dateF)) := fun w => hasForm_any l dateF hl (by decide) w
  have hfc := @form_date l
  have hsz := bsize l
  have hsyn := fun w w' en => @RetPD.syn w w' l en
  have hrng := fun w w' en => @RetPD.rng w w' l en
  have hgood := fun w w' en => @RetPD.good w w' l en
  have HBX := Lib.hid (box_new w 0 0 0 23)
  have HBF := Lib.hid (boxF_new w 0 0 0 23)
  have HT0 := Lib.hid (hT.box (.cells #[Value.int IntKind.i64 0, Value.int IntKind.i64 0, Value.int IntKind.i64 0] 23))
  clear hT
  obtain ⟨B, HB⟩ : ∃ v, Hid (formB l dateF = v) := ⟨_, rfl⟩
  rw [HB.out] at hf hfc
  simp only [HB.out] at hsyn hrng hgood
  cases B with
  | false =>
    clear hfc
    go_enter Tryd.func23, Tryd.ntmps23
    go_wp2_with (first
      | (go_at_call 49; (with_reducible refine (hf _).mono ?_); rintro e w1 ⟨rfl, g1⟩; obtain ⟨c0, c1, c2⟩ := HBX.out.below g1 (by simp); obtain ⟨z0, z1, z2⟩ := HBF.out.below g1 (by simp); have B1 := Lib.hid (ccall g1); clear g1)
      | fail)
    obtain ⟨p0, p1, p2⟩ := BoxD.store ⟨c0, c1, c2⟩ 0 0 0
    refine bodyPost_ret (v := .tuple #[.agg #[.int .i64 0, .int .i64 0, .int .i64 0], .int .i64 1]) (by simp [results, Tryd.results23, go_sem, p0, p1, p2]) rfl (RetPD.syn HB.out ⟨rfl, ?_⟩)
    exact stores3 B1.out _ _ _ _ (Nat.le_refl _)
  | true =>
    obtain ⟨hL, _, _, a1, a2, a3⟩ := hfc rfl
    rw [hL] at hsz
    have l1 : (l.take 4).length = 4 := by rw [List.length_take]; omega
    have l2 : ((l.take 7).drop 5).length = 2 := by rw [List.length_drop, List.length_take]; omega
    have l3 : (l.drop 8).length = 2 := by rw [List.length_drop]; omega
    have x1 : (⟨l.toArray⟩ : ByteArray).extract 0 4 = ⟨(l.take 4).toArray⟩ := by rw [ext_take, List.drop_zero]
    have x2 : (⟨l.toArray⟩ : ByteArray).extract 5 7 = ⟨((l.take 7).drop 5).toArray⟩ := by rw [ext_take]
    have x3 : (⟨l.toArray⟩ : ByteArray).extract 8 10 = ⟨(l.drop 8).toArray⟩ := by rw [ext_take, List.take_of_length_le (by omega)]
    have hn1 := numberOf_any (l.take 4) a1 (by omega)
    have hn2 := numberOf_any ((l.take 7).drop 5) a2 (by omega)
    have hn3 := numberOf_any (l.drop 8) a3 (by omega)
    have b1 := dec4 a1 l1
    have b2 := dec2 a2 l2
    have b3 := dec2 a3 l3
    rw [show decN (l.take 4) = pdy l from rfl] at hn1 b1
    rw [show decN ((l.take 7).drop 5) = pdm l from rfl] at hn2 b2
    rw [show decN (l.drop 8) = pdd l from rfl] at hn3 b3
    obtain ⟨P, HP⟩ : ∃ v, Hid (l.take 4 = v) := ⟨_, rfl⟩
    obtain ⟨Q, HQ⟩ : ∃ v, Hid ((l.take 7).drop 5 = v) := ⟨_, rfl⟩
    obtain ⟨R, HR⟩ : ∃ v, Hid (l.drop 8 = v) := ⟨_, rfl⟩
    rw [HP.out] at hn1 x1
    rw [HQ.out] at hn2 x2
    rw [HR.out] at hn3 x3
    have hid := fun w hT => isDate_any (pdy l : Int) (pdm l : Int) (pdd l : Int) (by omega) (by omega) w hT
    unfold dateV at hid
    obtain ⟨Y, HY⟩ : ∃ v, Hid (pdy l = v) := ⟨_, rfl⟩
    obtain ⟨M, HM⟩ : ∃ v, Hid (pdm l = v) := ⟨_, rfl⟩
    obtain ⟨D, HD⟩ : ∃ v, Hid (pdd l = v) := ⟨_, rfl⟩
    simp only [HY.out, HM.out, HD.out] at hrng hgood hid
    rw [HY.out] at hn1 b1
    rw [HM.out] at hn2 b2
    rw [HD.out] at hn3 b3
    clear hfc a1 a2 a3 l1 l2 l3 hsyn
    obtain ⟨Bd, HBd⟩ : ∃ v, Hid (dateB (Y : Int) (M : Int) (D : Int) = v) := ⟨_, rfl⟩
    simp only [HBd.out] at hrng hgood hid
    go_enter Tryd.func23, Tryd.ntmps23
    go_upto_region 3 with (first
      | (go_at_call 49; (with_reducible refine (hf _).mono ?_); rintro e w1 ⟨rfl, g1⟩; obtain ⟨c0, c1, c2⟩ := HBX.out.below g1 (by simp); obtain ⟨z0, z1, z2⟩ := HBF.out.below g1 (by simp); have HT1 := Lib.hid (HT0.out.below g1 (Nat.le_refl _)); have B1 := Lib.hid (ccall g1); have L1 := Lib.hid g1.size; clear g1)
      | fail)
    have lt1 : w.heap.size < w1.heap.size := by have := L1.out; simp at this; omega
    go_region_held3 (fun w' => True)
      (first | exact trivial)
      (first
      | (go_at_call 50; first
          | ((with_reducible refine (hn1 _).mono ?_); rintro e w2 ⟨rfl, T1, rfl⟩)
          | ((with_reducible refine (hn2 _).mono ?_); rintro e w3 ⟨rfl, T2, rfl⟩)
          | ((with_reducible refine (hn3 _).mono ?_); rintro e w4 ⟨rfl, T3, rfl⟩))
      | fail)
    · have hq := box_new (((w1.alloc T1).alloc T2).alloc T3) (Y : Int) (M : Int) (D : Int) 23
      simp only [World.size_alloc] at hq
      have HQ5 := Lib.hid hq.drew.drew.drew.drew
      clear hq
      cases Bd with
      | false =>
        go_wp2_with (first
          | (go_at_call 39; (with_reducible refine (hid _ (by repeat (first | exact HT1.out | apply MonT.drew' | apply MonT.box))).mono ?_); rintro e w5 ⟨rfl, g5⟩; have K5 : Below w1.heap.size w1 w5 := Below.trans (by repeat (first | exact Below.refl _ _ | apply Below.drew | refine Below.alloc ?_ (by simp <;> omega) _)) (g5.mono (by simp <;> omega)); obtain ⟨r0, r1, r2⟩ := (show BoxD w1 w.heap.size 0 0 0 from ⟨c0, c1, c2⟩).below K5 lt1; obtain ⟨y0, y1, y2⟩ := (show BoxF w1 w.heap.size from ⟨z0, z1, z2⟩).below K5 lt1; have B5 := Lib.hid (B1.out.trans (K5.mono B1.out.size)); obtain ⟨q0, q1, q2⟩ := HQ5.out.below g5 (by simp <;> omega); clear g5 K5)
          | fail)
        obtain ⟨p0, p1, p2⟩ := BoxD.store ⟨r0, r1, r2⟩ 0 0 0
        refine bodyPost_ret (v := .tuple #[.agg #[.int .i64 0, .int .i64 0, .int .i64 0], .int .i64 5]) (by simp [results, Tryd.results23, go_sem, p0, p1, p2]) rfl (hrng _ _ _ (by first | trivial | rfl) (by first | trivial | rfl) ⟨rfl, ?_⟩)
        exact stores3 B5.out _ _ _ _ (Nat.le_refl _)
      | true =>
        go_wp2_with (first
          | (go_at_call 39; (with_reducible refine (hid _ (by repeat (first | exact HT1.out | apply MonT.drew' | apply MonT.box))).mono ?_); rintro e w5 ⟨rfl, g5⟩; have K5 : Below w1.heap.size w1 w5 := Below.trans (by repeat (first | exact Below.refl _ _ | apply Below.drew | refine Below.alloc ?_ (by simp <;> omega) _)) (g5.mono (by simp <;> omega)); obtain ⟨r0, r1, r2⟩ := (show BoxD w1 w.heap.size 0 0 0 from ⟨c0, c1, c2⟩).below K5 lt1; obtain ⟨y0, y1, y2⟩ := (show BoxF w1 w.heap.size from ⟨z0, z1, z2⟩).below K5 lt1; have B5 := Lib.hid (B1.out.trans (K5.mono B1.out.size)); obtain ⟨q0, q1, q2⟩ := HQ5.out.below g5 (by simp <;> omega); clear g5 K5)
          | fail)
        obtain ⟨p0, p1, p2⟩ := BoxD.store ⟨r0, r1, r2⟩ Y M D
        refine bodyPost_ret (v := .tuple #[.agg #[.int .i64 Y, .int .i64 M, .int .i64 D], .int .i64 0]) (by simp [results, Tryd.results23, go_sem, p0, p1, p2]) rfl (hgood _ _ _ (by first | trivial | rfl) (by first | trivial | rfl) ⟨rfl, ?_⟩)
        exact stores3 B5.out _ _ _ _ (Nat.le_refl _)
    · have hq := box_new ((w1.alloc T1).alloc T2) (Y : Int) (M : Int) (D : Int) 23
      simp only [World.size_alloc] at hq
      have hq := hq.alloc (by simp <;> omega) T3
      have HQ5 := Lib.hid hq.drew.drew.drew.drew
      clear hq
      cases Bd with
      | false =>
        go_wp2_with (first
          | (go_at_call 39; (with_reducible refine (hid _ (by repeat (first | exact HT1.out | apply MonT.drew' | apply MonT.box))).mono ?_); rintro e w5 ⟨rfl, g5⟩; have K5 : Below w1.heap.size w1 w5 := Below.trans (by repeat (first | exact Below.refl _ _ | apply Below.drew | refine Below.alloc ?_ (by simp <;> omega) _)) (g5.mono (by simp <;> omega)); obtain ⟨r0, r1, r2⟩ := (show BoxD w1 w.heap.size 0 0 0 from ⟨c0, c1, c2⟩).below K5 lt1; obtain ⟨y0, y1, y2⟩ := (show BoxF w1 w.heap.size from ⟨z0, z1, z2⟩).below K5 lt1; have B5 := Lib.hid (B1.out.trans (K5.mono B1.out.size)); obtain ⟨q0, q1, q2⟩ := HQ5.out.below g5 (by simp <;> omega); clear g5 K5)
          | fail)
        obtain ⟨p0, p1, p2⟩ := BoxD.store ⟨r0, r1, r2⟩ 0 0 0
        refine bodyPost_ret (v := .tuple #[.agg #[.int .i64 0, .int .i64 0, .int .i64 0], .int .i64 5]) (by simp [results, Tryd.results23, go_sem, p0, p1, p2]) rfl (hrng _ _ _ (by first | trivial | rfl) (by first | trivial | rfl) ⟨rfl, ?_⟩)
        exact stores3 B5.out _ _ _ _ (Nat.le_refl _)
      | true =>
        go_wp2_with (first
          | (go_at_call 39; (with_reducible refine (hid _ (by repeat (first | exact HT1.out | apply MonT.drew' | apply MonT.box))).mono ?_); rintro e w5 ⟨rfl, g5⟩; have K5 : Below w1.heap.size w1 w5 := Below.trans (by repeat (first | exact Below.refl _ _ | apply Below.drew | refine Below.alloc ?_ (by simp <;> omega) _)) (g5.mono (by simp <;> omega)); obtain ⟨r0, r1, r2⟩ := (show BoxD w1 w.heap.size 0 0 0 from ⟨c0, c1, c2⟩).below K5 lt1; obtain ⟨y0, y1, y2⟩ := (show BoxF w1 w.heap.size from ⟨z0, z1, z2⟩).below K5 lt1; have B5 := Lib.hid (B1.out.trans (K5.mono B1.out.size)); obtain ⟨q0, q1, q2⟩ := HQ5.out.below g5 (by simp <;> omega); clear g5 K5)
          | fail)
        obtain ⟨p0, p1, p2⟩ := BoxD.store ⟨r0, r1, r2⟩ Y M D
        refine bodyPost_ret (v := .tuple #[.agg #[.int .i64 Y, .int .i64 M, .int .i64 D], .int .i64 0]) (by simp [results, Tryd.results23, go_sem, p0, p1, p2]) rfl (hgood _ _ _ (by first | trivial | rfl) (by first | trivial | rfl) ⟨rfl, ?_⟩)
        exact stores3 B5.out _ _ _ _ (Nat.le_refl _)
    · have hq := box_new (w1.alloc T1) (Y : Int) (M : Int) (D : Int) 23
      simp only [World.size_alloc] at hq
      have hq := hq.alloc (by simp <;> omega) T2
      have hq := hq.alloc (by simp <;> omega) T3
      have HQ5 := Lib.hid hq.drew.drew.drew.drew
      clear hq
      cases Bd with
      | false =>
        go_wp2_with (first
          | (go_at_call 39; (with_reducible refine (hid _ (by repeat (first | exact HT1.out | apply MonT.drew' | apply MonT.box))).mono ?_); rintro e w5 ⟨rfl, g5⟩; have K5 : Below w1.heap.size w1 w5 := Below.trans (by repeat (first | exact Below.refl _ _ | apply Below.drew | refine Below.alloc ?_ (by simp <;> omega) _)) (g5.mono (by simp <;> omega)); obtain ⟨r0, r1, r2⟩ := (show BoxD w1 w.heap.size 0 0 0 from ⟨c0, c1, c2⟩).below K5 lt1; obtain ⟨y0, y1, y2⟩ := (show BoxF w1 w.heap.size from ⟨z0, z1, z2⟩).below K5 lt1; have B5 := Lib.hid (B1.out.trans (K5.mono B1.out.size)); obtain ⟨q0, q1, q2⟩ := HQ5.out.below g5 (by simp <;> omega); clear g5 K5)
          | fail)
        obtain ⟨p0, p1, p2⟩ := BoxD.store ⟨r0, r1, r2⟩ 0 0 0
        refine bodyPost_ret (v := .tuple #[.agg #[.int .i64 0, .int .i64 0, .int .i64 0], .int .i64 5]) (by simp [results, Tryd.results23, go_sem, p0, p1, p2]) rfl (hrng _ _ _ (by first | trivial | rfl) (by first | trivial | rfl) ⟨rfl, ?_⟩)
        exact stores3 B5.out _ _ _ _ (Nat.le_refl _)
      | true =>
        go_wp2_with (first
          | (go_at_call 39; (with_reducible refine (hid _ (by repeat (first | exact HT1.out | apply MonT.drew' | apply MonT.box))).mono ?_); rintro e w5 ⟨rfl, g5⟩; have K5 : Below w1.heap.size w1 w5 := Below.trans (by repeat (first | exact Below.refl _ _ | apply Below.drew | refine Below.alloc ?_ (by simp <;> omega) _)) (g5.mono (by simp <;> omega)); obtain ⟨r0, r1, r2⟩ := (show BoxD w1 w.heap.size 0 0 0 from ⟨c0, c1, c2⟩).below K5 lt1; obtain ⟨y0, y1, y2⟩ := (show BoxF w1 w.heap.size from ⟨z0, z1, z2⟩).below K5 lt1; have B5 := Lib.hid (B1.out.trans (K5.mono B1.out.size)); obtain ⟨q0, q1, q2⟩ := HQ5.out.below g5 (by simp <;> omega); clear g5 K5)
          | fail)
        obtain ⟨p0, p1, p2⟩ := BoxD.store ⟨r0, r1, r2⟩ Y M D
        refine bodyPost_ret (v := .tuple #[.agg #[.int .i64 Y, .int .i64 M, .int .i64 D], .int .i64 0]) (by simp [results, Tryd.results23, go_sem, p0, p1, p2]) rfl (hgood _ _ _ (by first | trivial | rfl) (by first | trivial | rfl) ⟨rfl, ?_⟩)
        exact stores3 B5.out _ _ _ _ (Nat.le_refl _)
    · have hq := box_new w1 (Y : Int) (M : Int) (D : Int) 23
      have hq := hq.alloc (by simp <;> omega) T1
      have hq := hq.alloc (by simp <;> omega) T2
      have hq := hq.alloc (by simp <;> omega) T3
      have HQ5 := Lib.hid hq.drew.drew.drew.drew
      clear hq
      cases Bd with
      | false =>
        go_wp2_with (first
          | (go_at_call 39; (with_reducible refine (hid _ (by repeat (first | exact HT1.out | apply MonT.drew' | apply MonT.box))).mono ?_); rintro e w5 ⟨rfl, g5⟩; have K5 : Below w1.heap.size w1 w5 := Below.trans (by repeat (first | exact Below.refl _ _ | apply Below.drew | refine Below.alloc ?_ (by simp <;> omega) _)) (g5.mono (by simp <;> omega)); obtain ⟨r0, r1, r2⟩ := (show BoxD w1 w.heap.size 0 0 0 from ⟨c0, c1, c2⟩).below K5 lt1; obtain ⟨y0, y1, y2⟩ := (show BoxF w1 w.heap.size from ⟨z0, z1, z2⟩).below K5 lt1; have B5 := Lib.hid (B1.out.trans (K5.mono B1.out.size)); obtain ⟨q0, q1, q2⟩ := HQ5.out.below g5 (by simp <;> omega); clear g5 K5)
          | fail)
        obtain ⟨p0, p1, p2⟩ := BoxD.store ⟨r0, r1, r2⟩ 0 0 0
        refine bodyPost_ret (v := .tuple #[.agg #[.int .i64 0, .int .i64 0, .int .i64 0], .int .i64 5]) (by simp [results, Tryd.results23, go_sem, p0, p1, p2]) rfl (hrng _ _ _ (by first | trivial | rfl) (by first | trivial | rfl) ⟨rfl, ?_⟩)
        exact stores3 B5.out _ _ _ _ (Nat.le_refl _)
      | true =>
        go_wp2_with (first
          | (go_at_call 39; (with_reducible refine (hid _ (by repeat (first | exact HT1.out | apply MonT.drew' | apply MonT.box))).mono ?_); rintro e w5 ⟨rfl, g5⟩; have K5 : Below w1.heap.size w1 w5 := Below.trans (by repeat (first | exact Below.refl _ _ | apply Below.drew | refine Below.alloc ?_ (by simp <;> omega) _)) (g5.mono (by simp <;> omega)); obtain ⟨r0, r1, r2⟩ := (show BoxD w1 w.heap.size 0 0 0 from ⟨c0, c1, c2⟩).below K5 lt1; obtain ⟨y0, y1, y2⟩ := (show BoxF w1 w.heap.size from ⟨z0, z1, z2⟩).below K5 lt1; have B5 := Lib.hid (B1.out.trans (K5.mono B1.out.size)); obtain ⟨q0, q1, q2⟩ := HQ5.out.below g5 (by simp <;> omega); clear g5 K5)
          | fail)
        obtain ⟨p0, p1, p2⟩ := BoxD.store ⟨r0, r1, r2⟩ Y M D
        refine bodyPost_ret (v := .tuple #[.agg #[.int .i64 Y, .int .i64 M, .int .i64 D], .int .i64 0]) (by simp [results, Tryd.results23, go_sem, p0, p1, p2]) rfl (hgood _ _ _ (by first | trivial | rfl) (by first | trivial | rfl) ⟨rfl, ?_⟩)
        exact stores3 B5.out _ _ _ _ (Nat.le_refl _)
end Go.Proofs.YtpcagheghmbjfaaDoor

