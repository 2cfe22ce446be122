/-
  Calendar: reading dates, by the reference.
-/
import Derived.Test.YtpcagheghmbjfaaDoorCaV
set_option linter.unusedVariables false
set_option linter.unusedSimpArgs false
namespace Go.Proofs.YtpcagheghmbjfaaDoor
open Go.RowKit

set_option maxHeartbeats 4000000 in
set_option maxRecDepth 100000 in
theorem rparseDate_any (l : List UInt8) (hl : l.length ≤ 9223372036854775807) (w : World) : Calls Tryd.prog 24 #[.string ⟨l.toArray⟩] w (RetPD w l) := by
  have hfc := @form_date l
  have hcf := @date_form l
  have hrng := fun w w' en => @RetPD.rng w w' l en
  have hgood := fun w w' en => @RetPD.good w w' l en
  obtain ⟨B, HB⟩ : ∃ v, Hid (formB l dateF = v) := ⟨_, rfl⟩
  rw [HB.out] at hfc hcf
  simp only [HB.out] at hrng hgood
  have hsz := bsize l
  obtain ⟨L, HL⟩ : ∃ v, Hid (l.length = v) := ⟨_, rfl⟩
  rw [HL.out] at hsz hl hfc hcf
  by_cases hL : L = 10
  · subst hL
    have hg4 := bget (l := l) (k := 4) (by rw [HL.out]; omega)
    have hg7 := bget (l := l) (k := 7) (by rw [HL.out]; omega)
    obtain ⟨c, HC⟩ : ∃ v, Hid ((bAt l 4).toNat = v) := ⟨_, rfl⟩
    obtain ⟨d, HD4⟩ : ∃ v, Hid ((bAt l 7).toNat = v) := ⟨_, rfl⟩
    have hgc : ∀ h, ((⟨l.toArray⟩ : ByteArray)[4]'h).toNat = c := fun h => by rw [hg4 h]; exact HC.out
    have hgd : ∀ h, ((⟨l.toArray⟩ : ByteArray)[7]'h).toNat = d := fun h => by rw [hg7 h]; exact HD4.out
    rw [HC.out, HD4.out] at hfc hcf
    clear hg4 hg7
    by_cases h45 : c = 45
    · subst h45
      by_cases h45' : d = 45
      · subst h45'
        have hn1 := fun w => rDigits_any (l.take 4) (by rw [List.length_take]; omega) 4 4 (by omega) (by omega) w
        have hn2 := fun w => rDigits_any ((l.take 7).drop 5) (by rw [List.length_drop, List.length_take]; omega) 2 2 (by omega) (by omega) w
        have hn3 := fun w => rDigits_any (l.drop 8) (by rw [List.length_drop, HL.out]; omega) 2 2 (by omega) (by omega) w
        simp only [Int.cast_ofNat_Int] at hn1 hn2 hn3
        unfold RetD at hn1 hn2 hn3
        have l1 : (l.take 4).length = 4 := by rw [List.length_take, HL.out]; rfl
        have l2 : ((l.take 7).drop 5).length = 2 := by rw [List.length_drop, List.length_take, HL.out]; rfl
        have l3 : (l.drop 8).length = 2 := by rw [List.length_drop, HL.out]
        rw [dig_of l1] at hn1
        rw [dig_of l2] at hn2
        rw [dig_of l3] at hn3
        have v1 := @digv_of (l.take 4) 4 l1
        have v2 := @digv_of ((l.take 7).drop 5) 2 l2
        have v3 := @digv_of (l.drop 8) 2 l3
        have b1 := fun h => @dec4 (l.take 4) h l1
        have b2 := fun h => @dec2 ((l.take 7).drop 5) h l2
        have b3 := fun h => @dec2 (l.drop 8) h l3
        have x1 : (⟨l.toArray⟩ : ByteArray).extract 0 4 = ⟨(l.take 4).toArray⟩ := by rw [ext_take, List.drop_zero]
        have x2 : (⟨l.toArray⟩ : ByteArray).extract 5 7 = ⟨((l.take 7).drop 5).toArray⟩ := by rw [ext_take]
        have x3 : (⟨l.toArray⟩ : ByteArray).extract 8 10 = ⟨(l.drop 8).toArray⟩ := by rw [ext_take, List.take_of_length_le (by rw [HL.out]; omega)]
        have hfc1 := fun h => (hfc h).2.2.2.1
        have hfc2 := fun h => (hfc h).2.2.2.2.1
        have hfc3 := fun h => (hfc h).2.2.2.2.2
        have hcf1 := hcf rfl rfl rfl
        clear hfc hcf
        rw [show decN (l.take 4) = pdy l from rfl] at v1 b1
        rw [show decN ((l.take 7).drop 5) = pdm l from rfl] at v2 b2
        rw [show decN (l.drop 8) = pdd l from rfl] at v3 b3
        obtain ⟨P, HP⟩ : ∃ v, Hid (l.take 4 = v) := ⟨_, rfl⟩
        obtain ⟨Q, HQ⟩ : ∃ v, Hid ((l.take 7).drop 5 = v) := ⟨_, rfl⟩
        obtain ⟨R, HR⟩ : ∃ v, Hid (l.drop 8 = v) := ⟨_, rfl⟩
        rw [HP.out] at hn1 x1 v1 b1 hfc1 hcf1
        rw [HQ.out] at hn2 x2 v2 b2 hfc2 hcf1
        rw [HR.out] at hn3 x3 v3 b3 hfc3 hcf1
        obtain ⟨a1, A1⟩ : ∃ v, Hid (P.all dgOk = v) := ⟨_, rfl⟩
        obtain ⟨a2, A2⟩ : ∃ v, Hid (Q.all dgOk = v) := ⟨_, rfl⟩
        obtain ⟨a3, A3⟩ : ∃ v, Hid (R.all dgOk = v) := ⟨_, rfl⟩
        rw [A1.out] at hn1 v1 b1 hfc1 hcf1
        rw [A2.out] at hn2 v2 b2 hfc2 hcf1
        rw [A3.out] at hn3 v3 b3 hfc3 hcf1
        obtain ⟨Z1, HZ1⟩ : ∃ v, Hid (digV P 4 4 = v) := ⟨_, rfl⟩
        obtain ⟨Z2, HZ2⟩ : ∃ v, Hid (digV Q 2 2 = v) := ⟨_, rfl⟩
        obtain ⟨Z3, HZ3⟩ : ∃ v, Hid (digV R 2 2 = v) := ⟨_, rfl⟩
        rw [HZ1.out] at hn1 v1
        rw [HZ2.out] at hn2 v2
        rw [HZ3.out] at hn3 v3
        clear l1 l2 l3
        cases a1 with
        | false =>
          obtain rfl : B = false := by
            cases B with
            | false => rfl
            | true => exact (hfc1 rfl).symm
          clear v1 v2 v3 b1 b2 b3 hfc1 hfc2 hfc3 hcf1 hrng hgood
          go_enter Tryd.func24, Tryd.ntmps24
          go_wp2_with (first
            | (go_at_call 51; first
                | ((with_reducible refine (hn1 _).mono ?_); rintro e w2 ⟨rfl, rfl⟩)
                | ((with_reducible refine (hn2 _).mono ?_); rintro e w3 ⟨rfl, rfl⟩)
                | ((with_reducible refine (hn3 _).mono ?_); rintro e w4 ⟨rfl, rfl⟩))
            | fail)
          obtain ⟨p0, p1, p2⟩ := BoxD.store (box_new w 0 0 0 23) 0 0 0
          refine bodyPost_ret (v := .tuple #[.agg #[.int .i64 0, .int .i64 0, .int .i64 0], .int .i64 1]) (by first | simp [results, Tryd.results24, go_sem] | simp [results, Tryd.results24, go_sem, p0, p1, p2]) rfl (RetPD.syn HB.out ⟨rfl, ?_⟩)
          first
          | exact stores3 (cnew w _) _ _ _ _ (Nat.le_refl _)
          | exact cnew w _
        | true =>
          cases a2 with
          | false =>
            obtain rfl : B = false := by
              cases B with
              | false => rfl
              | true => exact (hfc2 rfl).symm
            clear v1 v2 v3 b1 b2 b3 hfc1 hfc2 hfc3 hcf1 hrng hgood
            go_enter Tryd.func24, Tryd.ntmps24
            go_wp2_with (first
              | (go_at_call 51; first
                  | ((with_reducible refine (hn1 _).mono ?_); rintro e w2 ⟨rfl, rfl⟩)
                  | ((with_reducible refine (hn2 _).mono ?_); rintro e w3 ⟨rfl, rfl⟩)
                  | ((with_reducible refine (hn3 _).mono ?_); rintro e w4 ⟨rfl, rfl⟩))
              | fail)
            obtain ⟨p0, p1, p2⟩ := BoxD.store (box_new w 0 0 0 23) 0 0 0
            refine bodyPost_ret (v := .tuple #[.agg #[.int .i64 0, .int .i64 0, .int .i64 0], .int .i64 1]) (by first | simp [results, Tryd.results24, go_sem] | simp [results, Tryd.results24, go_sem, p0, p1, p2]) rfl (RetPD.syn HB.out ⟨rfl, ?_⟩)
            first
            | exact stores3 (cnew w _) _ _ _ _ (Nat.le_refl _)
            | exact cnew w _
          | true =>
            cases a3 with
            | false =>
              obtain rfl : B = false := by
                cases B with
                | false => rfl
                | true => exact (hfc3 rfl).symm
              clear v1 v2 v3 b1 b2 b3 hfc1 hfc2 hfc3 hcf1 hrng hgood
              go_enter Tryd.func24, Tryd.ntmps24
              go_wp2_with (first
                | (go_at_call 51; first
                    | ((with_reducible refine (hn1 _).mono ?_); rintro e w2 ⟨rfl, rfl⟩)
                    | ((with_reducible refine (hn2 _).mono ?_); rintro e w3 ⟨rfl, rfl⟩)
                    | ((with_reducible refine (hn3 _).mono ?_); rintro e w4 ⟨rfl, rfl⟩))
                | fail)
              obtain ⟨p0, p1, p2⟩ := BoxD.store (box_new w 0 0 0 23) 0 0 0
              refine bodyPost_ret (v := .tuple #[.agg #[.int .i64 0, .int .i64 0, .int .i64 0], .int .i64 1]) (by first | simp [results, Tryd.results24, go_sem] | simp [results, Tryd.results24, go_sem, p0, p1, p2]) rfl (RetPD.syn HB.out ⟨rfl, ?_⟩)
              first
              | exact stores3 (cnew w _) _ _ _ _ (Nat.le_refl _)
              | exact cnew w _
            | true =>
              obtain rfl : B = true := hcf1 rfl rfl rfl
              obtain rfl := v1 rfl
              obtain rfl := v2 rfl
              obtain rfl := v3 rfl
              have b1' := b1 rfl
              have b2' := b2 rfl
              have b3' := b3 rfl
              have hid := risDate_any (pdy l : Int) (pdm l : Int) (pdd l : Int)
              unfold dateV at hid
              obtain ⟨Y, HY⟩ : ∃ v, Hid (pdy l = v) := ⟨_, rfl⟩
              obtain ⟨M, HM⟩ : ∃ v, Hid (pdm l = v) := ⟨_, rfl⟩
              obtain ⟨D, HD⟩ : ∃ v, Hid (pdd l = v) := ⟨_, rfl⟩
              simp only [HY.out, HM.out, HD.out] at hrng hgood hid hn1 hn2 hn3 b1' b2' b3'
              clear v1 v2 v3 b1 b2 b3 hfc1 hfc2 hfc3 hcf1
              obtain ⟨Bd, HBd⟩ : ∃ v, Hid (dateB (Y : Int) (M : Int) (D : Int) = v) := ⟨_, rfl⟩
              simp only [HBd.out] at hrng hgood hid
              cases Bd with
              | false =>
                have HX : Hid (BoxD ((w.alloc (.cells #[Value.int IntKind.i64 0, Value.int IntKind.i64 0, Value.int IntKind.i64 0] 23)).alloc (.cells #[Value.int IntKind.i64 ↑Y, Value.int IntKind.i64 ↑M, Value.int IntKind.i64 ↑D] 23)) (w.heap.size + 1) Y M D) := by
                  have h := box_new (w.alloc (.cells #[Value.int IntKind.i64 0, Value.int IntKind.i64 0, Value.int IntKind.i64 0] 23)) (Y : Int) (M : Int) (D : Int) 23
                  rw [World.size_alloc] at h
                  exact h
                have HRX := Lib.hid ((box_new w 0 0 0 23).alloc (by simp) (.cells #[Value.int IntKind.i64 ↑Y, Value.int IntKind.i64 ↑M, Value.int IntKind.i64 ↑D] 23))
                have HRF := Lib.hid ((boxF_new w 0 0 0 23).below (cnew (w.alloc (.cells #[Value.int IntKind.i64 0, Value.int IntKind.i64 0, Value.int IntKind.i64 0] 23)) (.cells #[Value.int IntKind.i64 ↑Y, Value.int IntKind.i64 ↑M, Value.int IntKind.i64 ↑D] 23)) (by simp))
                have HB0 := Lib.hid ((cnew w (.cells #[Value.int IntKind.i64 0, Value.int IntKind.i64 0, Value.int IntKind.i64 0] 23)).alloc (by simp) (.cells #[Value.int IntKind.i64 ↑Y, Value.int IntKind.i64 ↑M, Value.int IntKind.i64 ↑D] 23))
                go_enter Tryd.func24, Tryd.ntmps24
                go_wp2_with (first
                  | (go_at_call 51; first
                      | ((with_reducible refine (hn1 _).mono ?_); rintro e w2 ⟨rfl, rfl⟩)
                      | ((with_reducible refine (hn2 _).mono ?_); rintro e w3 ⟨rfl, rfl⟩)
                      | ((with_reducible refine (hn3 _).mono ?_); rintro e w4 ⟨rfl, rfl⟩))
                  | (go_at_call 41; (with_reducible refine (hid _).mono ?_); rintro e w5 ⟨rfl, g5⟩; obtain ⟨q0, q1, q2⟩ := HX.out.below g5 (by simp <;> omega); obtain ⟨r0, r1, r2⟩ := HRX.out.below g5 (by simp <;> omega); obtain ⟨y0, y1, y2⟩ := HRF.out.below g5 (by simp <;> omega); have B5 := Lib.hid (HB0.out.trans (g5.mono (by simp <;> omega))); clear g5)
                  | fail)
                obtain ⟨p0, p1, p2⟩ := BoxD.store ⟨r0, r1, r2⟩ 0 0 0
                refine bodyPost_ret (v := .tuple #[.agg #[.int .i64 0, .int .i64 0, .int .i64 0], .int .i64 5]) (by simp [results, Tryd.results24, go_sem, p0, p1, p2]) rfl (hrng _ _ _ (by first | trivial | rfl) (by first | trivial | rfl) ⟨rfl, ?_⟩)
                exact stores3 B5.out _ _ _ _ (Nat.le_refl _)
              | true =>
                have HX : Hid (BoxD ((w.alloc (.cells #[Value.int IntKind.i64 0, Value.int IntKind.i64 0, Value.int IntKind.i64 0] 23)).alloc (.cells #[Value.int IntKind.i64 ↑Y, Value.int IntKind.i64 ↑M, Value.int IntKind.i64 ↑D] 23)) (w.heap.size + 1) Y M D) := by
                  have h := box_new (w.alloc (.cells #[Value.int IntKind.i64 0, Value.int IntKind.i64 0, Value.int IntKind.i64 0] 23)) (Y : Int) (M : Int) (D : Int) 23
                  rw [World.size_alloc] at h
                  exact h
                have HRX := Lib.hid ((box_new w 0 0 0 23).alloc (by simp) (.cells #[Value.int IntKind.i64 ↑Y, Value.int IntKind.i64 ↑M, Value.int IntKind.i64 ↑D] 23))
                have HRF := Lib.hid ((boxF_new w 0 0 0 23).below (cnew (w.alloc (.cells #[Value.int IntKind.i64 0, Value.int IntKind.i64 0, Value.int IntKind.i64 0] 23)) (.cells #[Value.int IntKind.i64 ↑Y, Value.int IntKind.i64 ↑M, Value.int IntKind.i64 ↑D] 23)) (by simp))
                have HB0 := Lib.hid ((cnew w (.cells #[Value.int IntKind.i64 0, Value.int IntKind.i64 0, Value.int IntKind.i64 0] 23)).alloc (by simp) (.cells #[Value.int IntKind.i64 ↑Y, Value.int IntKind.i64 ↑M, Value.int IntKind.i64 ↑D] 23))
                go_enter Tryd.func24, Tryd.ntmps24
                go_wp2_with (first
                  | (go_at_call 51; first
                      | ((with_reducible refine (hn1 _).mono ?_); rintro e w2 ⟨rfl, rfl⟩)
                      | ((with_reducible refine (hn2 _).mono ?_); rintro e w3 ⟨rfl, rfl⟩)
                      | ((with_reducible refine (hn3 _).mono ?_); rintro e w4 ⟨rfl, rfl⟩))
                  | (go_at_call 41; (with_reducible refine (hid _).mono ?_); rintro e w5 ⟨rfl, g5⟩; obtain ⟨q0, q1, q2⟩ := HX.out.below g5 (by simp <;> omega); obtain ⟨r0, r1, r2⟩ := HRX.out.below g5 (by simp <;> omega); obtain ⟨y0, y1, y2⟩ := HRF.out.below g5 (by simp <;> omega); have B5 := Lib.hid (HB0.out.trans (g5.mono (by simp <;> omega))); clear g5)
                  | fail)
                obtain ⟨p0, p1, p2⟩ := BoxD.store ⟨r0, r1, r2⟩ Y M D
                refine bodyPost_ret (v := .tuple #[.agg #[.int .i64 Y, .int .i64 M, .int .i64 D], .int .i64 0]) (by simp [results, Tryd.results24, go_sem, p0, p1, p2]) rfl (hgood _ _ _ (by first | trivial | rfl) (by first | trivial | rfl) ⟨rfl, ?_⟩)
                exact stores3 B5.out _ _ _ _ (Nat.le_refl _)
      · have e4 : ((d : Int) == 45) = false := by simp; omega
        have e5 : ((d : Int) != 45) = true := by rw [bne, e4]; rfl
        have e6 : ¬ (d : Int) = 45 := by omega
        obtain rfl : B = false := by
          cases B with
          | false => rfl
          | true => exact absurd (hfc rfl).2.2.1 h45'
        clear hfc hcf hrng hgood
        go_enter Tryd.func24, Tryd.ntmps24
        go_wp2_with (first
          | fail)
        obtain ⟨p0, p1, p2⟩ := BoxD.store (box_new w 0 0 0 23) 0 0 0
        refine bodyPost_ret (v := .tuple #[.agg #[.int .i64 0, .int .i64 0, .int .i64 0], .int .i64 1]) (by first | simp [results, Tryd.results24, go_sem] | simp [results, Tryd.results24, go_sem, p0, p1, p2]) rfl (RetPD.syn HB.out ⟨rfl, ?_⟩)
        first
        | exact stores3 (cnew w _) _ _ _ _ (Nat.le_refl _)
        | exact cnew w _
    · have e4 : ((c : Int) == 45) = false := by simp; omega
      have e5 : ((c : Int) != 45) = true := by rw [bne, e4]; rfl
      have e6 : ¬ (c : Int) = 45 := by omega
      obtain rfl : B = false := by
        cases B with
        | false => rfl
        | true => exact absurd (hfc rfl).2.1 h45
      clear hfc hcf hrng hgood
      go_enter Tryd.func24, Tryd.ntmps24
      go_wp2_with (first
        | fail)
      obtain ⟨p0, p1, p2⟩ := BoxD.store (box_new w 0 0 0 23) 0 0 0
      refine bodyPost_ret (v := .tuple #[.agg #[.int .i64 0, .int .i64 0, .int .i64 0], .int .i64 1]) (by first | simp [results, Tryd.results24, go_sem] | simp [results, Tryd.results24, go_sem, p0, p1, p2]) rfl (RetPD.syn HB.out ⟨rfl, ?_⟩)
      first
      | exact stores3 (cnew w _) _ _ _ _ (Nat.le_refl _)
      | exact cnew w _
  · have e4 : ((L : Int) == 10) = false := by simp; omega
    have e5 : ((L : Int) != 10) = true := by rw [bne, e4]; rfl
    have e6 : ¬ (L : Int) = 10 := by omega
    obtain rfl : B = false := by
      cases B with
      | false => rfl
      | true => exact absurd (hfc rfl).1 hL
    clear hfc hcf hrng hgood
    go_enter Tryd.func24, Tryd.ntmps24
    go_wp2_with (first
      | fail)
    obtain ⟨p0, p1, p2⟩ := BoxD.store (box_new w 0 0 0 23) 0 0 0
    refine bodyPost_ret (v := .tuple #[.agg #[.int .i64 0, .int .i64 0, .int .i64 0], .int .i64 1]) (by first | simp [results, Tryd.results24, go_sem] | simp [results, Tryd.results24, go_sem, p0, p1, p2]) rfl (RetPD.syn HB.out ⟨rfl, ?_⟩)
    first
    | exact stores3 (cnew w _) _ _ _ _ (Nat.le_refl _)
    | exact cnew w _
end Go.Proofs.YtpcagheghmbjfaaDoor

