/-
  Texts of fractions: the reference's FormatFrac.
-/
import Derived.Test.YtekoeohkkabkdaaGreatTeB
set_option linter.unusedVariables false
set_option linter.unusedSimpArgs false
set_option warningAsError false
namespace Go.Proofs.YtekoeohkkabkdaaGreat
open Go.RowKit

set_option maxHeartbeats 8000000 in
set_option maxRecDepth 100000 in
theorem rqformat_at {w : World} {s1 s2 : Bool} {A1 A2 : Option Addr} {n1 c1 n2 c2 : Nat} {a b : Int} (h1 : IntAt w s1 A1 n1 c1 a) (h2 : IntAt w s2 A2 n2 c2 b) (za : Sz a 1900) (zb : Sz b 1900) :
    Calls Tryz.prog 9 #[.agg #[.bool s1, .slice A1 n1 c1, .bool s2, .slice A2 n2 c2]] w (RetS w (fmtQ (rn a b) (rd a b))) := by
  have H0 := ((St.start w).addI h1).addI h2 |>.new 26 (Plains.four s1 A1 n1 c1 s2 A2 n2 c2)
  (try simp only [World.size_alloc] at H0)
  have HH := Lib.hid H0
  clear H0 h1 h2
  have zx : Sz (rn a b) 1900 := sz_rn za
  have zy : Sz (rd a b) 1901 := sz_rd zb (by decide)
  have za2 : Sz a 2000 := za.mono (by decide)
  have zb2 : Sz b 2000 := zb.mono (by decide)
  obtain ⟨x, HX⟩ : ∃ v, Hid (rn a b = v) := ⟨_, rfl⟩
  obtain ⟨y, HY⟩ : ∃ v, Hid (rd a b = v) := ⟨_, rfl⟩
  rw [HX.out] at zx
  rw [HY.out] at zy
  have kx := zx.ok
  have ky := zy.ok
  have lx := zx.len2
  have ly := zy.len2
  have dxl : (decZ x).length ≤ 100000 := decZ_szl zx (by decide)
  have dyl : (decZ y).length ≤ 100000 := decZ_szl zy (by decide)
  rw [HX.out, HY.out]
  have hc1 : y = 1 → fmtQ x y = decZ x := fun h => by unfold fmtQ; rw [if_pos h]
  have hc2 : ¬ y = 1 → fmtQ x y = (decZ x ++ [47]) ++ decZ y := fun h => by unfold fmtQ; rw [if_neg h]
  have hd1 : y = 1 → decZ y = [49] := fun h => by rw [h, decZ_1]
  have hd2 : ¬ y = 1 → (decZ y == [49]) = false := fun h => by
    rw [beq_eq_false_iff_ne]
    exact fun e => h (decZ_one e)
  obtain ⟨F, HF⟩ : ∃ v, Hid (fmtQ x y = v) := ⟨_, rfl⟩
  obtain ⟨N, HN⟩ : ∃ v, Hid (decZ x = v) := ⟨_, rfl⟩
  obtain ⟨D, HD⟩ : ∃ v, Hid (decZ y = v) := ⟨_, rfl⟩
  rw [HF.out, HN.out] at hc1
  rw [HF.out, HN.out, HD.out] at hc2
  rw [HD.out] at hd1 hd2 dyl
  rw [HN.out] at dxl
  rw [HF.out]
  have hcat1 : (⟨N.toArray⟩ : ByteArray) ++ ⟨#[47]⟩ = ⟨(N ++ [47]).toArray⟩ := by
    rw [show (⟨#[47]⟩ : ByteArray) = ⟨([47] : List UInt8).toArray⟩ from rfl, str_app]
  have hml : (N ++ [47]).length = N.length + 1 := by simp
  obtain ⟨M, HM⟩ : ∃ v : List UInt8, Hid (N ++ ([47] : List UInt8) = v) := ⟨_, rfl⟩
  rw [HM.out] at hcat1 hml hc2
  have hcat2 := str_app M D
  have s1_ := str_size N
  have s2_ := str_size M
  have s3_ := str_size D
  have b1 : ¬ 9223372036854775807 < N.length + 1 := by omega
  have b2 : ¬ 9223372036854775807 < M.length + D.length := by omega
  have HC1 := Lib.hid hc1
  have HC2 := Lib.hid hc2
  have HD1 := Lib.hid hd1
  have HD2 := Lib.hid hd2
  clear hc1 hc2 hd1 hd2
  go_enter Tryz.func9, Tryz.ntmps9
  go_upto_region 2 with (first
    | (go_at_call 11; have K := HH.out; clear HH; have i1 := K.ints.2.1.i; have i2 := K.ints.1.i; (with_reducible refine (reduce_at i1 i2 za zb).mono ?_); rw [HX.out, HY.out]; rintro e wa ⟨B1, m1, k1, B2, m2, k2, rfl, d1, d2, ga⟩; have Ka := ((K.call ga).add d2).add d1; obtain ⟨⟨p0, p1, p2, p3⟩, _⟩ := Ka.facts; obtain ⟨f0, f1, f2, f3⟩ := Ka.free (i := 0) rfl)
    | fail)
  have Kp := Ka.put4 0 rfl (decide (x < 0)) B1 m1 k1 (decide (y < 0)) B2 m2 k2
  simp only [List.set] at Kp
  clear K Ka i1 i2 p0 p1 p2 p3 f0 f1 f2 f3 d1 d2 ga
  generalize ((((wa.setCell ⟨w.heap.size, 0, none⟩ (.bool (decide (x < 0)))).setCell ⟨w.heap.size, 1, none⟩ (.slice B1 m1 k1)).setCell ⟨w.heap.size, 2, none⟩ (.bool (decide (y < 0)))).setCell ⟨w.heap.size, 3, none⟩ (.slice B2 m2 k2)) = W4 at Kp ⊢
  have Kd := Kp.drew
  clear Kp
  obtain ⟨⟨p0, p1, p2, p3⟩, _⟩ := Kd.facts
  have mx : m1 ≤ 100000 := by have := Kd.ints.1.c.2.1.len; omega
  have my : m2 ≤ 100000 := by have := Kd.ints.2.1.c.2.1.len; omega
  have ix := Kd.ints.1.ci kx
  have iy := Kd.ints.2.1.ci ky
  go_region_held3 (fun w' => w'.cell? ⟨w.heap.size, 0, none⟩ = some (.bool (decide (x < 0))) ∧ w'.cell? ⟨w.heap.size, 1, none⟩ = some (.slice B1 m1 k1) ∧ w'.cell? ⟨w.heap.size, 2, none⟩ = some (.bool (decide (y < 0))) ∧ w'.cell? ⟨w.heap.size, 3, none⟩ = some (.slice B2 m2 k2))
    (go_keep)
    (first
      | (go_at_call 32; (with_reducible refine (rone_any _).mono ?_); rintro e w3 ⟨A3, n3, c3, rfl, d3, u3, v3, g3⟩; have Kd := (Kd.call g3).add (show CanAt w3 false A3 n3 c3 1 from CanAt.mk_ d3 u3 v3); clear p0 p1 p2 p3; obtain ⟨⟨p0, p1, p2, p3⟩, _⟩ := Kd.facts; have jy := Kd.ints.2.2.1.c; have j1 := Kd.ints.1.c)
      | (go_at_call 31; (with_reducible refine (sameOne jy j1).mono ?_); rintro e w4 ⟨rfl, g4⟩; have Kd := Kd.call g4; clear p0 p1 p2 p3; obtain ⟨⟨p0, p1, p2, p3⟩, _⟩ := Kd.facts)
      | fail)
  all_goals (replace ix := Kd.ints.2.1.ci kx; replace iy := Kd.ints.2.2.1.ci ky; clear jy j1)
  all_goals (by_cases hy : y = 1)
  all_goals first
    | (have hF := HC1.out hy
       have hD : decide (y = 1) = true := decide_eq_true hy
       clear HC1 HC2 HD1 HD2
       rw [hF]
       go_wp2_with (first
        | (go_at_call_of 33 (Value.agg #[Value.bool (decide (x < 0)), Value.slice B1 m1 k1]); (with_reducible refine (rformat_at2 ix mx).mono ?_); rw [HN.out]; rintro e wb ⟨rfl, gwb⟩; have Kd := Kd.call gwb; clear p0 p1 p2 p3; obtain ⟨⟨p0, p1, p2, p3⟩, _⟩ := Kd.facts; replace ix := Kd.ints.2.1.ci kx; replace iy := Kd.ints.2.2.1.ci ky)
        | fail)
       go_ret
       exact ⟨by first | rfl | (rw [hF]; rfl), Kd.below⟩)
    | (have hF := HC2.out hy
       have hD : decide (y = 1) = false := decide_eq_false hy
       clear HC1 HC2 HD1 HD2
       rw [hF]
       go_upto_region 4 with fail
       have Kd := Kd.drew
       clear p0 p1 p2 p3
       obtain ⟨⟨p0, p1, p2, p3⟩, _⟩ := Kd.facts
       replace ix := Kd.ints.2.1.ci kx
       replace iy := Kd.ints.2.2.1.ci ky
       go_region_held3 (fun w' => w'.cell? ⟨w.heap.size, 0, none⟩ = some (.bool (decide (x < 0))) ∧ w'.cell? ⟨w.heap.size, 1, none⟩ = some (.slice B1 m1 k1) ∧ w'.cell? ⟨w.heap.size, 2, none⟩ = some (.bool (decide (y < 0))) ∧ w'.cell? ⟨w.heap.size, 3, none⟩ = some (.slice B2 m2 k2))
         (go_keep)
         (first
        | (go_at_call_of 33 (Value.agg #[Value.bool (decide (x < 0)), Value.slice B1 m1 k1]); (with_reducible refine (rformat_at2 ix mx).mono ?_); rw [HN.out]; rintro e wb ⟨rfl, gwb⟩; have Kd := Kd.call gwb; clear p0 p1 p2 p3; obtain ⟨⟨p0, p1, p2, p3⟩, _⟩ := Kd.facts; replace ix := Kd.ints.2.1.ci kx; replace iy := Kd.ints.2.2.1.ci ky)
        | (go_at_call_of 33 (Value.agg #[Value.bool (decide (y < 0)), Value.slice B2 m2 k2]); (with_reducible refine (rformat_at2 iy my).mono ?_); rw [HD.out]; rintro e wc ⟨rfl, gwc⟩; have Kd := Kd.call gwc; clear p0 p1 p2 p3; obtain ⟨⟨p0, p1, p2, p3⟩, _⟩ := Kd.facts; replace ix := Kd.ints.2.1.ci kx; replace iy := Kd.ints.2.2.1.ci ky)
        | fail)
       all_goals (go_wp2_with fail)
       all_goals go_ret
       all_goals exact ⟨by first | rfl | (rw [hF]; rfl), Kd.below⟩)
end Go.Proofs.YtekoeohkkabkdaaGreat

