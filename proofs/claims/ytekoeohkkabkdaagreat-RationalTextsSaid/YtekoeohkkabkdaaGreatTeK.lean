/-
  The law RationalTexts walked: what Format writes Parse reads; Parse agrees with the reference's.
-/
import Derived.Test.YtekoeohkkabkdaaGreatTeJ
import Derived.Test.YtekoeohkkabkdaaGreatTeC
import Derived.Test.YtekoeohkkabkdaaGreatLightA
import Derived.Test.YtekoeohkkabkdaaGreatParA
set_option linter.unusedVariables false
set_option linter.unusedSimpArgs false
set_option warningAsError false
namespace Go.Proofs.YtekoeohkkabkdaaGreat
open Go.RowKit

theorem decs_byte {v k : Nat} (h : k < (decs v).length) : 48 ≤ (byteAt (decs v) k).toNat ∧ (byteAt (decs v) k).toNat ≤ 57 := allD_at (decs_ok v).2.1 h
theorem decZ_byte {x : Int} {k : Nat} (h : k < (decZ x).length) : (byteAt (decZ x) k).toNat = 45 ∨ (48 ≤ (byteAt (decZ x) k).toNat ∧ (byteAt (decZ x) k).toNat ≤ 57) := by
  unfold decZ at h ⊢
  split at h
  · rename_i hx
    rw [if_pos hx]
    cases k with
    | zero => exact .inl rfl
    | succ k =>
      have e : byteAt (45 :: decs x.natAbs) (k + 1) = byteAt (decs x.natAbs) k := rfl
      rw [e]
      exact .inr (decs_byte (by simpa using h))
  · rename_i hx
    rw [if_neg hx]
    exact .inr (decs_byte h)
theorem fx_decZ (x : Int) : fx (decZ x) 47 = -1 ∧ fx (decZ x) 46 = -1 := by
  refine ⟨fx_none fun k hk => ?_, fx_none fun k hk => ?_⟩
  · have := decZ_byte hk
    have e : (47 : UInt8).toNat = 47 := rfl
    omega
  · have := decZ_byte hk
    have e : (46 : UInt8).toNat = 46 := rfl
    omega
theorem byte_app {l m : List UInt8} {k : Nat} (h : k < l.length) : byteAt (l ++ m) k = byteAt l k := by
  unfold byteAt
  simp [List.getD, List.getElem?_append_left h]
theorem fx_cut (x : Int) (m : List UInt8) : fx ((decZ x ++ [47]) ++ m) 47 = ((decZ x).length : Int) := by
  refine fx_is (decZ x).length (by simp) ?_ (fun k hk => ?_)
  · unfold byteAt
    simp [List.getD, List.append_assoc]
  · rw [List.append_assoc, byte_app hk]
    have := decZ_byte hk
    have e : (47 : UInt8).toNat = 47 := rfl
    omega
/-- What Format writes Parse reads. -/
theorem fmt_back {x y : Int} (hy : 0 < y) (hr : rn x y = x ∧ rd x y = y) (hl : (fmtQ x y).length ≤ 400) : pfN (fmtQ x y) = x ∧ pfD (fmtQ x y) = y ∧ pfE (fmtQ x y) = 0 := by
  unfold fmtQ at hl ⊢
  by_cases h1 : y = 1
  · rw [if_pos h1] at hl ⊢
    obtain ⟨f7, f6⟩ := fx_decZ x
    have c7 : ¬ ctF47 (decZ x) = true := by unfold ctF47; rw [f7]; decide
    have c6 : ¬ ctF46 (decZ x) = true := by unfold ctF46; rw [f6]; decide
    have he : parE (decZ x) = 0 := by rw [parE_decZ, if_neg (by omega)]
    have hz : parZ (decZ x) = x := by rw [parZ_decZ, if_neg (by omega)]
    refine ⟨?_, ?_, ?_⟩
    · unfold pfN; rw [if_neg (by omega), if_neg c7, if_neg c6, if_pos he, hz]
    · unfold pfD; rw [if_neg (by omega), if_neg c7, if_neg c6, if_pos he, h1]
    · unfold pfE; rw [if_neg (by omega), if_neg c7, if_neg c6, he]
  · rw [if_neg h1] at hl ⊢
    have hf := fx_cut x (decZ y)
    have hl2 : (decZ x).length + 1 + (decZ y).length ≤ 400 := by
      have : ((decZ x ++ [47]) ++ decZ y).length = (decZ x).length + 1 + (decZ y).length := by simp; omega
      omega
    have c7 : ctF47 ((decZ x ++ [47]) ++ decZ y) = true := by unfold ctF47; rw [hf]; exact decide_eq_true (by omega)
    have e1 : ct147 ((decZ x ++ [47]) ++ decZ y) = decZ x := by
      unfold ct147
      rw [hf, if_pos (by omega), Int.toNat_natCast, List.append_assoc, List.take_left]
    have e2 : ct247 ((decZ x ++ [47]) ++ decZ y) = decZ y := by
      unfold ct247
      rw [hf, if_pos (by omega), Int.toNat_natCast]
      have : (decZ x).length + 1 = (decZ x ++ [47]).length := by simp
      rw [this, List.drop_left]
    have he : parE (decZ x) = 0 := by rw [parE_decZ, if_neg (by omega)]
    have he2 : parE (decZ y) = 0 := by rw [parE_decZ, if_neg (by omega)]
    have hz : parZ (decZ x) = x := by rw [parZ_decZ, if_neg (by omega)]
    have hz2 : parZ (decZ y) = y := by rw [parZ_decZ, if_neg (by omega)]
    have hok : pqOk (decZ x) (decZ y) := ⟨he, he2, by rw [hz2]; exact hy⟩
    obtain ⟨u1, u2, u3⟩ := pq_good hok
    rw [hz, hz2] at u1 u2
    refine ⟨?_, ?_, ?_⟩
    · unfold pfN; rw [if_neg (by omega), if_pos c7, e1, e2, u1, hr.1]
    · unfold pfD; rw [if_neg (by omega), if_pos c7, e1, e2, u2, hr.2]
    · unfold pfE; rw [if_neg (by omega), if_pos c7, e1, e2, u3]
theorem decZ_lens {z : Int} {k : Nat} (h : Sz z k) : (decZ z).length ≤ 10 * k + 2 := by
  have h1 : (decs z.natAbs).length ≤ 10 * k + 1 := decs_len' h
  unfold decZ
  split
  · rw [List.length_cons]; omega
  · omega
theorem fmt_len {x y : Int} (hx : Sz x 12) (hy : Sz y 13) : (fmtQ x y).length ≤ 400 := by
  have h1 := decZ_lens hx
  have h2 := decZ_lens hy
  unfold fmtQ
  split
  · omega
  · rw [List.length_append, List.length_append]
    simp
    omega

set_option maxHeartbeats 16000000 in
set_option maxRecDepth 100000 in
theorem qtexts_law (x1 x2 : Bool) (A1 A2 : Option Addr) (n1 c1 n2 c2 : Nat) (d1 d2 : List Nat) (l : List UInt8) (w : World) (h1 : InP w A1 n1 c1 d1) (h2 : InP w A2 n2 c2 d2) (hb : l.length ≤ 9223372036854775807) :
    Calls Tryz.prog 3 #[.agg #[.bool x1, .slice A1 n1 c1, .bool x2, .slice A2 n2 c2], .string ⟨l.toArray⟩] w (RetT1 w) := by
  have hb3 : Below w.heap.size w ((w.alloc (.cells #[.bool x1, .slice A1 n1 c1, .bool x2, .slice A2 n2 c2] 26)).alloc (.cells #[.bool x1, .slice A1 n1 c1, .bool x2, .slice A2 n2 c2] 26)) := bnew2 _ _ _
  have hlight := fun b hb => lightF1 (w := (w.alloc (.cells #[.bool x1, .slice A1 n1 c1, .bool x2, .slice A2 n2 c2] 26))) (s0 := x1) (t0 := x2) (A0 := A1) (B0 := A2) (n0 := n1) (c0 := c1) (m0 := n2) (d0 := c2) (g := w.heap.size + 1) (by simp) h1.2.2.2 h2.2.2.2 b hb
  have hls := str_size l
  by_cases hl : (n1 ≤ 12 ∧ n2 ≤ 12)
  · have hlight := hlight true (by simpa using hl)
    by_cases hL : 1000 < l.length
    · have g1 : (1000 : Int) < (l.length : Int) := by omega
      have g2 : decide ((1000 : Int) < (l.length : Int)) = true := decide_eq_true g1
      go_enter Tryz.func3, Tryz.ntmps3
      go_wp2_with (first
        | (go_at_call 4; (with_reducible refine hlight.mono ?_); rintro e w0 ⟨rfl, g0⟩)
        | (go_at_call 5; (with_reducible refine (awake2_any _).mono ?_); rintro e w1 ⟨rfl, hb1⟩)
        | fail)
      go_ret
      exact ⟨rfl, bcall (bcall hb3 g0) hb1⟩
    obtain ⟨l1, l2⟩ := hl
    have H0 := ((((St.start w).addI (h1.i x1 l1)).addI (h2.i x2 l2)).new 26 (Plains.four x1 A1 n1 c1 x2 A2 n2 c2)).alloc (.cells #[.bool x1, .slice A1 n1 c1, .bool x2, .slice A2 n2 c2] 26)
    (try simp only [World.size_alloc] at H0)
    have y1 := h1.z x1 l1
    have y2 := h2.z x2 l2
    clear h1 h2 hb3 l1 l2
    generalize zOf x1 (val d1) = a at *
    generalize zOf x2 (val d2) = b at *
    have za : Sz a 1900 := y1.mono (by decide)
    have zb : Sz b 1900 := y2.mono (by decide)
    have zx : Sz (rn a b) 12 := sz_rn y1
    have zy : Sz (rd a b) 13 := sz_rd y2 (by decide)
    have hTl := fmt_len zx zy
    obtain ⟨k1, k2, k3⟩ := fmt_back (rd_pos a b) (r_r a b) hTl
    have ptq := fun w' => qparse_at (fmtQ (rn a b) (rd a b)) (by omega) w'
    rw [k1, k2, k3] at ptq
    have plq := fun w' => qparse_at l (by omega) w'
    have rlq := fun w' => rqparse_at l (by omega) w'
    obtain ⟨T, HT⟩ : ∃ v, Hid (fmtQ (rn a b) (rd a b) = v) := ⟨_, rfl⟩
    rw [HT.out] at hTl ptq
    obtain ⟨x, HX⟩ : ∃ v, Hid (rn a b = v) := ⟨_, rfl⟩
    obtain ⟨y, HY⟩ : ∃ v, Hid (rd a b = v) := ⟨_, rfl⟩
    rw [HX.out] at zx
    rw [HY.out] at zy
    rw [HX.out, HY.out] at ptq
    obtain ⟨X, HX2⟩ : ∃ v, Hid (pfN l = v) := ⟨_, rfl⟩
    obtain ⟨Y, HY2⟩ : ∃ v, Hid (pfD l = v) := ⟨_, rfl⟩
    obtain ⟨F, HF2⟩ : ∃ v, Hid (pfE l = v) := ⟨_, rfl⟩
    rw [HX2.out, HY2.out, HF2.out] at plq rlq
    unfold RetFE at ptq plq rlq
    have hts := str_size T
    have g1 : ¬ (1000 : Int) < (l.length : Int) := by omega
    have g2 : decide ((1000 : Int) < (l.length : Int)) = false := decide_eq_false g1
    have g3 : ¬ (400 : Int) < (T.length : Int) := by omega
    have g4 : decide ((400 : Int) < (T.length : Int)) = false := decide_eq_false g3
    clear k1 k2 k3 y1 y2 hL
    have HH := Lib.hid H0
    clear H0
    go_enter Tryz.func3, Tryz.ntmps3
    go_upto_region 9 with (first
      | (go_at_call 4; (with_reducible refine hlight.mono ?_); rintro e w0 ⟨rfl, g0⟩; have K := HH.out.call g0; clear HH; obtain ⟨⟨p0, p1, p2, p3⟩, _⟩ := K.facts; have i1 := K.ints.2.1.i; have i2 := K.ints.1.i)
      | (go_at_call 6; (with_reducible refine (qformat_at i1 i2 za zb).mono ?_); rw [HT.out]; rintro e w1 ⟨rfl, h1_⟩; have K := K.call h1_; clear p0 p1 p2 p3 i1 i2)
      | (go_at_call_of 7 (Value.string ⟨T.toArray⟩); (with_reducible refine (ptq _).mono ?_); rintro e w2 ⟨B1, m1, r1, B2, m2, r2, rfl, e1, e2, h2_⟩; have K := (((K.call h2_).add e2).add e1).new 26 (Plains.four (decide (x < 0)) B1 m1 r1 (decide (y < 0)) B2 m2 r2))
      | (go_at_call_of 7 (Value.string ⟨l.toArray⟩); (with_reducible refine (plq _).mono ?_); rintro e w3 ⟨B3, m3, r3, B4, m4, r4, rfl, e3, e4, h3_⟩; have K := (((K.call h3_).add e4).add e3).new 26 (Plains.four (decide (X < 0)) B3 m3 r3 (decide (Y < 0)) B4 m4 r4))
      | (go_at_call 8; (with_reducible refine (rlq _).mono ?_); rintro e w4 ⟨B5, m5, r5, B6, m6, r6, rfl, e5, e6, h4_⟩; have K := (((K.call h4_).add e6).add e5).new 26 (Plains.four (decide (X < 0)) B5 m5 r5 (decide (Y < 0)) B6 m6 r6); obtain ⟨⟨s0, s1, s2, s3⟩, ⟨t0, t1, t2, t3⟩, ⟨u0, u1, u2, u3⟩, ⟨p0, p1, p2, p3⟩, _⟩ := K.facts; have i1 := K.ints.2.2.2.2.2.2.2.1.i; have i2 := K.ints.2.2.2.2.2.2.1.i)
      | (go_at_call 9; (with_reducible refine (rqformat_at i1 i2 za zb).mono ?_); rw [HT.out]; rintro e w5 ⟨rfl, h5_⟩; have K := K.call h5_; clear s0 s1 s2 s3 t0 t1 t2 t3 u0 u1 u2 u3 p0 p1 p2 p3; obtain ⟨⟨s0, s1, s2, s3⟩, ⟨t0, t1, t2, t3⟩, ⟨u0, u1, u2, u3⟩, ⟨p0, p1, p2, p3⟩, _⟩ := K.facts; have j1 := K.ints.1.c; have j2 := K.ints.2.1.c; have j3 := K.ints.2.2.1.c; have j4 := K.ints.2.2.2.1.c)
      | (go_at_call 10; (with_reducible refine (same2_at j3 j4 j1 j2).mono ?_); rintro e w6 ⟨rfl, h6_⟩; have K6 := K.call h6_)
      | fail)
    clear K s0 s1 s2 s3 t0 t1 t2 t3 u0 u1 u2 u3 p0 p1 p2 p3 j1 j2 j3 j4
    have Kd := K6.drew
    obtain ⟨_, _, ⟨u0, u1, u2, u3⟩, ⟨p0, p1, p2, p3⟩, _⟩ := Kd.facts
    have ia := Kd.ints.2.2.2.2.2.2.2.1.i
    have ib := Kd.ints.2.2.2.2.2.2.1.i
    first
    | go_region_held3 (fun w' => (w'.cell? ⟨w2.heap.size, 0, none⟩ = some (.bool (decide (x < 0))) ∧ w'.cell? ⟨w2.heap.size, 1, none⟩ = some (.slice B1 m1 r1) ∧ w'.cell? ⟨w2.heap.size, 2, none⟩ = some (.bool (decide (y < 0))) ∧ w'.cell? ⟨w2.heap.size, 3, none⟩ = some (.slice B2 m2 r2)) ∧ w'.cell? ⟨w.heap.size, 0, none⟩ = some (.bool x1) ∧ w'.cell? ⟨w.heap.size, 1, none⟩ = some (.slice A1 n1 c1) ∧ w'.cell? ⟨w.heap.size, 2, none⟩ = some (.bool x2) ∧ w'.cell? ⟨w.heap.size, 3, none⟩ = some (.slice A2 n2 c2))
        (go_keep)
        (first
          | (go_at_call 11; (with_reducible refine (reduce_at ia ib za zb).mono ?_); rw [HX.out, HY.out]; rintro e w7 ⟨D1, o1_, q1, D2, o2_, q2, rfl, f1, f2, h7_⟩; have K7 := ((Kd.call h7_).add f2).add f1; clear u0 u1 u2 u3 p0 p1 p2 p3; obtain ⟨_, _, ⟨u0, u1, u2, u3⟩, ⟨p0, p1, p2, p3⟩, _⟩ := K7.facts; have j1 := K7.ints.1.c; have j2 := K7.ints.2.1.c; have j3 := K7.ints.2.2.2.2.2.2.1.c; have j4 := K7.ints.2.2.2.2.2.2.2.1.c)
          | (go_at_call 10; (with_reducible refine (same2_at j3 j4 j1 j2).mono ?_); rintro e w8 ⟨rfl, h8_⟩; have K8 := K7.call h8_; clear u0 u1 u2 u3 p0 p1 p2 p3; obtain ⟨_, _, ⟨u0, u1, u2, u3⟩, ⟨p0, p1, p2, p3⟩, _⟩ := K8.facts)
          | (go_at_call 5; (with_reducible refine (awake2_any _).mono ?_); rintro e w9 ⟨rfl, h9_⟩; have K9 := K8.call h9_; clear u0 u1 u2 u3 p0 p1 p2 p3; obtain ⟨_, _, ⟨u0, u1, u2, u3⟩, ⟨p0, p1, p2, p3⟩, _⟩ := K9.facts)
          | fail)
    | fail
    go_wp2
    go_ret
    exact ⟨rfl, K9.below⟩
  · have hlight := hlight false (by simpa using hl)
    go_enter Tryz.func3, Tryz.ntmps3
    go_wp2_with (first
      | (go_at_call 4; (with_reducible refine hlight.mono ?_); rintro e w0 ⟨rfl, g0⟩)
      | (go_at_call 5; (with_reducible refine (awake2_any _).mono ?_); rintro e w1 ⟨rfl, hb1⟩)
      | fail)
    go_ret
    exact ⟨rfl, bcall (bcall hb3 g0) hb1⟩
end Go.Proofs.YtekoeohkkabkdaaGreat

