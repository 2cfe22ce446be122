/-
  The program's Sqrt.
-/
import Derived.Test.YtplmfdgdbolcaaaSqrtA
import Derived.Test.YtplmfdgdbolcaaaGcd
set_option linter.unusedVariables false
set_option linter.unusedSimpArgs false
namespace Go.Proofs.Ytplmfdgdbolcaaa
open Go.RowKit

theorem Sz.bits {z : Int} {k : Nat} (h : Sz z k) : bl z.natAbs ≤ 32 * k := bl_le_of (by rw [← BB_pow]; exact h)
theorem lt_pow_two {h l k : Nat} (hl : l ≤ 32 * k) (hh : h ≤ l) (hk : h < 32 * k) : Sz ((2 ^ h : Nat) : Int) k := by
  unfold Sz
  rw [Int.natAbs_natCast, BB_pow]
  exact Nat.pow_lt_pow_right (by decide) hk
theorem pow_sum {r q k : Nat} (hr : r < BB ^ k) (hq : q < BB ^ k) : r + q < BB ^ (k + 1) := by
  have h1 : BB ^ k * 2 ≤ BB ^ k * BB := Nat.mul_le_mul_left _ (by rw [BB_eq]; decide)
  rw [Nat.pow_succ]
  omega
theorem shiftRight_one (A : Option Addr) (n c : Nat) (ds : List Nat) (w : World) (h : Dgs w w.heap.size A n ds) (hs : n ≤ 1000000) :
    Calls Try.prog 103 #[.slice A n c, .int .i64 1] w (RetD w (val ds / 2)) := shiftRight_any A n c 1 ds w h hs (by decide)
/-- A root and its error. -/
def SqP (a z err : Int) : Prop := (a < 0 → z = 0 ∧ err = 5) ∧ (0 ≤ a → err = 0 ∧ ∃ s : Nat, z = (s : Int) ∧ s * s ≤ a.natAbs ∧ a.natAbs < (s + 1) * (s + 1))
theorem SqP.only {a z e z' e' : Int} (h : SqP a z e) (h' : SqP a z' e') : z = z' ∧ e = e' := by
  by_cases ha : a < 0
  · obtain ⟨h1, h2⟩ := h.1 ha
    obtain ⟨h3, h4⟩ := h'.1 ha
    exact ⟨h1.trans h3.symm, h2.trans h4.symm⟩
  · obtain ⟨h1, s, rfl, h2, h3⟩ := h.2 (by omega)
    obtain ⟨h4, s', rfl, h5, h6⟩ := h'.2 (by omega)
    exact ⟨by rw [root_only h2 h3 h5 h6], h1.trans h4.symm⟩
def RetSq (w : World) (a : Int) (e : Ending) (w' : World) : Prop := ∃ z err, SqP a z err ∧ Sz z 200 ∧ RetO w z err e w'

/-- The head of the loop. -/
def SqI (w wr : World) (a : Int) (A1 : Option Addr) (n1 c1 : Nat) (B : Option Addr) (m e r : Nat) : Prop :=
  St w wr [vi (w.heap.size + 1) false none 0 0, vi w.heap.size (decide (a < 0)) A1 n1 c1] [(false, B, m, e, (r : Int), true), (decide (a < 0), A1, n1, c1, a, true)] ∧
    0 < r ∧ a.natAbs < (r + 1) * (r + 1) ∧ Sz (r : Int) 200

set_option maxHeartbeats 8000000 in
set_option maxRecDepth 100000 in
theorem sqrt_at {w : World} {s : Bool} {A : Option Addr} {n c : Nat} {a : Int} (h : IntAt w s A n c a) (za : Sz a 100) :
    Calls Try.prog 22 #[.agg #[.bool s, .slice A n c]] w (RetSq w a) := by
  have H0 := ((((St.start w).addI h).new 24 (Plains.two s A n c))).new 24 (Plains.two false none 0 0)
  simp only [World.size_alloc] at H0
  have HH := Lib.hid H0
  have ka := za.ok
  clear H0 h
  go_enter Try.func22, Try.ntmps22
  go_upto_region 2 with (first
    | (go_at_call 82; have K := HH.out; clear HH; obtain ⟨ia, _⟩ := K.ints; (with_reducible refine (canonical_at ia.i).mono ?_); rintro e w1 ⟨A1, n1, c1, rfl, d1, u1, v1, g1⟩; have K1 := (K.call g1).add (CanAt.mk_ d1 u1 v1); obtain ⟨_, ⟨p0, p1⟩, _⟩ := K1.facts; obtain ⟨f0, f1⟩ := K1.free (i := 1) rfl)
    | fail)
  have K2 := K1.put 1 rfl (decide (a < 0)) A1 n1 c1
  simp only [List.set] at K2
  clear K K1 ia d1 g1 p0 p1 f0 f1
  generalize ((w1.setCell ⟨w.heap.size, 0, none⟩ (.bool (decide (a < 0)))).setCell ⟨w.heap.size, 1, none⟩ (.slice A1 n1 c1)) = W2 at K2 ⊢
  obtain ⟨ia, _⟩ := K2.ints
  obtain ⟨⟨p2, p3⟩, ⟨p0, p1⟩, _⟩ := K2.facts
  obtain ⟨f0, f1⟩ := K2.free (i := 0) rfl
  obtain ⟨z1, z2⟩ := K2.ne 0 1 rfl rfl (by decide)
  by_cases hneg : a < 0
  · have HE : Hid (SqP a 0 5) := ⟨fun _ => ⟨rfl, rfl⟩, fun h => by omega⟩
    have K3 := K2.put 0 rfl false none 0 0
    simp only [List.set] at K3
    have hd : decide (a < 0) = true := by simpa using hneg
    rw [hd] at p0
    go_wp2_with fail
    generalize ((W2.setCell ⟨w.heap.size + 1, 0, none⟩ (.bool false)).setCell ⟨w.heap.size + 1, 1, none⟩ (.slice none 0 0)) = W9 at K3 ⊢
    obtain ⟨⟨r0, r1⟩, _⟩ := K3.facts
    refine bodyPost_ret (v := .tuple #[.agg #[.bool false, .slice none 0 0], .int .i64 5]) (by simp [results, Try.results22, go_sem, r0, r1]) rfl ?_
    exact ⟨0, 5, HE.out, Sz.zero _, none, 0, 0, rfl, CanAt.zero_ _, K3.below⟩
  · have hd : decide (a < 0) = false := decide_eq_false hneg
    rw [hd] at p0
    by_cases h0 : a = 0
    · have HE : Hid (SqP a 0 0) := ⟨fun h => absurd h hneg, fun _ => ⟨rfl, 0, rfl, by omega, by omega⟩⟩
      obtain rfl := digs_len0 ia.c h0
      clear h0 hneg
      have K3 := K2.put 0 rfl false none 0 0
      simp only [List.set] at K3
      go_wp2_with fail
      generalize ((W2.setCell ⟨w.heap.size + 1, 0, none⟩ (.bool false)).setCell ⟨w.heap.size + 1, 1, none⟩ (.slice none 0 0)) = W9 at K3 ⊢
      obtain ⟨⟨r0, r1⟩, _⟩ := K3.facts
      refine bodyPost_ret (v := .tuple #[.agg #[.bool false, .slice none 0 0], .int .i64 0]) (by simp [results, Try.results22, go_sem, r0, r1]) rfl ?_
      exact ⟨0, 0, HE.out, Sz.zero _, none, 0, 0, rfl, CanAt.zero_ _, K3.below⟩
    · have hn1 : 0 < n1 := digs_lenp ia.c h0
      have hn1z : ((n1 : Int) == 0) = false := by simp; omega
      have hla : n1 ≤ 1000000 := by rw [← ia.c.2.1.len]; exact ka
      have hX0 : a.natAbs ≠ 0 := by omega
      have HNEG := Lib.hid hneg
      obtain ⟨-, da, ua, va⟩ := ia.c
      have hbit := pbitLen_any A1 n1 c1 W2.heap.size a.natAbs W2 da hla
      obtain ⟨L, HL⟩ : ∃ v, Hid (bl a.natAbs = v) := ⟨_, rfl⟩
      rw [HL.out] at hbit
      have hL : L ≤ 3200 := by
        rw [← HL.out]
        exact za.bits
      obtain ⟨H, HH2⟩ : ∃ v, v = (L + 1) / 2 := ⟨_, rfl⟩
      have eH : ((L : Int) + 1) / 2 = (H : Int) := by omega
      have hH : H ≤ 1601 := by omega
      have HS : Hid (0 < 2 ^ H ∧ a.natAbs < (2 ^ H + 1) * (2 ^ H + 1) ∧ Sz ((2 ^ H : Nat) : Int) 200) := by
        have h1 := lt_bl a.natAbs
        rw [HL.out] at h1
        have h2 : 2 ^ L ≤ 2 ^ (H + H) := Nat.pow_le_pow_right (by decide) (by omega)
        rw [Nat.pow_add] at h2
        refine ⟨Nat.pow_pos (by decide), ?_, ?_⟩
        · have h3 : 2 ^ H * 2 ^ H ≤ (2 ^ H + 1) * (2 ^ H + 1) := Nat.mul_le_mul (Nat.le_succ _) (Nat.le_succ _)
          omega
        · exact lt_pow_two (l := H) (by omega) (Nat.le_refl _) (by omega)
      clear h0 hneg HH2
      obtain ⟨r0, HR0⟩ : ∃ v : Nat, Hid (2 ^ H = v) := ⟨_, rfl⟩
      have hpow := powerOfTwo_any H (by omega) W2
      rw [HR0.out] at HS hpow
      go_wp2_with (first
        | (go_at_call 101; (with_reducible refine hbit.mono ?_); rintro e w3 ⟨rfl, rfl⟩)
        | (go_at_call 100; (with_reducible refine hpow.mono ?_); rintro e w4 ⟨B, m, e, rfl, d4, u4, v4, g4⟩; have K4 := (K2.call g4).add (CanAt.nat d4 u4 v4))
        | fail)
      have HI : SqI w w4 a A1 n1 c1 B m e r0 := by
        obtain ⟨i1, i2, _⟩ := K4.ints
        exact ⟨K4.ints_ ⟨i1, i2, trivial⟩, HS.out⟩
      clear K2 K4 da hbit hpow d4 g4 p0 p1 p2 p3 f0 f1 ia
      go_loopg [4] r0 (fun k x wr => ∃ (B : Option Addr) (m e r : Nat), r = k ∧ x = .slice B m e ∧ SqI w wr a A1 n1 c1 B m e r)
      case atStart => exact ⟨B, m, e, r0, rfl, rfl, HI⟩
      case round =>
        clear HI
        obtain ⟨B, m, e, r, rfl, rfl, K, hr0, hra, zr⟩ := hrel
        obtain ⟨iB, ia, _⟩ := K.ints
        obtain ⟨-, dB, uB, vB⟩ := iB.c
        obtain ⟨-, da, ua, va⟩ := ia.c
        rw [Int.natAbs_natCast] at dB
        have hlB : m ≤ 1000000 := by
          rw [← dB.len]; have := zr.ok; rwa [Int.natAbs_natCast] at this
        have hdv := divDigits_any A1 B n1 m c1 e a.natAbs r wr da dB ua va uB vB hla (by omega) (longOk r)
        obtain ⟨q, HQ⟩ : ∃ v, Hid (a.natAbs / r = v) := ⟨_, rfl⟩
        obtain ⟨rm, HRM⟩ : ∃ v, Hid (a.natAbs % r = v) := ⟨_, rfl⟩
        rw [HQ.out, HRM.out] at hdv
        have hql : (digs q).length ≤ 1000000 := by
          refine Nat.le_trans (digs_mono (b := a.natAbs) ?_) ka
          rw [← HQ.out]; exact Nat.div_le_self _ _
        obtain ⟨nx, HNX⟩ : ∃ v, Hid ((r + q) / 2 = v) := ⟨_, rfl⟩
        have hsum : (digs (r + q)).length ≤ 1000000 := by
          have h1 : r + q < BB ^ (200 + 1) := by
            refine pow_sum ?_ ?_
            · have := zr; unfold Sz at this; rwa [Int.natAbs_natCast] at this
            · have h4 : q ≤ a.natAbs := by rw [← HQ.out]; exact Nat.div_le_self _ _
              exact Nat.lt_of_le_of_lt h4 (za.mono (show 100 ≤ 200 by decide))
          exact Nat.le_trans (digs_length_le h1) (by decide)
        have HNW : Hid (a.natAbs < (nx + 1) * (nx + 1) ∧ (r ≤ nx → r * r ≤ a.natAbs)) := by
          rw [← HNX.out, ← HQ.out]
          exact ⟨newton hr0, newton_end hr0⟩
        have hn := HNX.out
        obtain ⟨v, HV⟩ : ∃ v, Hid (cmpI (nx : Int) (r : Int) = v) := ⟨_, rfl⟩
        obtain ⟨_, ⟨p0, p1⟩, _⟩ := K.facts
        go_upto_if 38 with (first
          | (go_at_call 102; (with_reducible refine hdv.mono ?_); rintro e w5 ⟨A5, n5, c5, A6, n6, c6, rfl, d5, u5, v5, d6, u6, v6, g5⟩; have K5 := (K.call g5).add (CanAt.nat d5 u5 v5); have dB5 := (dB.below g5).more g5.size; have hl5 : n5 ≤ 1000000 := (by rw [← d5.len]; exact hql))
          | (go_at_call 104; (with_reducible refine (addDigits_any B A5 m n5 e c5 _ _ _ dB5 d5 hlB hl5).mono ?_); rw [val_digs, val_digs]; rintro e w6 ⟨A7, n7, c7, rfl, d7, u7, v7, g6⟩; have K6 := K5.call g6; have dB6 := (dB5.below g6).more g6.size; have hl7 : n7 ≤ 1000000 := (by rw [← d7.len]; exact hsum))
          | (go_at_call 103; (with_reducible refine (shiftRight_one A7 n7 c7 _ _ d7 hl7).mono ?_); rw [val_digs, hn]; rintro e w7 ⟨A8, n8, c8, rfl, d8, u8, v8, g7⟩; have K7 := (K6.call g7).add (CanAt.nat d8 u8 v8); have dB7 := (dB6.below g7).more g7.size)
          | (go_at_call 105; (with_reducible refine (compareDigits_any A8 B n8 m c8 e _ _ nx r _ d8 dB7 (by omega) (by omega)).mono ?_); rw [HV.out]; rintro e w8 ⟨rfl, hw8⟩; have K8 := K7.call (hw8.below _))
          | fail)
        clear hdv d5 d6 g5 d7 g6 d8 g7 hl5 hl7 dB dB5 dB6 K K5 K6 K7 p0 p1 iB ia da
        obtain ⟨i8, _, iB, ia, _⟩ := K8.ints
        by_cases hge : r ≤ nx
        · have hv : 0 ≤ v := by
            rw [← HV.out]; unfold cmpI
            split
            · omega
            · split <;> omega
          have HE : Hid (SqP a (r : Int) 0) := ⟨fun h => (by have := HNEG.out; omega), fun _ => ⟨rfl, r, rfl, HNW.out.2 hge, hra⟩⟩
          have z0 : zOf false r = (r : Int) := rfl
          obtain ⟨⟨p0, p1⟩, _⟩ := K8.facts
          obtain ⟨f0, f1⟩ := K8.free (i := 0) rfl
          obtain ⟨-, dB, uB, vB⟩ := iB.c
          rw [Int.natAbs_natCast] at dB
          clear hge
          go_wp2_with (first
            | (go_at_call 96; (with_reducible refine (newInt_at dB uB vB).mono ?_); rw [z0]; rintro e w9 ⟨A9, n9, c9, rfl, d9, u9, v9, g9⟩; have K9 := (K8.call g9).add (CanAt.mk_ d9 u9 v9); clear p0 p1 f0 f1; obtain ⟨⟨p0, p1⟩, _⟩ := K9.facts; obtain ⟨f0, f1⟩ := K9.free (i := 0) rfl)
            | fail)
          have KA := K9.put 0 rfl (decide ((r : Int) < 0)) A9 n9 c9
          simp only [List.set] at KA
          generalize ((w9.setCell ⟨w.heap.size + 1, 0, none⟩ (.bool (decide ((r : Int) < 0)))).setCell ⟨w.heap.size + 1, 1, none⟩ (.slice A9 n9 c9)) = W9 at KA ⊢
          obtain ⟨⟨r0, r1⟩, _⟩ := KA.facts
          obtain ⟨iR, _⟩ := KA.ints
          refine bodyPost_ret (v := .tuple #[.agg #[.bool (decide ((r : Int) < 0)), .slice A9 n9 c9], .int .i64 0]) (by simp [results, Try.results22, go_sem, r0, r1]) rfl ?_
          exact ⟨(r : Int), 0, HE.out, zr, A9, n9, c9, rfl, iR.c, KA.below⟩
        · have hv : ¬ 0 ≤ v := by
            rw [← HV.out, cmpI_lt (by omega)]; omega
          have HL2 : Hid (nx < r) := by unfold Hid; omega
          have HNP : Hid (0 < nx) := by
            have h1 := HNW.out.1
            have h2 := HL2.out
            unfold Hid
            rcases Nat.eq_zero_or_pos nx with h | h
            · rw [h] at h1; omega
            · exact h
          have HZN : Hid (Sz (nx : Int) 200) := zr.le (by rw [Int.natAbs_natCast, Int.natAbs_natCast]; exact Nat.le_of_lt HL2.out)
          clear hge
          go_wp2_with fail
          go_roundg nx
          case rel => exact ⟨A8, n8, c8, nx, rfl, rfl, K8.ints_ ⟨i8, ia, trivial⟩, HNP.out, HNW.out.1, HZN.out⟩
          case measure => exact HL2.out
end Go.Proofs.Ytplmfdgdbolcaaa
