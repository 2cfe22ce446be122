/-
  Rounding of fractions: floor, ceiling, oddness, by the program and the reference.
-/
import Derived.Test.YtplmfdgdbolcaaaRfrac3
import Derived.Test.YtplmfdgdbolcaaaFrField
set_option linter.unusedVariables false
set_option linter.unusedSimpArgs false
namespace Go.Proofs.Ytplmfdgdbolcaaa
open Go.RowKit

theorem dm_u (a b : Int) : dmQ a b = un a b / ud a b := by
  rcases Int.lt_trichotomy b 0 with h | h | h
  · rw [un_neg h, ud_neg h]; unfold dmQ; rw [if_neg (by omega), if_neg (by omega)]
  · subst h; rw [un_zero, ud_zero]; rfl
  · rw [un_pos h, ud_pos_ h, dmQ_pos h]
theorem dm_r (a b : Int) : dmQ (rn a b) (rd a b) = dmQ a b := by
  rw [dmQ_pos (rd_pos a b), dm_u]
  have h1 := rn_mul a b
  have h2 := rd_mul a b
  have h3 := ug_pos a b
  generalize Int.gcd (un a b) (ud a b) = k at h1 h2 h3
  rw [← h1, ← h2, Int.mul_ediv_mul_of_pos_left _ _ (by omega)]
/-- The lowest bit, as the model has it. -/
def oddB (z : Int) : Bool := if z = 0 then false else (bits BinOp.and IntKind.u32 ((digs z.natAbs).getD 0 0 : Nat) 1 == 1)

set_option maxHeartbeats 4000000 in
set_option maxRecDepth 100000 in
theorem floor_at {w : World} {s1 s2 : Bool} {A1 A2 : Option Addr} {n1 c1 n2 c2 : Nat} {a b : Int} (h1 : IntAt w s1 A1 n1 c1 a) (h2 : IntAt w s2 A2 n2 c2 b) :
    Calls Try.prog 57 #[.agg #[.bool s1, .slice A1 n1 c1, .bool s2, .slice A2 n2 c2]] w (RetZ w (dmQ a b)) := by
  have H0 := ((((St.start w).addI h1).addI h2).new 42 (Plains.four s1 A1 n1 c1 s2 A2 n2 c2)).new 24 (Plains.two false none 0 0)
  simp only [World.size_alloc] at H0
  have HH := Lib.hid H0
  clear H0 h1 h2
  obtain ⟨x, HX⟩ : ∃ v, Hid (dmQ a b = v) := ⟨_, rfl⟩
  rw [HX.out]
  go_enter Try.func57, Try.ntmps57
  go_wp2_with (first
    | (go_at_call 127; have K := HH.out; clear HH; have i1 := K.ints.2.1.i; have i2 := K.ints.1.i; (with_reducible refine (quotient_at i1 i2).mono ?_); rw [HX.out]; rintro e wa ⟨B1, m1, k1, rfl, d1, u1, v1, ga⟩; have Ka := (K.call ga).add (CanAt.mk_ d1 u1 v1); obtain ⟨⟨q0, q1⟩, _⟩ := Ka.facts; obtain ⟨f0, f1⟩ := Ka.free (i := 0) rfl)
    | fail)
  have K4 := Ka.put 0 rfl (decide (x < 0)) B1 m1 k1
  simp only [List.set] at K4
  obtain ⟨⟨r0, r1⟩, _⟩ := K4.facts
  exact bodyPost_ret (v := .agg #[.bool (decide (x < 0)), .slice B1 m1 k1]) (by simp [results, Try.results57, go_sem, r0, r1]) rfl (RetZ.of_st K4)

set_option maxHeartbeats 4000000 in
set_option maxRecDepth 100000 in
theorem ceil_at {w : World} {s1 s2 : Bool} {A1 A2 : Option Addr} {n1 c1 n2 c2 : Nat} {a b : Int} (h1 : IntAt w s1 A1 n1 c1 a) (h2 : IntAt w s2 A2 n2 c2 b) (za : Sz a 900) (zb : Sz b 900) :
    Calls Try.prog 59 #[.agg #[.bool s1, .slice A1 n1 c1, .bool s2, .slice A2 n2 c2]] w (RetZ w (-dmQ (-a) b)) := by
  have H0 := ((((St.start w).addI h1).addI h2).new 42 (Plains.four s1 A1 n1 c1 s2 A2 n2 c2)).new 24 (Plains.two false none 0 0)
  simp only [World.size_alloc] at H0
  have HH := Lib.hid H0
  clear H0 h1 h2
  obtain ⟨a', HA⟩ : ∃ v, Hid (-a = v) := ⟨_, rfl⟩
  have za' : Sz a' 900 := by rw [← HA.out]; exact za.neg
  have ka := za'.ok
  rw [HA.out]
  obtain ⟨q, HQ⟩ : ∃ v, Hid (dmQ a' b = v) := ⟨_, rfl⟩
  have kq : (digs q.natAbs).length ≤ 1000000 := by rw [← HQ.out, dm_u]; exact (Sz.le (y := a') za' (Nat.le_trans (Int.natAbs_ediv_le_natAbs _ _) (un_abs a' b))).ok
  rw [HQ.out]
  obtain ⟨x, HX⟩ : ∃ v, Hid (-q = v) := ⟨_, rfl⟩
  rw [HX.out]
  go_enter Try.func59, Try.ntmps59
  go_upto_region 1 with fail
  have Kd := HH.out.drew
  clear HH
  obtain ⟨_, ⟨p0, p1, p2, p3⟩, _⟩ := Kd.facts
  obtain ⟨z1, z2⟩ := Kd.ne 0 1 rfl rfl (by decide)
  have i1 := Kd.ints.2.1.i
  go_region_held3 (fun w' => w'.cell? ⟨w.heap.size, 0, none⟩ = some (.bool s1) ∧ w'.cell? ⟨w.heap.size, 1, none⟩ = some (.slice A1 n1 c1) ∧ w'.cell? ⟨w.heap.size, 2, none⟩ = some (.bool s2) ∧ w'.cell? ⟨w.heap.size, 3, none⟩ = some (.slice A2 n2 c2))
    (go_keep)
    (first
      | (go_at_call_of 122 (Value.agg #[Value.bool s1, Value.slice A1 n1 c1]); (with_reducible refine (negate_at i1).mono ?_); rw [HA.out]; rintro e wa ⟨B1, m1, k1, rfl, d1, u1, v1, ga⟩; have Ka := (Kd.call ga).add (CanAt.mk_ d1 u1 v1); clear p0 p1 p2 p3; obtain ⟨_, ⟨p0, p1, p2, p3⟩, _⟩ := Ka.facts; have j1 := Ka.ints.1.ci ka; have j2 := Ka.ints.2.1.i)
      | (go_at_call 127; (with_reducible refine (quotient_at j1 j2).mono ?_); rw [HQ.out]; rintro e wb ⟨B2, m2, k2, rfl, d2, u2, v2, gb⟩; have Kb := (Ka.call gb).add (CanAt.mk_ d2 u2 v2); clear p0 p1 p2 p3; obtain ⟨_, ⟨p0, p1, p2, p3⟩, _⟩ := Kb.facts; have j3 := Kb.ints.1.ci kq)
      | (go_at_call 122; (with_reducible refine (negate_at j3).mono ?_); rw [HX.out]; rintro e wc ⟨B3, m3, k3, rfl, d3, u3, v3, gc⟩; have Kc := (Kb.call gc).add (CanAt.mk_ d3 u3 v3); clear p0 p1 p2 p3; obtain ⟨⟨q0, q1⟩, ⟨p0, p1, p2, p3⟩, _⟩ := Kc.facts; obtain ⟨f0, f1⟩ := Kc.free (i := 0) rfl)
      | fail)
  have K4 := Kc.put 0 rfl (decide (x < 0)) B3 m3 k3
  simp only [List.set] at K4
  obtain ⟨⟨r0, r1⟩, _⟩ := K4.facts
  go_wp2_with fail
  exact bodyPost_ret (v := .agg #[.bool (decide (x < 0)), .slice B3 m3 k3]) (by simp [results, Try.results59, go_sem, r0, r1]) rfl (RetZ.of_st K4)

theorem can_digit {w : World} {s : Bool} {A : Option Addr} {n c : Nat} {z : Int} (h : CanAt w s A n c z) (hn : 0 < n) : ∃ b off, A = some ⟨b, off, none⟩ ∧ b < w.heap.size ∧ w.cell? ⟨b, off, none⟩ = some (.int .u32 ((digs z.natAbs).getD 0 0 : Nat)) := by
  obtain ⟨b, off, e, hb, hc⟩ := h.2.1.at_ hn
  exact ⟨b, off, e, hb, hc 0 hn⟩
theorem odd_pos {w : World} {s : Bool} {A : Option Addr} {n c : Nat} {z : Int} (h : CanAt w s A n c z) (hn : 0 < n) : oddB z = (bits BinOp.and IntKind.u32 ((digs z.natAbs).getD 0 0 : Nat) 1 == 1) := by
  unfold oddB
  rw [if_neg (fun e => by rw [digs_len0 h e] at hn; omega)]
theorem odd_zero {w : World} {s : Bool} {A : Option Addr} {n c : Nat} {z : Int} (h : CanAt w s A n c z) (hn : n = 0) : oddB z = false := by
  unfold oddB
  by_cases hz : z = 0
  · rw [if_pos hz]
  · have := digs_lenp h hz; omega

set_option maxHeartbeats 4000000 in
set_option maxRecDepth 100000 in
theorem isOdd_at {w : World} {s : Bool} {A : Option Addr} {n c : Nat} {z : Int} (h : CanAt w s A n c z) (hl : n ≤ 1000000) :
    Calls Try.prog 129 #[.agg #[.bool s, .slice A n c]] w fun e w' => e = .returned (.bool (oddB z)) ∧ Below w.heap.size w w' := by
  have H0 := ((St.start w).add h).new 24 (Plains.two s A n c)
  have hb := H0.below
  obtain ⟨⟨p0, p1⟩, _⟩ := H0.facts
  by_cases hn : 0 < n
  · obtain ⟨b, off, rfl, hbb, hc⟩ := can_digit H0.ints.1.c hn
    rw [odd_pos h hn]
    obtain ⟨x0, HX⟩ : ∃ v, Hid ((digs z.natAbs).getD 0 0 = v) := ⟨_, rfl⟩
    rw [HX.out] at hc
    rw [HX.out]
    have i1 : (0 : Int) < (n : Int) := by omega
    clear H0
    go_enter Try.func129, Try.ntmps129
    go_wp2_with fail
    go_ret
    exact ⟨rfl, hb⟩
  · rw [odd_zero h (by omega)]
    have i1 : ¬ (0 : Int) < (n : Int) := by omega
    have i2 : decide (0 < n) = false := by simpa using hn
    clear H0
    go_enter Try.func129, Try.ntmps129
    go_wp2_with fail
    go_ret
    exact ⟨rfl, hb⟩
end Go.Proofs.Ytplmfdgdbolcaaa
