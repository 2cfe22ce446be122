/-
  Powers: the number of bits of a word, and the program's Pow.
-/
import Derived.Test.YtkhficmehjglmaaGreatGcd
set_option linter.unusedVariables false
set_option linter.unusedSimpArgs false
namespace Go.Proofs.YtkhficmehjglmaaGreat
open Go.RowKit

def bitsRen2 : Go.Shelf.Ren := ⟨fun n => if n = 125 then 77 else if n = 128 then 114 else 115, fun t => if t = 3 then 3 else if t = 4 then 4 else if t = 5 then 5 else if t = 9 then 9 else if t = 46 then 80 else if t = 51 then 79 else 78, fun g => g⟩
theorem bits_lays2 : Lays.n125 Tryz.prog bitsRen2 where
  mixed := by kernel_rfl
  f125 := Tryz.func77.trans (congrArg some (by kernel_rfl))
  f128 := Tryz.func114.trans (congrArg some (by kernel_rfl))
  f129 := Tryz.func115.trans (congrArg some (by kernel_rfl))
  t3 := by kernel_rfl
  a3 := fun _ => by kernel_rfl
  z3 := fun _ => by kernel_rfl
  v3 := fun _ => by kernel_rfl
  t4 := by kernel_rfl
  a4 := fun _ => by kernel_rfl
  z4 := fun _ => by kernel_rfl
  v4 := fun _ => by kernel_rfl
  t5 := by kernel_rfl
  a5 := fun _ => by kernel_rfl
  z5 := fun _ => by kernel_rfl
  v5 := fun _ => by kernel_rfl
  t9 := by kernel_rfl
  a9 := fun _ => by kernel_rfl
  z9 := fun _ => by kernel_rfl
  v9 := fun _ => by kernel_rfl
  t46 := by kernel_rfl
  a46 := fun _ => by kernel_rfl
  z46 := fun _ => by kernel_rfl
  v46 := fun _ => by kernel_rfl
  t51 := by kernel_rfl
  a51 := fun _ => by kernel_rfl
  z51 := fun _ => by kernel_rfl
  v51 := fun _ => by kernel_rfl
  t53 := by kernel_rfl
  a53 := fun _ => by kernel_rfl
  z53 := fun _ => by kernel_rfl
  v53 := fun _ => by kernel_rfl

theorem len_any (x : Nat) (hx : x ≤ 64) (w : World) : Calls Tryz.prog 77 #[.int .u64 x] w fun e w' => e = .returned (.int .i64 (bl x : Nat)) ∧ w = w' := by
  have H := Any.bits_Len bits_lays2 (x : Int) w (by omega) (by omega)
  have e : Lib.bitLen (x : Int).toNat = bl x := by
    rw [Int.toNat_natCast]
    by_cases h0 : x = 0
    · subst h0; rfl
    · exact lib_bitLen x (by omega) (by omega)
  rw [e] at H
  exact H.mono fun e w' ⟨h1, h2⟩ => ⟨h1, h2.symm⟩

/-- A power and its error. -/
def powV (a N : Int) : Int := if 0 ≤ N ∧ N ≤ 64 then a ^ N.toNat else 0
def powE (N : Int) : Int := if 0 ≤ N ∧ N ≤ 64 then 0 else 5
theorem Sz.pow {a : Int} {k l : Nat} (h : Sz a 10) (hk : 10 * k < l) : Sz (a ^ k) l := by
  have h1 : (a ^ k).natAbs = a.natAbs ^ k := Int.natAbs_pow a k
  have h2 : a.natAbs ^ k ≤ (BB ^ 10) ^ k := Nat.pow_le_pow_left (Nat.le_of_lt h) k
  unfold Sz
  rw [h1]
  refine Nat.lt_of_le_of_lt h2 ?_
  rw [← Nat.pow_mul]
  exact Nat.pow_lt_pow_right (by rw [BB_eq]; decide) hk
theorem pw_fin : ∀ n : Fin 65, bits BinOp.and IntKind.i64 (n.val : Int) 1 = ((n.val % 2 : Nat) : Int) := by decide +kernel
theorem pw_bit (M j : Nat) (hM : M ≤ 64) : bits BinOp.and IntKind.i64 ((M : Int) / 2 ^ j) 1 = ((M / 2 ^ j % 2 : Nat) : Int) := by
  have h := Nat.div_le_self M (2 ^ j)
  have e : (M : Int) / 2 ^ j = ((M / 2 ^ j : Nat) : Int) := by rw [Int.natCast_ediv, Int.natCast_pow]; rfl
  rw [e]
  exact pw_fin ⟨M / 2 ^ j, by omega⟩
/-- The head of the loop of Pow, k bits being left. -/
def PwI (w wr : World) (h6 : Nat) (s : Bool) (A : Option Addr) (n c : Nat) (a : Int) (M k : Nat) : Prop :=
  ∃ (P : Int) (B : Option Addr) (m e : Nat), P = a ^ (M / 2 ^ k) ∧ St w wr [vi h6 (decide (P < 0)) B m e, vi (w.heap.size + 1) false none 0 0, vi w.heap.size s A n c] [(decide (P < 0), B, m, e, P, true), (s, A, n, c, a, false)]

/-- An integer and an error are handed back. -/
def RetO (w : World) (z err : Int) (e : Ending) (w' : World) : Prop :=
  ∃ A n c, e = .returned (.tuple #[.agg #[.bool (decide (z < 0)), .slice A n c], .int .i64 err]) ∧ CanAt w' (decide (z < 0)) A n c z ∧ Below w.heap.size w w'

set_option maxHeartbeats 8000000 in
set_option maxRecDepth 100000 in
theorem pow_at {w : World} {s : Bool} {A : Option Addr} {n c : Nat} {a : Int} (N : Int) (h : IntAt w s A n c a) (za : Sz a 10) :
    Calls Tryz.prog 42 #[.agg #[.bool s, .slice A n c], .int .i64 N] w (RetO w (powV a N) (powE N)) := by
  have H0 := ((((St.start w).addI h).new 24 (Plains.two s A n c))).new 24 (Plains.two false none 0 0)
  simp only [World.size_alloc] at H0
  have HH := Lib.hid H0
  clear H0 h
  by_cases hN : 0 ≤ N ∧ N ≤ 64
  · obtain ⟨h1, h2⟩ := hN
    obtain ⟨M, rfl⟩ := Int.eq_ofNat_of_zero_le h1
    have hM : M ≤ 64 := by omega
    have hlen := fun w' => len_any M hM w'
    obtain ⟨L, HL⟩ : ∃ v, Hid (bl M = v) := ⟨_, rfl⟩
    rw [HL.out] at hlen
    have hL : L ≤ 7 := by rw [← HL.out]; exact bl_le_of (by omega)
    have HV : Hid (powV a (M : Int) = a ^ M ∧ powE (M : Int) = 0) := by
      unfold Hid powV powE
      rw [if_pos (by omega), if_pos (by omega)]
      exact ⟨rfl, rfl⟩
    rw [HV.out.1, HV.out.2]
    have i1 : ¬ (M : Int) < 0 := by omega
    have i2 : ¬ (64 : Int) < (M : Int) := by omega
    go_enter Tryz.func42, Tryz.ntmps42
    go_wp2_with (first
      | (go_at_call 43; have K := HH.out; clear HH; (with_reducible refine (fromInt64_at 1 (by decide) (by decide) _).mono ?_); rintro e w3 ⟨A3, n3, c3, rfl, d3, u3, v3, g3⟩; have K3 := ((K.call g3).add (show CanAt w3 false A3 n3 c3 1 from CanAt.mk_ d3 u3 v3)).new 24 (Plains.two false A3 n3 c3))
      | (go_at_call 77; (with_reducible refine (hlen _).mono ?_); rintro e w4 ⟨rfl, rfl⟩)
      | fail)
    clear hlen d3 g3
    generalize w3.alloc (.cells #[.bool false, .slice A3 n3 c3] 24) = W3 at K3 ⊢
    generalize w3.heap.size = h6 at K3 ⊢
    have HS : PwI w W3 h6 s A n c a M L := by
      refine ⟨1, A3, n3, c3, ?_, K3⟩
      rw [Nat.div_eq_of_lt (by rw [← HL.out]; exact lt_bl M), Int.pow_zero]
    clear K3 K
    go_loopg [7] L (fun k i wr => i = .int .i64 ((k : Int) - 1) ∧ k ≤ 7 ∧ PwI w wr h6 s A n c a M k)
    case atStart => exact ⟨rfl, hL, HS⟩
    case round =>
      clear HS
      obtain ⟨rfl, hk, P, B, m, e, hP, K⟩ := hrel
      have HP := Lib.hid hP
      clear hP
      obtain ⟨iP, ia, _⟩ := K.ints
      obtain ⟨⟨p0, p1⟩, ⟨p2, p3⟩, ⟨p4, p5⟩, _⟩ := K.facts
      obtain ⟨f0, f1⟩ := K.free (i := 1) rfl
      obtain ⟨f2, f3⟩ := K.free (i := 0) rfl
      obtain ⟨z1, z2⟩ := K.ne 0 1 rfl rfl (by decide)
      obtain ⟨z3, z4⟩ := K.ne 0 2 rfl rfl (by decide)
      by_cases h0 : gk = 0
      · have HE : Hid (P = a ^ M) := by rw [HP.out, h0, Nat.pow_zero, Nat.div_one]; rfl
        subst h0
        have i3 : ¬ (0 : Int) ≤ ((0 : Nat) : Int) - 1 := by omega
        have K2 := K.put 1 rfl (decide (P < 0)) B m e
        simp only [List.set] at K2
        go_wp2_with fail
        generalize ((wr.setCell ⟨w.heap.size + 1, 0, none⟩ (.bool (decide (P < 0)))).setCell ⟨w.heap.size + 1, 1, none⟩ (.slice B m e)) = W2 at K2 ⊢
        obtain ⟨_, ⟨r0, r1⟩, _⟩ := K2.facts
        obtain ⟨jP, _⟩ := K2.ints
        refine bodyPost_ret (v := .tuple #[.agg #[.bool (decide (P < 0)), .slice B m e], .int .i64 0]) (by simp [results, Tryz.results42, go_sem, r0, r1]) rfl ?_
        rw [← HE.out]
        exact ⟨B, m, e, rfl, jP.c, K2.below⟩
      · obtain ⟨j, rfl⟩ : ∃ j, gk = j + 1 := ⟨gk - 1, by omega⟩
        have i3 : (0 : Int) ≤ ((j + 1 : Nat) : Int) - 1 := by omega
        have i4 : ((j + 1 : Nat) : Int) - 1 = (j : Int) := by omega
        obtain ⟨P2, HP2⟩ : ∃ v, Hid (P * P = v) := ⟨_, rfl⟩
        have zP : Sz P 800 := by rw [HP.out]; exact za.pow (by have := Nat.div_le_self M (2 ^ (j + 1)); omega)
        have kP := zP.ok
        go_upto_region 8 with (first
          | (go_at_call 45; (with_reducible refine (mul_at (iP.ci kP) (iP.ci kP)).mono ?_); rw [HP2.out]; rintro e5 w5 ⟨B5, m5, e5, rfl, d5, u5, v5, g5⟩; have K5 := (K.call g5).add (CanAt.mk_ d5 u5 v5); clear p0 p1 p2 p3 p4 p5 f0 f1 f2 f3; obtain ⟨⟨p0, p1⟩, ⟨p2, p3⟩, ⟨p4, p5⟩, _⟩ := K5.facts; obtain ⟨f2, f3⟩ := K5.free (i := 0) rfl)
          | fail)
        have K6 := K5.put 0 rfl (decide (P2 < 0)) B5 m5 e5
        simp only [List.set] at K6
        clear p0 p1 p2 p3 p4 p5 f2 f3 iP ia d5 g5 K5 K
        generalize ((w5.setCell ⟨h6, 0, none⟩ (.bool (decide (P2 < 0)))).setCell ⟨h6, 1, none⟩ (.slice B5 m5 e5)) = W6 at K6 ⊢
        obtain ⟨iP, _, ia, _⟩ := K6.ints
        obtain ⟨⟨p0, p1⟩, ⟨p2, p3⟩, ⟨p4, p5⟩, _⟩ := K6.facts
        obtain ⟨f2, f3⟩ := K6.free (i := 0) rfl
        have hbit := pw_bit M j hM
        have zP2 : Sz P2 1600 := by rw [← HP2.out]; exact zP.mul zP
        have kP2 := zP2.ok
        by_cases hq : M / 2 ^ j % 2 = 1
        · have hb : (bits BinOp.and IntKind.i64 ((M : Int) / 2 ^ j) 1 == 1) = true := by rw [hbit, hq]; rfl
          obtain ⟨P3, HP3⟩ : ∃ v, Hid (P2 * a = v) := ⟨_, rfl⟩
          have HE : Hid (P3 = a ^ (M / 2 ^ j)) := by
            unfold Hid
            rw [← HP3.out, ← HP2.out, HP.out, Nat.pow_succ, ← Nat.div_div_eq_div_mul]
            generalize M / 2 ^ j = q at hq ⊢
            rw [← Int.pow_add, ← Int.pow_succ]
            congr 1; omega
          clear hq hbit
          go_wp2_with (first
            | (go_at_call 45; (with_reducible refine (mul_at (iP.ci kP2) ia.i).mono ?_); rw [HP3.out]; rintro e6 w6 ⟨B6, m6, e6, rfl, d6, u6, v6, g6⟩; have K7 := (K6.call g6).add (CanAt.mk_ d6 u6 v6); clear p0 p1 p2 p3 p4 p5 f2 f3; obtain ⟨⟨p0, p1⟩, ⟨p2, p3⟩, ⟨p4, p5⟩, _⟩ := K7.facts; obtain ⟨f2, f3⟩ := K7.free (i := 0) rfl)
            | fail)
          have K8 := K7.put 0 rfl (decide (P3 < 0)) B6 m6 e6
          simp only [List.set] at K8
          obtain ⟨j3, _, _, ja, _⟩ := K8.ints
          go_roundg j
          case rel => exact ⟨rfl, by omega, P3, B6, m6, e6, HE.out, K8.ints_ ⟨j3, ja, trivial⟩⟩
          case measure => omega
        · have hb : (bits BinOp.and IntKind.i64 ((M : Int) / 2 ^ j) 1 == 1) = false := by
            rw [hbit, show M / 2 ^ j % 2 = 0 by omega]; rfl
          have HE : Hid (P2 = a ^ (M / 2 ^ j)) := by
            unfold Hid
            rw [← HP2.out, HP.out, Nat.pow_succ, ← Nat.div_div_eq_div_mul]
            generalize M / 2 ^ j = q at hq ⊢
            rw [← Int.pow_add]
            congr 1; omega
          clear hq hbit
          go_wp2_with fail
          go_roundg j
          case rel => exact ⟨rfl, by omega, P2, B5, m5, e5, HE.out, K6.ints_ ⟨iP, ia, trivial⟩⟩
          case measure => omega
  · have HV : Hid (powV a N = 0 ∧ powE N = 5) := by
      unfold Hid powV powE
      rw [if_neg hN, if_neg hN]
      exact ⟨rfl, rfl⟩
    rw [HV.out.1, HV.out.2]
    have fin : ∀ w', w' = ((w.alloc (.cells #[.bool s, .slice A n c] 24)).alloc (.cells #[.bool false, .slice none 0 0] 24)) → Below w.heap.size w w' := fun w' h => by rw [h]; exact bnew2 _ _ _
    by_cases h1 : N < 0
    · clear hN
      go_enter Tryz.func42, Tryz.ntmps42
      go_wp2_with fail
      refine bodyPost_ret (v := .tuple #[.agg #[.bool false, .slice none 0 0], .int .i64 5]) (by simp [results, Tryz.results42, go_sem]) rfl ?_
      exact ⟨none, 0, 0, rfl, CanAt.zero_ _, fin _ rfl⟩
    · have h2 : (64 : Int) < N := by omega
      clear hN
      go_enter Tryz.func42, Tryz.ntmps42
      go_wp2_with fail
      refine bodyPost_ret (v := .tuple #[.agg #[.bool false, .slice none 0 0], .int .i64 5]) (by simp [results, Tryz.results42, go_sem]) rfl ?_
      exact ⟨none, 0, 0, rfl, CanAt.zero_ _, fin _ rfl⟩
end Go.Proofs.YtkhficmehjglmaaGreat

