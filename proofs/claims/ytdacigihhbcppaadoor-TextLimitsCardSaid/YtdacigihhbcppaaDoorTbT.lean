/-
  The law TextLimits walked: Lines accepts texts of exactly the greatest number of bytes and of lines and rejects longer ones.
-/
import Derived.Test.YtdacigihhbcppaaDoorTbQ
import Derived.Deep.Light
set_option linter.unusedVariables false
set_option linter.unusedSimpArgs false
namespace Go.Proofs.YtdacigihhbcppaaDoor
open Go.RowKit

theorem and_three (n : Int) : ∃ k : Nat, k ≤ 3 ∧ bits BinOp.and IntKind.i64 n 3 = (k : Int) := by
  have h3 : (BitVec.ofInt 64 n &&& BitVec.ofInt 64 3).toNat ≤ 3 := by
    rw [BitVec.toNat_and]; exact Nat.and_le_right
  refine ⟨(BitVec.ofInt 64 n &&& BitVec.ofInt 64 3).toNat, h3, ?_⟩
  show IntKind.i64.wrap ((BitVec.ofInt 64 n &&& BitVec.ofInt 64 3).toNat : Int) = _
  exact IntWalk.i64_in _ (by omega)

def bcv (c : UInt8) : Value := .int .u8 (c.toNat : Nat)
/-- Block b is a row of bytes of its own. -/
def BR (w : World) (b : Nat) (ls : List UInt8) : Prop := w.heap[b]? = some (.cells (ls.map bcv).toArray 5 (0, 0))
section
variable {w w' : World} {b : Nat} {ls : List UInt8}
theorem BR.lt (h : BR w b ls) : b < w.heap.size := (Array.getElem?_eq_some_iff.1 h).1
theorem BR.cell (h : BR w b ls) {j : Nat} (hj : j < ls.length) : w.cell? ⟨b, j, none⟩ = some (.int .u8 ((ls[j]).toNat : Nat)) := by
  unfold BR at h
  simp [World.cell?, h, hj, bcv]
theorem BR.frozen (h : BR w b ls) (j : Nat) : w.frozen? ⟨b, j, none⟩ = false := by
  unfold BR at h
  simp [World.frozen?, h]
theorem BR.of_block (h : BR w b ls) (hb : w'.heap[b]? = w.heap[b]?) : BR w' b ls := hb.trans h
theorem BR.set (h : BR w b ls) (i : Nat) (v : UInt8) {z : Int} (hz : z = (v.toNat : Nat)) : BR (w.setCell ⟨b, i, none⟩ (.int .u8 z)) b (ls.set i v) := by
  subst hz
  unfold BR at h ⊢
  have e : (((ls.set i v).map bcv).toArray) = ((ls.map bcv).toArray).setIfInBounds i (bcv v) := by
    apply Array.ext'
    simp [List.map_set]
  rw [e]
  simp [World.setCell, Array.getElem?_modify, h, bcv]
theorem BR.made (w : World) (n : Nat) : BR (w.alloc (.cells (madeCells #[.int .u8 0] n) 5)) w.heap.size (List.replicate n 0) := by
  have e : (((List.replicate n (0 : UInt8)).map bcv).toArray) = madeCells #[.int .u8 0] n := by
    apply Array.ext
    · simp [size_madeCells]
    · intro i h1 h2
      simp [size_madeCells] at h2
      simp [madeCells, bcv, Nat.mod_one]
  unfold BR
  rw [e]
  exact World.alloc_heap_new w _
theorem BR.inn (h : BR w b ls) : BIn Any_ w (some ⟨b, 0, none⟩) ls :=
  .inr ⟨b, 0, trivial, rfl, fun i hi => by rw [Nat.zero_add, h.cell hi, bAt_get hi]⟩
end
theorem set_at (a : List UInt8) (n : Nat) (x : UInt8) : (a ++ List.replicate (n + 1) 0).set a.length x = (a ++ [x]) ++ List.replicate n 0 := by
  rw [List.set_append_right _ _ (Nat.le_refl _), Nat.sub_self]
  simp [List.replicate_succ]
/-- Lines of one letter. -/
def yn : Nat → List UInt8
  | 0 => []
  | n + 1 => yn n ++ [121, 10]
theorem yn_len : ∀ n, (yn n).length = 2 * n
  | 0 => rfl
  | n + 1 => by unfold yn; rw [List.length_append, yn_len n]; simp; omega
theorem yn_front : ∀ n, yn (n + 1) = 121 :: 10 :: yn n
  | 0 => rfl
  | n + 1 => by
    show yn (n + 1) ++ [121, 10] = 121 :: 10 :: yn (n + 1)
    conv => lhs; rw [yn_front n]
    rfl
theorem yn_ok : ∀ n, (yn n).all plOk = true
  | 0 => rfl
  | n + 1 => by unfold yn; rw [List.all_append, yn_ok n]; rfl
theorem yn_lp : ∀ n, (lp (yn n)).length = n
  | 0 => rfl
  | n + 1 => by
    rw [yn_front]
    show (lp (121 :: 10 :: yn n)).length = _
    have h : lp (121 :: 10 :: yn n) = [121, 10] :: lp (yn n) := by
      conv => lhs; unfold lp
      rw [if_neg (by decide)]
      conv => lhs; unfold lp
      rw [if_pos (by decide)]
    rw [h, List.length_cons, yn_lp n]
theorem xs_ok (n : Nat) : (List.replicate n (120 : UInt8)).all plOk = true := by
  rw [List.all_eq_true]
  intro x hx
  rw [List.eq_of_mem_replicate hx]; rfl
theorem xs_lp : ∀ n, (lp (List.replicate (n + 1) (120 : UInt8))).length = 1
  | 0 => rfl
  | n + 1 => by
    have ih := xs_lp n
    rw [List.replicate_succ]
    unfold lp
    rw [if_neg (by decide)]
    cases h : lp (List.replicate (n + 1) (120 : UInt8)) with
    | nil => rw [h] at ih; cases ih
    | cons p ps => rw [h] at ih; simpa using ih
/-- What Lines answers to them. -/
theorem xs_lines (N : Nat) (h : N ≤ 20000) (h1 : 0 < N) : linesE (List.replicate N 120) = 0 ∧ (linesL (List.replicate N 120)).length = 1 := by
  obtain ⟨n, rfl⟩ : ∃ n, N = n + 1 := ⟨N - 1, by omega⟩
  have hE : linesE (List.replicate (n + 1) 120) = 0 := by
    unfold linesE
    rw [if_neg (by rw [List.length_replicate]; omega), if_pos (xs_ok _), if_neg (by rw [xs_lp]; omega)]
  refine ⟨hE, ?_⟩
  unfold linesL
  rw [if_pos hE, List.length_map, xs_lp]
theorem xs_long (N : Nat) (h : 20000 < N) : linesE (List.replicate N 120) = 10 ∧ linesL (List.replicate N 120) = [] := by
  have hE : linesE (List.replicate N 120) = 10 := by
    unfold linesE
    rw [if_pos (by rw [List.length_replicate]; omega)]
  exact ⟨hE, by unfold linesL; rw [if_neg (by rw [hE]; decide)]⟩
theorem yn_lines (M : Nat) (h : M ≤ 1000) : linesE (yn M) = 0 ∧ (linesL (yn M)).length = M := by
  have hE : linesE (yn M) = 0 := by
    unfold linesE
    rw [if_neg (by rw [yn_len]; omega), if_pos (yn_ok _), if_neg (by rw [yn_lp]; omega)]
  refine ⟨hE, ?_⟩
  unfold linesL
  rw [if_pos hE, List.length_map, yn_lp]
theorem yn_long (M : Nat) (h : 1000 < M) (h2 : M ≤ 10000) : linesE (yn M) = 10 ∧ linesL (yn M) = [] := by
  have hE : linesE (yn M) = 10 := by
    unfold linesE
    rw [if_neg (by rw [yn_len]; omega), if_pos (yn_ok _), if_pos (by rw [yn_lp]; omega)]
  exact ⟨hE, by unfold linesL; rw [if_neg (by rw [hE]; decide)]⟩
theorem u8_infoT : (Tryd.prog.info? 5).map (fun i => (i.zero, i.size, i.bytes)) = some (some (.int .u8 0), 1, 1) := by kernel_rfl
theorem set_x {w : World} {b j N : Nat} (h : BR w b (List.replicate j 120 ++ List.replicate (N - j) 0)) (hj : j < N) : BR (w.setCell ⟨b, j, none⟩ (.int .u8 120)) b (List.replicate (j + 1) 120 ++ List.replicate (N - (j + 1)) 0) := by
  have h1 := h.set j 120 (z := 120) rfl
  have h2 := set_at (List.replicate j 120) (N - (j + 1)) 120
  rw [List.length_replicate, show N - (j + 1) + 1 = N - j by omega] at h2
  rw [h2] at h1
  rwa [show List.replicate j (120 : UInt8) ++ [120] = List.replicate (j + 1) 120 from List.replicate_succ'.symm] at h1
theorem set_y {w : World} {b j M : Nat} (h : BR w b (yn j ++ List.replicate (2 * M - 2 * j) 0)) (hj : j < M) : BR ((w.setCell ⟨b, 2 * j, none⟩ (.int .u8 121)).setCell ⟨b, 2 * j + 1, none⟩ (.int .u8 10)) b (yn (j + 1) ++ List.replicate (2 * M - 2 * (j + 1)) 0) := by
  have h1 := (h.set (2 * j) 121 (z := 121) rfl).set (2 * j + 1) 10 (z := 10) rfl
  have h2 := set_at (yn j) (2 * M - 2 * (j + 1) + 1) 121
  rw [yn_len, show 2 * M - 2 * (j + 1) + 1 + 1 = 2 * M - 2 * j by omega] at h2
  have h3 := set_at (yn j ++ [121]) (2 * M - 2 * (j + 1)) 10
  rw [List.length_append, yn_len, List.length_singleton] at h3
  rw [h2, h3] at h1
  rwa [show yn j ++ [121] ++ [10] = yn (j + 1) by rw [List.append_assoc]; rfl] at h1
set_option maxHeartbeats 8000000 in
set_option maxRecDepth 100000 in
theorem textLimits_any (n : Int) (hn : -9223372036854775808 ≤ n ∧ n ≤ 9223372036854775807) (w : World) : Calls Tryd.prog 4 #[.int .i64 n] w (RetB1 w true) := by
  obtain ⟨k, hk3, hbits⟩ := and_three n
  obtain ⟨N, hN⟩ : ∃ N : Nat, (20000 : Int) + (k : Int) - 1 = (N : Int) := ⟨19999 + k, by omega⟩
  obtain ⟨M, hM⟩ : ∃ M : Nat, (1000 : Int) + (k : Int) - 1 = (M : Int) := ⟨999 + k, by omega⟩
  obtain ⟨D, hD⟩ : ∃ D : Nat, (2 : Int) * (M : Int) = (D : Int) := ⟨2 * M, by omega⟩
  have hNk : Hid (N = 19999 + k) := by unfold Hid; omega
  have hMk : Hid (M = 999 + k) := by unfold Hid; omega
  have hDk : Hid (D = 2 * M) := by unfold Hid; omega
  have a1 : (20000 : Int) + (k : Int) ≤ 30000 := by omega
  have a2 : (0 : Int) ≤ (k : Int) := by omega
  have a3 : (k : Int) ≤ 3 := by omega
  have n1 : (N : Int) ≤ 30000 := by omega
  have m1 : (M : Int) ≤ 2000 := by omega
  have d1 : (D : Int) ≤ 4000 := by omega
  have hmk := run_make_row' (P := Tryd.prog) 29 5 (.int .u8 0) 1 Tryd.underlying29 u8_infoT rfl .i64 .i64 N (by omega) (by omega)
  have hmk2 := run_make_row' (P := Tryd.prog) 29 5 (.int .u8 0) 1 Tryd.underlying29 u8_infoT rfl .i64 .i64 D (by omega) (by omega)
  clear hn
  go_enter Tryd.func4, Tryd.ntmps4
  go_wp2_with fail
  have r0 := BR.made w N
  have s0 : Below w.heap.size w (w.alloc (.cells (madeCells #[.int .u8 0] N) 5)) := (Below.refl _ w).alloc (Nat.le_refl _) _
  generalize w.alloc (.cells (madeCells #[.int .u8 0] N) 5) = w1 at r0 s0 ⊢
  obtain ⟨H, HH⟩ : ∃ H, Hid (w.heap.size = H) := ⟨_, rfl⟩
  rw [HH.out] at r0 ⊢
  have R0 := Lib.hid r0
  have S0 := Lib.hid s0
  clear r0 s0
  go_loopw [5] (fun i wr => ∃ j : Nat, j ≤ N ∧ i = .int .i64 j ∧ BR wr H (List.replicate j 120 ++ List.replicate (N - j) 0) ∧ Hid (Below w.heap.size w wr)) (fun i _ => N - (intOf i).toNat)
  case atStart => exact ⟨0, by omega, rfl, R0.out, S0⟩
  case round =>
    clear R0 S0
    obtain ⟨j, hj, rfl, hr, hb⟩ := hrel
    by_cases hlt : j < N
    · have j0 : (0 : Int) ≤ (j : Int) := by omega
      have j1 : (j : Int) < (N : Int) := by omega
      have hlen : j < (List.replicate j (120 : UInt8) ++ List.replicate (N - j) 0).length := by simp; omega
      have hc := hr.cell hlen
      have hf := hr.frozen j
      have hs := Lib.hid (set_x hr hlt)
      have hbb : Hid (Below w.heap.size w (wr.setCell ⟨H, j, none⟩ (.int .u8 120))) := by unfold Hid; exact hb.out.setCell (p := ⟨H, j, none⟩) (by show w.heap.size ≤ H; rw [HH.out]; exact Nat.le_refl _) _
      generalize ((List.replicate j (120 : UInt8) ++ List.replicate (N - j) 0)[j]'hlen).toNat = q at hc
      clear hr hlen
      go_wp2_with fail
      go_roundw
      case rel => exact ⟨j + 1, by omega, by go_num, hs.out, hbb⟩
      case measure => simp [intOf]; omega
    · obtain rfl : j = N := by omega
      have j1 : ¬ (j : Int) < (j : Int) := by omega
      obtain ⟨X, HX⟩ : ∃ X, Hid (List.replicate j (120 : UInt8) = X) := ⟨_, rfl⟩
      have hr2 : BR wr H X := by rw [← HX.out]; simpa using hr
      have hXl : X.length = j := by rw [← HX.out]; simp
      have hcv := hr2.inn.convert j j hXl
      have hp := lines_any X
      obtain ⟨E1, HE1⟩ : ∃ v, Hid (linesE X = v) := ⟨_, rfl⟩
      obtain ⟨L1, HL1⟩ : ∃ v, Hid (linesL X = v) := ⟨_, rfl⟩
      rw [HE1.out, HL1.out] at hp
      have HP := Lib.hid hp
      clear hr hr2 hXl hp
      go_wp2_with fail
      refine (HP.out _).mono ?_
      rintro e w2 ⟨a, m, c, rfl, s1, c1, c2, b1, g1⟩
      have hm : Hid (L1.length = m) := s1.1
      have G1 : Hid (Below w.heap.size w w2) := hb.out.trans (g1.mono hb.out.size)
      clear s1 b1 g1 hcv
      go_wp2_with fail
      have r0 := BR.made w2 D
      have s0 : Below w.heap.size w (w2.alloc (.cells (madeCells #[.int .u8 0] D) 5)) := G1.out.alloc G1.out.size _
      generalize w2.alloc (.cells (madeCells #[.int .u8 0] D) 5) = w3 at r0 s0 ⊢
      obtain ⟨H2, HH2⟩ : ∃ H, Hid (w2.heap.size = H) := ⟨_, rfl⟩
      have hHH : Hid (w.heap.size ≤ H2) := by unfold Hid; rw [← HH2.out]; exact G1.out.size
      rw [HH2.out] at r0 ⊢
      have R0 : Hid (BR w3 H2 (yn 0 ++ List.replicate (2 * M - 2 * 0) 0)) := by unfold Hid; rw [← hDk.out]; exact r0
      have S0 := Lib.hid s0
      clear r0 s0
      go_loopw [9] (fun i wr => ∃ q p : Nat, q ≤ M ∧ Hid (p = 2 * q) ∧ i = .int .i64 p ∧ BR wr H2 (yn q ++ List.replicate (2 * M - 2 * q) 0) ∧ Hid (Below w.heap.size w wr)) (fun i _ => D - (intOf i).toNat)
      case atStart => exact ⟨0, 0, by omega, rfl, rfl, R0.out, S0⟩
      case round =>
        clear R0 S0
        obtain ⟨q, p, hq, hpq, rfl, hr, hb⟩ := hrel
        have hp2 := hpq.out
        have hd2 := hDk.out
        by_cases hlt : q < M
        · have j0 : (0 : Int) ≤ (p : Int) := by omega
          have j1 : (p : Int) < (D : Int) := by omega
          have j2 : (p : Int) + 1 < (D : Int) := by omega
          have j3 : (0 : Int) ≤ (p : Int) + 1 := by omega
          have j4 : ((p : Int) + 1).toNat = p + 1 := by omega
          have hlen : p < (yn q ++ List.replicate (2 * M - 2 * q) 0).length := by rw [List.length_append, yn_len]; simp; omega
          have hlen2 : p + 1 < ((yn q ++ List.replicate (2 * M - 2 * q) 0).set p 121).length := by rw [List.length_set, List.length_append, yn_len]; simp; omega
          have hc := hr.cell hlen
          have hf := hr.frozen p
          have hr2 := hr.set p 121 (z := 121) rfl
          have hc2 := hr2.cell hlen2
          have hf2 := hr2.frozen (p + 1)
          have hs : Hid (BR ((wr.setCell ⟨H2, p, none⟩ (.int .u8 121)).setCell ⟨H2, p + 1, none⟩ (.int .u8 10)) H2 (yn (q + 1) ++ List.replicate (2 * M - 2 * (q + 1)) 0)) := by
            unfold Hid; rw [hp2]; exact set_y hr hlt
          have hbb : Hid (Below w.heap.size w ((wr.setCell ⟨H2, p, none⟩ (.int .u8 121)).setCell ⟨H2, p + 1, none⟩ (.int .u8 10))) := by
            unfold Hid; exact (hb.out.setCell (p := ⟨H2, p, none⟩) hHH.out _).setCell (p := ⟨H2, p + 1, none⟩) hHH.out _
          have hpn : Hid (p + 2 = 2 * (q + 1)) := by unfold Hid; omega
          generalize ((yn q ++ List.replicate (2 * M - 2 * q) 0)[p]'hlen).toNat = q1 at hc
          generalize (((yn q ++ List.replicate (2 * M - 2 * q) 0).set p 121)[p + 1]'hlen2).toNat = q2 at hc2
          clear hr hr2 hlen hlen2 hp2 hd2
          go_wp2_with fail
          go_roundw
          case rel => exact ⟨q + 1, p + 2, by omega, hpn, by go_num, hs.out, hbb⟩
          case measure => simp [intOf]; omega
        · obtain rfl : q = M := by omega
          obtain rfl : p = D := by omega
          have j1 : ¬ (p : Int) < (p : Int) := by omega
          obtain ⟨Y, HY⟩ : ∃ Y, Hid (yn q = Y) := ⟨_, rfl⟩
          have hr2 : BR wr H2 Y := by rw [← HY.out]; simpa using hr
          have hYl : Y.length = p := by rw [← HY.out, yn_len]; omega
          have hcv := hr2.inn.convert p p hYl
          have hp := lines_any Y
          obtain ⟨E2, HE2⟩ : ∃ v, Hid (linesE Y = v) := ⟨_, rfl⟩
          obtain ⟨L2, HL2⟩ : ∃ v, Hid (linesL Y = v) := ⟨_, rfl⟩
          rw [HE2.out, HL2.out] at hp
          have HPY := Lib.hid hp
          clear hr hr2 hYl hp hp2 hd2
          go_wp2_with fail
          refine (HPY.out _).mono ?_
          rintro e w5 ⟨a', m', c', rfl, s2, c3, c4, b2, g2⟩
          have hm' : Hid (L2.length = m') := s2.1
          have G2 : Hid (Below w.heap.size w w5) := hb.out.trans (g2.mono hb.out.size)
          clear s2 b2 g2 hcv
          by_cases hk1 : k ≤ 1
          · obtain ⟨x1, x2⟩ := xs_lines j (by have := hNk.out; omega) (by have := hNk.out; omega)
            obtain ⟨y1, y2⟩ := yn_lines q (by have := hMk.out; omega)
            rw [HX.out] at x1 x2
            rw [HY.out] at y1 y2
            rw [HE1.out] at x1
            rw [HL1.out, hm.out] at x2
            rw [HE2.out] at y1
            rw [HL2.out, hm'.out] at y2
            subst x1 x2 y1 y2
            have t1 : (k : Int) ≤ 1 := by omega
            go_wp2_with (go_at_call 10; (with_reducible refine (awake_any _).mono ?_); rintro e w6 ⟨rfl, g6⟩)
            go_ret
            exact ⟨rfl, G2.out.trans (g6.mono G2.out.size)⟩
          · obtain ⟨x1, x2⟩ := xs_long j (by have := hNk.out; omega)
            obtain ⟨y1, y2⟩ := yn_long q (by have := hMk.out; omega) (by omega)
            rw [HX.out] at x1 x2
            rw [HY.out] at y1 y2
            rw [HE1.out] at x1
            have x3 : m = 0 := by rw [← hm.out, ← HL1.out, x2]; rfl
            rw [HE2.out] at y1
            have y3 : m' = 0 := by rw [← hm'.out, ← HL2.out, y2]; rfl
            clear x2 y2
            subst x1 x3 y1 y3
            have t1 : decide ((k : Int) ≤ 1) = false := by simp; omega
            go_wp2_with (go_at_call 10; (with_reducible refine (awake_any _).mono ?_); rintro e w6 ⟨rfl, g6⟩)
            go_ret
            exact ⟨rfl, G2.out.trans (g6.mono G2.out.size)⟩
end Go.Proofs.YtdacigihhbcppaaDoor

