/-
  The program's solve: Euclid's loop with one factor.
-/
import Derived.Test.YtehoafpnmfkniaaDivide
import Derived.Test.YtehoafpnmfkniaaEg
import Derived.Deep.RegionHeld3
import Derived.Deep.DeepCutAuto
import Derived.Deep.LoopGhost
set_option linter.unusedVariables false
set_option linter.unusedSimpArgs false
namespace Go.Proofs.Ytehoafpnmfkniaa
open Go.RowKit

theorem fromInt64_at (z : Int) (h1 : -9223372036854775808 ≤ z) (h2 : z ≤ 9223372036854775807) (w : World) : Calls Try.prog 76 #[.int .i64 z] w (RetZ w z) := fromInt64_any z h1 h2 w

/-- The divisor and the factor are handed back. -/
def RetSol (w : World) (a m : Int) (e : Ending) (w' : World) : Prop :=
  ∃ g x : Int, g = Int.gcd a m ∧ (∃ k, a * x = g + k * m) ∧ x.natAbs ≤ m.natAbs ∧ RetP w g x e w'

/-- A list entry for a variable that holds an integer. -/
abbrev vi (g : Nat) (s : Bool) (A : Option Addr) (n c : Nat) : Nat × TypeId × List Value := (g, 24, [.bool s, .slice A n c])

/-- The head of the loop. -/
def SolI (w wr : World) (h7 h8 : Nat) (a m : Int) (k : Nat) : Prop :=
  ∃ (g r x n : Int) (Aa Am Ag Ar Ax An : Option Addr) (na ca nm cm ng cg nr cr nx cx nn cn : Nat), k = r.natAbs ∧ Sol a m g r x n ∧
    St w wr [vi h8 (decide (n < 0)) An nn cn, vi h7 (decide (r < 0)) Ar nr cr, vi (w.heap.size + 1 + 1 + 1) (decide (x < 0)) Ax nx cx, vi (w.heap.size + 1 + 1) (decide (g < 0)) Ag ng cg, vi (w.heap.size + 1) (decide (m < 0)) Am nm cm, vi w.heap.size (decide (a < 0)) Aa na ca]
      [(decide (n < 0), An, nn, cn, n, true), (decide (r < 0), Ar, nr, cr, r, true), (decide (x < 0), Ax, nx, cx, x, true), (decide (g < 0), Ag, ng, cg, g, true), (decide (m < 0), Am, nm, cm, m, true), (decide (a < 0), Aa, na, ca, a, true)]

theorem CanAt.zero_ (w : World) : CanAt w false none 0 0 0 := ⟨rfl, by simp [digs_zero]; exact Dgs.none_, Nat.le_refl _, Nat.zero_le _⟩
theorem digs_len0 {w : World} {s : Bool} {A : Option Addr} {n c : Nat} {z : Int} (h : CanAt w s A n c z) (hz : z = 0) : n = 0 := by
  have := h.2.1.len
  subst hz
  simp [digs_zero] at this
  omega
theorem digs_lenp {w : World} {s : Bool} {A : Option Addr} {n c : Nat} {z : Int} (h : CanAt w s A n c z) (hz : z ≠ 0) : 0 < n := by
  have := h.2.1.len
  have := digs_pos_len (v := z.natAbs) (by omega)
  omega
theorem Sz.le {x y : Int} {k : Nat} (h : Sz y k) (hxy : x.natAbs ≤ y.natAbs) : Sz x k := Nat.lt_of_le_of_lt hxy h

set_option maxHeartbeats 8000000 in
set_option maxRecDepth 100000 in
theorem solve_at {w : World} {A A' : Option Addr} {n c n' c' : Nat} {a m : Int} (h : CanAt w (decide (a < 0)) A n c a) (h' : CanAt w (decide (m < 0)) A' n' c' m) (za : Sz a 200) (zm : Sz m 200) (hm : 0 < m) :
    Calls Try.prog 91 #[.agg #[.bool (decide (a < 0)), .slice A n c], .agg #[.bool (decide (m < 0)), .slice A' n' c']] w (RetSol w a m) := by
  have H0 := (((((((St.start w).add h).add h').new 24 (Plains.two (decide (a < 0)) A n c))).new 24 (Plains.two (decide (m < 0)) A' n' c')).new 24 (Plains.two false none 0 0)).new 24 (Plains.two false none 0 0)
  simp only [World.size_alloc] at H0
  have HH := Lib.hid H0
  have S0 := Lib.hid (Sol.start a hm)
  have HM := Lib.hid hm
  obtain ⟨q0, HQ0⟩ : ∃ v, Hid (dmQ a m = v) := ⟨_, rfl⟩
  obtain ⟨r0, HR0⟩ : ∃ v, Hid (dmR a m = v) := ⟨_, rfl⟩
  have hra : Hid (a % m = r0) := by rw [← HR0.out]; unfold Hid dmR; rw [if_neg (by omega), if_pos hm]
  have ka := za.ok
  have km := zm.ok
  obtain ⟨s, HS⟩ : ∃ v, Hid (decide (a < 0) = v) := ⟨_, rfl⟩
  obtain ⟨s', HS'⟩ : ∃ v, Hid (decide (m < 0) = v) := ⟨_, rfl⟩
  rw [HS.out, HS'.out]
  rw [HS.out, HS'.out] at HH
  clear H0 hm h h'
  go_enter Try.func91, Try.ntmps91
  go_upto_region 3 with (first
    | (go_at_call 92; have H := HH.out; clear HH; obtain ⟨i0, i1, _⟩ := H.ints; (with_reducible refine (divide_at (i1.ci ka) (i0.ci km)).mono ?_); rw [HQ0.out, HR0.out]; rintro e w1 ⟨A1, n1, c1, A2, n2, c2, rfl, d1, d2, g⟩; have K := ((H.call g).add d2).new 24 (Plains.two (decide (q0 < 0)) A1 n1 c1) |>.new 24 (Plains.two (decide (r0 < 0)) A2 n2 c2); obtain ⟨_, _, ⟨p0, p1⟩, ⟨p2, p3⟩, ⟨p4, p5⟩, _⟩ := K.facts; obtain ⟨f0, f1⟩ := K.free (i := 2) rfl; obtain ⟨f2, f3⟩ := K.free (i := 3) rfl; clear i0 i1 H)
    | fail)
  have K2 := (K.put 3 rfl s' A' n' c').put 2 rfl false none 0 0
  simp only [List.set, World.size_alloc] at K2
  clear K p0 p1 p2 p3 p4 p5 f0 f1 f2 f3 g d1 d2
  generalize (((((w1.alloc (.cells #[.bool (decide (q0 < 0)), .slice A1 n1 c1] 24)).alloc (.cells #[.bool (decide (r0 < 0)), .slice A2 n2 c2] 24)).setCell ⟨w.heap.size + 1 + 1, 0, none⟩ (.bool s')).setCell ⟨w.heap.size + 1 + 1, 1, none⟩ (.slice A' n' c')).setCell ⟨w.heap.size + 1 + 1 + 1, 0, none⟩ (.bool false)).setCell ⟨w.heap.size + 1 + 1 + 1, 1, none⟩ (.slice none 0 0) = W at K2 ⊢
  generalize w1.heap.size = h6 at K2 ⊢
  obtain ⟨h7, H7⟩ : ∃ v, v = h6 + 1 := ⟨_, rfl⟩
  rw [← H7] at K2 ⊢
  clear H7
  go_wp2_with (first
    | (go_at_call 76; (with_reducible refine (fromInt64_at 1 (by decide) (by decide) _).mono ?_); rintro e w3 ⟨A3, n3, c3, rfl, d3, u3, v3, g3⟩; have K3 := ((K2.call g3).add (show CanAt w3 false A3 n3 c3 1 from CanAt.mk_ d3 u3 v3)).new 24 (Plains.two false A3 n3 c3))
    | fail)
  generalize w3.heap.size = h8 at K3 ⊢
  have HK3 : SolI w (w3.alloc (.cells #[.bool false, .slice A3 n3 c3] 24)) h7 h8 a m r0.natAbs := by
    have K4 := K3.erase 2
    simp only [List.eraseIdx] at K4
    rw [← HS.out, ← HS'.out] at K4
    obtain ⟨i3, i2, im, ia, _⟩ := K4.ints
    exact ⟨m, r0, 0, 1, A, A', A', A2, none, A3, n, c, n', c', n', c', n2, c2, 0, 0, n3, c3, rfl, by rw [← hra.out]; exact S0.out, K4.ints_ ⟨i3, i2, Ent.mk_ (CanAt.zero_ _), im, im, ia, trivial⟩⟩
  go_loopg [] r0.natAbs (fun k wr => SolI w wr h7 h8 a m k)
  case atStart => exact HK3
  case round =>
    clear HK3 K3 K2
    obtain ⟨g, r, x, y, Aa, Am, Ag, Ar, Ax, Ay, na, ca, nm, cm, ng, cg, nr, cr, nx, cx, ny, cy, hk, hS, K⟩ := hrel
    by_cases hr : r = 0
    · have HL := Lib.hid (hS.last hr)
      have HN := Lib.hid hS.next_le
      obtain ⟨_, ir, _, _, _, _, _⟩ := K.ints
      obtain rfl := digs_len0 ir.c hr
      clear hS hk hr ir
      obtain ⟨_, ⟨p0, p1⟩, ⟨p2, p3⟩, ⟨p4, p5⟩, _⟩ := K.facts
      obtain ⟨f0, f1⟩ := K.free (i := 2) rfl
      obtain ⟨f2, f3⟩ := K.free (i := 3) rfl
      go_wp2
      go_region
      all_goals
        have K9 := ((K.put 3 rfl (decide (g < 0)) Ag ng cg).put 2 rfl (decide (x < 0)) Ax nx cx).drew
        simp only [List.set] at K9
        go_wp2
      all_goals
        generalize ((((wr.setCell ⟨w.heap.size + 1 + 1, 0, none⟩ (.bool (decide (g < 0)))).setCell ⟨w.heap.size + 1 + 1, 1, none⟩ (.slice Ag ng cg)).setCell ⟨w.heap.size + 1 + 1 + 1, 0, none⟩ (.bool (decide (x < 0)))).setCell ⟨w.heap.size + 1 + 1 + 1, 1, none⟩ (.slice Ax nx cx)).drew = W9 at K9 ⊢
        obtain ⟨_, _, ⟨r0, r1⟩, ⟨r2, r3⟩, _⟩ := K9.facts
        obtain ⟨_, _, ix, ig, _, _, _⟩ := K9.ints
        exact bodyPost_ret (v := .tuple #[.agg #[.bool (decide (g < 0)), .slice Ag ng cg], .agg #[.bool (decide (x < 0)), .slice Ax nx cx]]) (by simp [results, Try.results91, go_sem, r0, r1, r2, r3]) rfl
          ⟨g, x, HL.out.1, HL.out.2, HN.out.2, RetP.mk_ (K9.ints_ (k' := [(decide (x < 0), Ax, nx, cx, x, true), (decide (g < 0), Ag, ng, cg, g, true)]) ⟨ix, ig, trivial⟩)⟩
    · obtain ⟨q, HQ⟩ : ∃ v, Hid (dmQ g r = v) := ⟨_, rfl⟩
      obtain ⟨p, HP⟩ : ∃ v, Hid (dmR g r = v) := ⟨_, rfl⟩
      obtain ⟨t, HT⟩ : ∃ v, Hid (q * y = v) := ⟨_, rfl⟩
      obtain ⟨z, HZ⟩ : ∃ v, Hid (x - t = v) := ⟨_, rfl⟩
      have hr0 : 0 < r := by obtain ⟨X, N, s, -, -, -, -, -, -, -, -, h, -⟩ := hS; omega
      have hqe : dmQ g r = g / r := by unfold dmQ; rw [if_neg (by omega), if_pos hr0]
      have hpe : dmR g r = g % r := by unfold dmR; rw [if_neg (by omega), if_pos hr0]
      have HS2 : Hid (Sol a m r p y z) := by
        have := hS.step hr0
        rw [← hqe, ← hpe, HQ.out, HP.out, HT.out, HZ.out] at this
        exact this
      have hgm : g.natAbs ≤ m.natAbs ∧ r.natAbs ≤ m.natAbs := by obtain ⟨X, N, s, -, -, -, -, -, -, -, h1, h2, h3, h4, -⟩ := hS; omega
      have zg := zm.le hgm.1
      have zr := zm.le hgm.2
      have zy := zm.le hS.next_le.1
      have zx := zm.le hS.next_le.2
      have zq : Sz q 201 := by rw [← HQ.out]; exact dmQ_sz zg
      have kg := zg.ok
      have kr := zr.ok
      have ky := zy.ok
      have kx := zx.ok
      have kq := zq.ok
      have kt : (digs t.natAbs).length ≤ 1000000 := by rw [← HT.out]; exact (zq.mul zy).ok
      have HPR : Hid (p.natAbs < r.natAbs) := by rw [← HP.out]; exact (euclid_rest g hr).2
      obtain ⟨iy, ir, ix, ig, im, ia, _⟩ := K.ints
      have hn1 : 0 < nr := digs_lenp ir.c hr
      have HK := Lib.hid hk
      clear hS hk hr hr0 hqe hpe hgm
      obtain ⟨⟨a0, a1⟩, ⟨p0, p1⟩, ⟨p2, p3⟩, ⟨p4, p5⟩, _⟩ := K.facts
      go_upto_region 6 with (first
        | (go_at_call 92; (with_reducible refine (divide_at (ig.ci kg) (ir.ci kr)).mono ?_); rw [HQ.out, HP.out]; rintro e w5 ⟨A5, n5, c5, A6, n6, c6, rfl, d5, d6, g5⟩; have K5 := (((K.call g5).add d5).add d6).new 24 (Plains.two (decide (q < 0)) A5 n5 c5) |>.new 24 (Plains.two (decide (p < 0)) A6 n6 c6))
        | fail)
      simp only [World.size_alloc] at K5
      clear iy ir ix ig im ia a0 a1 p0 p1 p2 p3 p4 p5 d5 d6 g5 K
      generalize (w5.alloc (.cells #[.bool (decide (q < 0)), .slice A5 n5 c5] 24)).alloc (.cells #[.bool (decide (p < 0)), .slice A6 n6 c6] 24) = W5 at K5 ⊢
      generalize w5.heap.size = h9 at K5 ⊢
      obtain ⟨h10, H10⟩ : ∃ v, v = h9 + 1 := ⟨_, rfl⟩
      rw [← H10] at K5 ⊢
      clear H10
      obtain ⟨z1, z2⟩ := K5.ne 0 5 rfl rfl (by decide)
      obtain ⟨z3, z4⟩ := K5.ne 3 5 rfl rfl (by decide)
      go_cut [] (fun wx => St w wx [vi h10 (decide (p < 0)) A6 n6 c6, vi h9 (decide (q < 0)) A5 n5 c5, vi h8 (decide (y < 0)) Ay ny cy, vi h7 (decide (p < 0)) A6 n6 c6, vi (w.heap.size + 1 + 1 + 1) (decide (x < 0)) Ax nx cx, vi (w.heap.size + 1 + 1) (decide (r < 0)) Ar nr cr, vi (w.heap.size + 1) (decide (m < 0)) Am nm cm, vi w.heap.size (decide (a < 0)) Aa na ca]
        [(decide (p < 0), A6, n6, c6, p, true), (decide (q < 0), A5, n5, c5, q, true), (decide (y < 0), Ay, ny, cy, y, true), (decide (r < 0), Ar, nr, cr, r, true), (decide (x < 0), Ax, nx, cx, x, true), (decide (g < 0), Ag, ng, cg, g, true), (decide (m < 0), Am, nm, cm, m, true), (decide (a < 0), Aa, na, ca, a, true)])
      case first =>
        obtain ⟨⟨p0, p1⟩, _, _, ⟨p2, p3⟩, _, ⟨p4, p5⟩, _⟩ := K5.facts
        obtain ⟨f0, f1⟩ := K5.free (i := 3) rfl
        obtain ⟨f2, f3⟩ := K5.free (i := 5) rfl
        go_region
        all_goals (go_wp2_with fail; go_meet; exact ((K5.put 5 rfl (decide (r < 0)) Ar nr cr).put 3 rfl (decide (p < 0)) A6 n6 c6).drew)
      case rest =>
        clear K5 z1 z2 z3 z4
        have K6 := hcut
        clear hcut
        obtain ⟨z1, z2⟩ := K6.ne 1 2 rfl rfl (by decide)
        obtain ⟨z3, z4⟩ := K6.ne 1 4 rfl rfl (by decide)
        obtain ⟨z5, z6⟩ := K6.ne 2 4 rfl rfl (by decide)
        obtain ⟨_, ⟨p0, p1⟩, ⟨p2, p3⟩, _, ⟨p4, p5⟩, _⟩ := K6.facts
        have K7 := K6.drew
        clear K6
        go_wp2_with fail
        obtain ⟨_, iq, iy, _, ix, _⟩ := K7.ints
        refine wp_region_held_drew (S := fun w' => w'.cell? ⟨h9, 0, none⟩ = some (.bool (decide (q < 0))) ∧ w'.cell? ⟨h9, 1, none⟩ = some (.slice A5 n5 c5)) (by kernel_rfl) ?_ (fun hHeld0 => ?_)
        · ((try dsimp only); go_keep)
        refine wpAnyH_take (i := 2) (oi := ⟨some 34, _, _, _, _, _⟩) (v := ?_) rfl (by kernel_rfl) (by kernel_rfl) (by kernel_rfl) (fun _ _ _ h => h) (Or.inl ⟨by rfl, ?_⟩) (by assumption) ?_
        rotate_left
        · (intro w' hSw; (try dsimp only at hSw); go_simp; (try with_reducible rfl))
        (try simp only [Act.put, List.setIfInBounds_toArray, List.set_cons_zero, List.set_cons_succ])
        refine wpAnyH_ready (rs := [0, 1, 3]) (by kernel_rfl) (by simp) ?_
        refine AllReadyH.cons (o := ⟨some 32, _, _, _, _, _⟩) rfl (fun K hK => ?_) ?_
        · skip
          go_simp
          refine hK.out _ _ ?_ (fun hHeld1 => ?_)
          · ((try dsimp only); go_keep)
          clear hK K hHeld0
          (try simp only [Act.put, List.setIfInBounds_toArray, List.set_cons_zero, List.set_cons_succ])
          refine wpAnyH_ready (rs := [1, 3]) (by kernel_rfl) (by simp) ?_
          refine AllReadyH.cons (o := ⟨some 33, _, _, _, _, _⟩) rfl (fun K hK => ?_) ?_
          · skip
            go_simp
            refine hK.out _ _ ?_ (fun hHeld2 => ?_)
            · ((try dsimp only); go_keep)
            clear hK K hHeld1
            (try simp only [Act.put, List.setIfInBounds_toArray, List.set_cons_zero, List.set_cons_succ])
            refine wpAnyH_ready (rs := [3]) (by kernel_rfl) (by simp) ?_
            refine AllReadyH.cons (o := ⟨some 35, _, _, _, _, _⟩) rfl (fun K hK => ?_) AllReadyH.nil
            go_simp
            refine hK.out _ _ ?_ (fun hHeld3 => ?_)
            · ((try dsimp only); go_keep)
            clear hK K hHeld2
            (try simp only [Act.put, List.setIfInBounds_toArray, List.set_cons_zero, List.set_cons_succ])
            refine wpAnyH_ready (rs := [4]) (by kernel_rfl) (by simp) ?_
            refine AllReadyH.cons (o := ⟨some 36, _, _, _, _, _⟩) rfl (fun K hK => ?_) AllReadyH.nil
            go_simp
            (first | (go_at_call 23; (with_reducible refine (mul_at (iq.ci kq) (iy.ci ky)).mono ?_); rw [HT.out]; rintro e w7 ⟨A7, n7, c7, rfl, d7, u7, v7, g7⟩; have K8 := (K7.call g7).add (CanAt.mk_ d7 u7 v7); clear p0 p1 p2 p3 p4 p5; obtain ⟨_, ⟨p0, p1⟩, ⟨p2, p3⟩, _, ⟨p4, p5⟩, _⟩ := K8.facts; obtain ⟨i7, _, _, _, _, jx, _⟩ := K8.ints) | (go_at_call 93; (with_reducible refine (sub_at (jx.ci kx) (i7.ci kt)).mono ?_); rw [HZ.out]; rintro e w8 ⟨A8, n8, c8, rfl, d8, u8, v8, g8⟩; have K9 := (K8.call g8).add (CanAt.mk_ d8 u8 v8); clear p0 p1 p2 p3 p4 p5; obtain ⟨_, ⟨p0, p1⟩, ⟨p2, p3⟩, _, ⟨p4, p5⟩, _⟩ := K9.facts; obtain ⟨f0, f1⟩ := K9.free (i := 2) rfl; obtain ⟨f2, f3⟩ := K9.free (i := 4) rfl) | fail)
            (try go_wp2_with fail)
            refine hK.out _ _ ?_ (fun hHeld4 => ?_)
            · ((try dsimp only); go_keep)
            clear hK K hHeld3
            (try simp only [Act.put, List.setIfInBounds_toArray, List.set_cons_zero, List.set_cons_succ])
            refine wpAnyH_ready (rs := [5]) (by kernel_rfl) (by simp) ?_
            refine AllReadyH.cons (o := ⟨some 37, _, _, _, _, _⟩) rfl (fun K hK => ?_) AllReadyH.nil
            go_simp
            (first | (go_at_call 23; (with_reducible refine (mul_at (iq.ci kq) (iy.ci ky)).mono ?_); rw [HT.out]; rintro e w7 ⟨A7, n7, c7, rfl, d7, u7, v7, g7⟩; have K8 := (K7.call g7).add (CanAt.mk_ d7 u7 v7); clear p0 p1 p2 p3 p4 p5; obtain ⟨_, ⟨p0, p1⟩, ⟨p2, p3⟩, _, ⟨p4, p5⟩, _⟩ := K8.facts; obtain ⟨i7, _, _, _, _, jx, _⟩ := K8.ints) | (go_at_call 93; (with_reducible refine (sub_at (jx.ci kx) (i7.ci kt)).mono ?_); rw [HZ.out]; rintro e w8 ⟨A8, n8, c8, rfl, d8, u8, v8, g8⟩; have K9 := (K8.call g8).add (CanAt.mk_ d8 u8 v8); clear p0 p1 p2 p3 p4 p5; obtain ⟨_, ⟨p0, p1⟩, ⟨p2, p3⟩, _, ⟨p4, p5⟩, _⟩ := K9.facts; obtain ⟨f0, f1⟩ := K9.free (i := 2) rfl; obtain ⟨f2, f3⟩ := K9.free (i := 4) rfl) | fail)
            (try go_wp2_with fail)
            refine hK.out _ _ ?_ (fun hHeld5 => ?_)
            · ((try dsimp only); go_keep)
            clear hK K hHeld4
            (try simp only [Act.put, List.setIfInBounds_toArray, List.set_cons_zero, List.set_cons_succ])
            refine wpAnyH_ready (rs := [6]) (by kernel_rfl) (by simp) ?_
            refine AllReadyH.cons (o := ⟨none, _, _, _, _, _⟩) rfl (fun K hK => ?_) AllReadyH.nil
            go_simp
            refine hK.out _ _ ?_ (fun hHeld6 => ?_)
            · ((try dsimp only); go_keep)
            clear hK K hHeld5
            (try simp only [Act.put, List.setIfInBounds_toArray, List.set_cons_zero, List.set_cons_succ])
            refine wpAnyH_ready (rs := [7]) (by kernel_rfl) (by simp) ?_
            refine AllReadyH.cons (o := ⟨none, _, _, _, _, _⟩) rfl (fun K hK => ?_) AllReadyH.nil
            go_simp
            refine hK.out _ _ ?_ (fun hHeld7 => ?_)
            · ((try dsimp only); go_keep)
            clear hK K hHeld6
            (try simp only [Act.put, List.setIfInBounds_toArray, List.set_cons_zero, List.set_cons_succ])
            refine wpAnyH_done (by kernel_rfl) ?_ _
            have KA := (K9.put 4 rfl (decide (y < 0)) Ay ny cy).put 2 rfl (decide (z < 0)) A8 n8 c8
            simp only [List.set] at KA
            go_wp2_with fail
            go_roundg p.natAbs
            case rel =>
              have KB := (KA.erase 1).erase 0
              simp only [List.eraseIdx] at KB
              obtain ⟨iz, _, ip, _, iy, ir, _, _, im, ia, _⟩ := KB.ints
              exact ⟨r, p, y, z, Aa, Am, Ar, A6, Ay, A8, na, ca, nm, cm, nr, cr, n6, c6, ny, cy, n8, c8, rfl, HS2.out, KB.ints_ ⟨iz, ip, iy, ir, im, ia, trivial⟩⟩
            case measure => (have := HPR.out; have := HK.out; omega)
          refine AllReadyH.cons (o := ⟨some 35, _, _, _, _, _⟩) rfl (fun K hK => ?_) AllReadyH.nil
          go_simp
          refine hK.out _ _ ?_ (fun hHeld2 => ?_)
          · ((try dsimp only); go_keep)
          clear hK K hHeld1
          (try simp only [Act.put, List.setIfInBounds_toArray, List.set_cons_zero, List.set_cons_succ])
          refine wpAnyH_ready (rs := [1, 4]) (by kernel_rfl) (by simp) ?_
          refine AllReadyH.cons (o := ⟨some 33, _, _, _, _, _⟩) rfl (fun K hK => ?_) ?_
          · skip
            go_simp
            refine hK.out _ _ ?_ (fun hHeld3 => ?_)
            · ((try dsimp only); go_keep)
            clear hK K hHeld2
            (try simp only [Act.put, List.setIfInBounds_toArray, List.set_cons_zero, List.set_cons_succ])
            refine wpAnyH_ready (rs := [4]) (by kernel_rfl) (by simp) ?_
            refine AllReadyH.cons (o := ⟨some 36, _, _, _, _, _⟩) rfl (fun K hK => ?_) AllReadyH.nil
            go_simp
            (first | (go_at_call 23; (with_reducible refine (mul_at (iq.ci kq) (iy.ci ky)).mono ?_); rw [HT.out]; rintro e w7 ⟨A7, n7, c7, rfl, d7, u7, v7, g7⟩; have K8 := (K7.call g7).add (CanAt.mk_ d7 u7 v7); clear p0 p1 p2 p3 p4 p5; obtain ⟨_, ⟨p0, p1⟩, ⟨p2, p3⟩, _, ⟨p4, p5⟩, _⟩ := K8.facts; obtain ⟨i7, _, _, _, _, jx, _⟩ := K8.ints) | (go_at_call 93; (with_reducible refine (sub_at (jx.ci kx) (i7.ci kt)).mono ?_); rw [HZ.out]; rintro e w8 ⟨A8, n8, c8, rfl, d8, u8, v8, g8⟩; have K9 := (K8.call g8).add (CanAt.mk_ d8 u8 v8); clear p0 p1 p2 p3 p4 p5; obtain ⟨_, ⟨p0, p1⟩, ⟨p2, p3⟩, _, ⟨p4, p5⟩, _⟩ := K9.facts; obtain ⟨f0, f1⟩ := K9.free (i := 2) rfl; obtain ⟨f2, f3⟩ := K9.free (i := 4) rfl) | fail)
            (try go_wp2_with fail)
            refine hK.out _ _ ?_ (fun hHeld4 => ?_)
            · ((try dsimp only); go_keep)
            clear hK K hHeld3
            (try simp only [Act.put, List.setIfInBounds_toArray, List.set_cons_zero, List.set_cons_succ])
            refine wpAnyH_ready (rs := [5]) (by kernel_rfl) (by simp) ?_
            refine AllReadyH.cons (o := ⟨some 37, _, _, _, _, _⟩) rfl (fun K hK => ?_) AllReadyH.nil
            go_simp
            (first | (go_at_call 23; (with_reducible refine (mul_at (iq.ci kq) (iy.ci ky)).mono ?_); rw [HT.out]; rintro e w7 ⟨A7, n7, c7, rfl, d7, u7, v7, g7⟩; have K8 := (K7.call g7).add (CanAt.mk_ d7 u7 v7); clear p0 p1 p2 p3 p4 p5; obtain ⟨_, ⟨p0, p1⟩, ⟨p2, p3⟩, _, ⟨p4, p5⟩, _⟩ := K8.facts; obtain ⟨i7, _, _, _, _, jx, _⟩ := K8.ints) | (go_at_call 93; (with_reducible refine (sub_at (jx.ci kx) (i7.ci kt)).mono ?_); rw [HZ.out]; rintro e w8 ⟨A8, n8, c8, rfl, d8, u8, v8, g8⟩; have K9 := (K8.call g8).add (CanAt.mk_ d8 u8 v8); clear p0 p1 p2 p3 p4 p5; obtain ⟨_, ⟨p0, p1⟩, ⟨p2, p3⟩, _, ⟨p4, p5⟩, _⟩ := K9.facts; obtain ⟨f0, f1⟩ := K9.free (i := 2) rfl; obtain ⟨f2, f3⟩ := K9.free (i := 4) rfl) | fail)
            (try go_wp2_with fail)
            refine hK.out _ _ ?_ (fun hHeld5 => ?_)
            · ((try dsimp only); go_keep)
            clear hK K hHeld4
            (try simp only [Act.put, List.setIfInBounds_toArray, List.set_cons_zero, List.set_cons_succ])
            refine wpAnyH_ready (rs := [6]) (by kernel_rfl) (by simp) ?_
            refine AllReadyH.cons (o := ⟨none, _, _, _, _, _⟩) rfl (fun K hK => ?_) AllReadyH.nil
            go_simp
            refine hK.out _ _ ?_ (fun hHeld6 => ?_)
            · ((try dsimp only); go_keep)
            clear hK K hHeld5
            (try simp only [Act.put, List.setIfInBounds_toArray, List.set_cons_zero, List.set_cons_succ])
            refine wpAnyH_ready (rs := [7]) (by kernel_rfl) (by simp) ?_
            refine AllReadyH.cons (o := ⟨none, _, _, _, _, _⟩) rfl (fun K hK => ?_) AllReadyH.nil
            go_simp
            refine hK.out _ _ ?_ (fun hHeld7 => ?_)
            · ((try dsimp only); go_keep)
            clear hK K hHeld6
            (try simp only [Act.put, List.setIfInBounds_toArray, List.set_cons_zero, List.set_cons_succ])
            refine wpAnyH_done (by kernel_rfl) ?_ _
            have KA := (K9.put 4 rfl (decide (y < 0)) Ay ny cy).put 2 rfl (decide (z < 0)) A8 n8 c8
            simp only [List.set] at KA
            go_wp2_with fail
            go_roundg p.natAbs
            case rel =>
              have KB := (KA.erase 1).erase 0
              simp only [List.eraseIdx] at KB
              obtain ⟨iz, _, ip, _, iy, ir, _, _, im, ia, _⟩ := KB.ints
              exact ⟨r, p, y, z, Aa, Am, Ar, A6, Ay, A8, na, ca, nm, cm, nr, cr, n6, c6, ny, cy, n8, c8, rfl, HS2.out, KB.ints_ ⟨iz, ip, iy, ir, im, ia, trivial⟩⟩
            case measure => (have := HPR.out; have := HK.out; omega)
          refine AllReadyH.cons (o := ⟨some 36, _, _, _, _, _⟩) rfl (fun K hK => ?_) AllReadyH.nil
          go_simp
          (first | (go_at_call 23; (with_reducible refine (mul_at (iq.ci kq) (iy.ci ky)).mono ?_); rw [HT.out]; rintro e w7 ⟨A7, n7, c7, rfl, d7, u7, v7, g7⟩; have K8 := (K7.call g7).add (CanAt.mk_ d7 u7 v7); clear p0 p1 p2 p3 p4 p5; obtain ⟨_, ⟨p0, p1⟩, ⟨p2, p3⟩, _, ⟨p4, p5⟩, _⟩ := K8.facts; obtain ⟨i7, _, _, _, _, jx, _⟩ := K8.ints) | (go_at_call 93; (with_reducible refine (sub_at (jx.ci kx) (i7.ci kt)).mono ?_); rw [HZ.out]; rintro e w8 ⟨A8, n8, c8, rfl, d8, u8, v8, g8⟩; have K9 := (K8.call g8).add (CanAt.mk_ d8 u8 v8); clear p0 p1 p2 p3 p4 p5; obtain ⟨_, ⟨p0, p1⟩, ⟨p2, p3⟩, _, ⟨p4, p5⟩, _⟩ := K9.facts; obtain ⟨f0, f1⟩ := K9.free (i := 2) rfl; obtain ⟨f2, f3⟩ := K9.free (i := 4) rfl) | fail)
          (try go_wp2_with fail)
          refine hK.out _ _ ?_ (fun hHeld3 => ?_)
          · ((try dsimp only); go_keep)
          clear hK K hHeld2
          (try simp only [Act.put, List.setIfInBounds_toArray, List.set_cons_zero, List.set_cons_succ])
          refine wpAnyH_ready (rs := [1]) (by kernel_rfl) (by simp) ?_
          refine AllReadyH.cons (o := ⟨some 33, _, _, _, _, _⟩) rfl (fun K hK => ?_) AllReadyH.nil
          go_simp
          refine hK.out _ _ ?_ (fun hHeld4 => ?_)
          · ((try dsimp only); go_keep)
          clear hK K hHeld3
          (try simp only [Act.put, List.setIfInBounds_toArray, List.set_cons_zero, List.set_cons_succ])
          refine wpAnyH_ready (rs := [5]) (by kernel_rfl) (by simp) ?_
          refine AllReadyH.cons (o := ⟨some 37, _, _, _, _, _⟩) rfl (fun K hK => ?_) AllReadyH.nil
          go_simp
          (first | (go_at_call 23; (with_reducible refine (mul_at (iq.ci kq) (iy.ci ky)).mono ?_); rw [HT.out]; rintro e w7 ⟨A7, n7, c7, rfl, d7, u7, v7, g7⟩; have K8 := (K7.call g7).add (CanAt.mk_ d7 u7 v7); clear p0 p1 p2 p3 p4 p5; obtain ⟨_, ⟨p0, p1⟩, ⟨p2, p3⟩, _, ⟨p4, p5⟩, _⟩ := K8.facts; obtain ⟨i7, _, _, _, _, jx, _⟩ := K8.ints) | (go_at_call 93; (with_reducible refine (sub_at (jx.ci kx) (i7.ci kt)).mono ?_); rw [HZ.out]; rintro e w8 ⟨A8, n8, c8, rfl, d8, u8, v8, g8⟩; have K9 := (K8.call g8).add (CanAt.mk_ d8 u8 v8); clear p0 p1 p2 p3 p4 p5; obtain ⟨_, ⟨p0, p1⟩, ⟨p2, p3⟩, _, ⟨p4, p5⟩, _⟩ := K9.facts; obtain ⟨f0, f1⟩ := K9.free (i := 2) rfl; obtain ⟨f2, f3⟩ := K9.free (i := 4) rfl) | fail)
          (try go_wp2_with fail)
          refine hK.out _ _ ?_ (fun hHeld5 => ?_)
          · ((try dsimp only); go_keep)
          clear hK K hHeld4
          (try simp only [Act.put, List.setIfInBounds_toArray, List.set_cons_zero, List.set_cons_succ])
          refine wpAnyH_ready (rs := [6]) (by kernel_rfl) (by simp) ?_
          refine AllReadyH.cons (o := ⟨none, _, _, _, _, _⟩) rfl (fun K hK => ?_) AllReadyH.nil
          go_simp
          refine hK.out _ _ ?_ (fun hHeld6 => ?_)
          · ((try dsimp only); go_keep)
          clear hK K hHeld5
          (try simp only [Act.put, List.setIfInBounds_toArray, List.set_cons_zero, List.set_cons_succ])
          refine wpAnyH_ready (rs := [7]) (by kernel_rfl) (by simp) ?_
          refine AllReadyH.cons (o := ⟨none, _, _, _, _, _⟩) rfl (fun K hK => ?_) AllReadyH.nil
          go_simp
          refine hK.out _ _ ?_ (fun hHeld7 => ?_)
          · ((try dsimp only); go_keep)
          clear hK K hHeld6
          (try simp only [Act.put, List.setIfInBounds_toArray, List.set_cons_zero, List.set_cons_succ])
          refine wpAnyH_done (by kernel_rfl) ?_ _
          have KA := (K9.put 4 rfl (decide (y < 0)) Ay ny cy).put 2 rfl (decide (z < 0)) A8 n8 c8
          simp only [List.set] at KA
          go_wp2_with fail
          go_roundg p.natAbs
          case rel =>
            have KB := (KA.erase 1).erase 0
            simp only [List.eraseIdx] at KB
            obtain ⟨iz, _, ip, _, iy, ir, _, _, im, ia, _⟩ := KB.ints
            exact ⟨r, p, y, z, Aa, Am, Ar, A6, Ay, A8, na, ca, nm, cm, nr, cr, n6, c6, ny, cy, n8, c8, rfl, HS2.out, KB.ints_ ⟨iz, ip, iy, ir, im, ia, trivial⟩⟩
          case measure => (have := HPR.out; have := HK.out; omega)
        refine AllReadyH.cons (o := ⟨some 33, _, _, _, _, _⟩) rfl (fun K hK => ?_) ?_
        · skip
          go_simp
          refine hK.out _ _ ?_ (fun hHeld1 => ?_)
          · ((try dsimp only); go_keep)
          clear hK K hHeld0
          (try simp only [Act.put, List.setIfInBounds_toArray, List.set_cons_zero, List.set_cons_succ])
          refine wpAnyH_ready (rs := [0, 3]) (by kernel_rfl) (by simp) ?_
          refine AllReadyH.cons (o := ⟨some 32, _, _, _, _, _⟩) rfl (fun K hK => ?_) ?_
          · skip
            go_simp
            refine hK.out _ _ ?_ (fun hHeld2 => ?_)
            · ((try dsimp only); go_keep)
            clear hK K hHeld1
            (try simp only [Act.put, List.setIfInBounds_toArray, List.set_cons_zero, List.set_cons_succ])
            refine wpAnyH_ready (rs := [3]) (by kernel_rfl) (by simp) ?_
            refine AllReadyH.cons (o := ⟨some 35, _, _, _, _, _⟩) rfl (fun K hK => ?_) AllReadyH.nil
            go_simp
            refine hK.out _ _ ?_ (fun hHeld3 => ?_)
            · ((try dsimp only); go_keep)
            clear hK K hHeld2
            (try simp only [Act.put, List.setIfInBounds_toArray, List.set_cons_zero, List.set_cons_succ])
            refine wpAnyH_ready (rs := [4]) (by kernel_rfl) (by simp) ?_
            refine AllReadyH.cons (o := ⟨some 36, _, _, _, _, _⟩) rfl (fun K hK => ?_) AllReadyH.nil
            go_simp
            (first | (go_at_call 23; (with_reducible refine (mul_at (iq.ci kq) (iy.ci ky)).mono ?_); rw [HT.out]; rintro e w7 ⟨A7, n7, c7, rfl, d7, u7, v7, g7⟩; have K8 := (K7.call g7).add (CanAt.mk_ d7 u7 v7); clear p0 p1 p2 p3 p4 p5; obtain ⟨_, ⟨p0, p1⟩, ⟨p2, p3⟩, _, ⟨p4, p5⟩, _⟩ := K8.facts; obtain ⟨i7, _, _, _, _, jx, _⟩ := K8.ints) | (go_at_call 93; (with_reducible refine (sub_at (jx.ci kx) (i7.ci kt)).mono ?_); rw [HZ.out]; rintro e w8 ⟨A8, n8, c8, rfl, d8, u8, v8, g8⟩; have K9 := (K8.call g8).add (CanAt.mk_ d8 u8 v8); clear p0 p1 p2 p3 p4 p5; obtain ⟨_, ⟨p0, p1⟩, ⟨p2, p3⟩, _, ⟨p4, p5⟩, _⟩ := K9.facts; obtain ⟨f0, f1⟩ := K9.free (i := 2) rfl; obtain ⟨f2, f3⟩ := K9.free (i := 4) rfl) | fail)
            (try go_wp2_with fail)
            refine hK.out _ _ ?_ (fun hHeld4 => ?_)
            · ((try dsimp only); go_keep)
            clear hK K hHeld3
            (try simp only [Act.put, List.setIfInBounds_toArray, List.set_cons_zero, List.set_cons_succ])
            refine wpAnyH_ready (rs := [5]) (by kernel_rfl) (by simp) ?_
            refine AllReadyH.cons (o := ⟨some 37, _, _, _, _, _⟩) rfl (fun K hK => ?_) AllReadyH.nil
            go_simp
            (first | (go_at_call 23; (with_reducible refine (mul_at (iq.ci kq) (iy.ci ky)).mono ?_); rw [HT.out]; rintro e w7 ⟨A7, n7, c7, rfl, d7, u7, v7, g7⟩; have K8 := (K7.call g7).add (CanAt.mk_ d7 u7 v7); clear p0 p1 p2 p3 p4 p5; obtain ⟨_, ⟨p0, p1⟩, ⟨p2, p3⟩, _, ⟨p4, p5⟩, _⟩ := K8.facts; obtain ⟨i7, _, _, _, _, jx, _⟩ := K8.ints) | (go_at_call 93; (with_reducible refine (sub_at (jx.ci kx) (i7.ci kt)).mono ?_); rw [HZ.out]; rintro e w8 ⟨A8, n8, c8, rfl, d8, u8, v8, g8⟩; have K9 := (K8.call g8).add (CanAt.mk_ d8 u8 v8); clear p0 p1 p2 p3 p4 p5; obtain ⟨_, ⟨p0, p1⟩, ⟨p2, p3⟩, _, ⟨p4, p5⟩, _⟩ := K9.facts; obtain ⟨f0, f1⟩ := K9.free (i := 2) rfl; obtain ⟨f2, f3⟩ := K9.free (i := 4) rfl) | fail)
            (try go_wp2_with fail)
            refine hK.out _ _ ?_ (fun hHeld5 => ?_)
            · ((try dsimp only); go_keep)
            clear hK K hHeld4
            (try simp only [Act.put, List.setIfInBounds_toArray, List.set_cons_zero, List.set_cons_succ])
            refine wpAnyH_ready (rs := [6]) (by kernel_rfl) (by simp) ?_
            refine AllReadyH.cons (o := ⟨none, _, _, _, _, _⟩) rfl (fun K hK => ?_) AllReadyH.nil
            go_simp
            refine hK.out _ _ ?_ (fun hHeld6 => ?_)
            · ((try dsimp only); go_keep)
            clear hK K hHeld5
            (try simp only [Act.put, List.setIfInBounds_toArray, List.set_cons_zero, List.set_cons_succ])
            refine wpAnyH_ready (rs := [7]) (by kernel_rfl) (by simp) ?_
            refine AllReadyH.cons (o := ⟨none, _, _, _, _, _⟩) rfl (fun K hK => ?_) AllReadyH.nil
            go_simp
            refine hK.out _ _ ?_ (fun hHeld7 => ?_)
            · ((try dsimp only); go_keep)
            clear hK K hHeld6
            (try simp only [Act.put, List.setIfInBounds_toArray, List.set_cons_zero, List.set_cons_succ])
            refine wpAnyH_done (by kernel_rfl) ?_ _
            have KA := (K9.put 4 rfl (decide (y < 0)) Ay ny cy).put 2 rfl (decide (z < 0)) A8 n8 c8
            simp only [List.set] at KA
            go_wp2_with fail
            go_roundg p.natAbs
            case rel =>
              have KB := (KA.erase 1).erase 0
              simp only [List.eraseIdx] at KB
              obtain ⟨iz, _, ip, _, iy, ir, _, _, im, ia, _⟩ := KB.ints
              exact ⟨r, p, y, z, Aa, Am, Ar, A6, Ay, A8, na, ca, nm, cm, nr, cr, n6, c6, ny, cy, n8, c8, rfl, HS2.out, KB.ints_ ⟨iz, ip, iy, ir, im, ia, trivial⟩⟩
            case measure => (have := HPR.out; have := HK.out; omega)
          refine AllReadyH.cons (o := ⟨some 35, _, _, _, _, _⟩) rfl (fun K hK => ?_) AllReadyH.nil
          go_simp
          refine hK.out _ _ ?_ (fun hHeld2 => ?_)
          · ((try dsimp only); go_keep)
          clear hK K hHeld1
          (try simp only [Act.put, List.setIfInBounds_toArray, List.set_cons_zero, List.set_cons_succ])
          refine wpAnyH_ready (rs := [0, 4]) (by kernel_rfl) (by simp) ?_
          refine AllReadyH.cons (o := ⟨some 32, _, _, _, _, _⟩) rfl (fun K hK => ?_) ?_
          · skip
            go_simp
            refine hK.out _ _ ?_ (fun hHeld3 => ?_)
            · ((try dsimp only); go_keep)
            clear hK K hHeld2
            (try simp only [Act.put, List.setIfInBounds_toArray, List.set_cons_zero, List.set_cons_succ])
            refine wpAnyH_ready (rs := [4]) (by kernel_rfl) (by simp) ?_
            refine AllReadyH.cons (o := ⟨some 36, _, _, _, _, _⟩) rfl (fun K hK => ?_) AllReadyH.nil
            go_simp
            (first | (go_at_call 23; (with_reducible refine (mul_at (iq.ci kq) (iy.ci ky)).mono ?_); rw [HT.out]; rintro e w7 ⟨A7, n7, c7, rfl, d7, u7, v7, g7⟩; have K8 := (K7.call g7).add (CanAt.mk_ d7 u7 v7); clear p0 p1 p2 p3 p4 p5; obtain ⟨_, ⟨p0, p1⟩, ⟨p2, p3⟩, _, ⟨p4, p5⟩, _⟩ := K8.facts; obtain ⟨i7, _, _, _, _, jx, _⟩ := K8.ints) | (go_at_call 93; (with_reducible refine (sub_at (jx.ci kx) (i7.ci kt)).mono ?_); rw [HZ.out]; rintro e w8 ⟨A8, n8, c8, rfl, d8, u8, v8, g8⟩; have K9 := (K8.call g8).add (CanAt.mk_ d8 u8 v8); clear p0 p1 p2 p3 p4 p5; obtain ⟨_, ⟨p0, p1⟩, ⟨p2, p3⟩, _, ⟨p4, p5⟩, _⟩ := K9.facts; obtain ⟨f0, f1⟩ := K9.free (i := 2) rfl; obtain ⟨f2, f3⟩ := K9.free (i := 4) rfl) | fail)
            (try go_wp2_with fail)
            refine hK.out _ _ ?_ (fun hHeld4 => ?_)
            · ((try dsimp only); go_keep)
            clear hK K hHeld3
            (try simp only [Act.put, List.setIfInBounds_toArray, List.set_cons_zero, List.set_cons_succ])
            refine wpAnyH_ready (rs := [5]) (by kernel_rfl) (by simp) ?_
            refine AllReadyH.cons (o := ⟨some 37, _, _, _, _, _⟩) rfl (fun K hK => ?_) AllReadyH.nil
            go_simp
            (first | (go_at_call 23; (with_reducible refine (mul_at (iq.ci kq) (iy.ci ky)).mono ?_); rw [HT.out]; rintro e w7 ⟨A7, n7, c7, rfl, d7, u7, v7, g7⟩; have K8 := (K7.call g7).add (CanAt.mk_ d7 u7 v7); clear p0 p1 p2 p3 p4 p5; obtain ⟨_, ⟨p0, p1⟩, ⟨p2, p3⟩, _, ⟨p4, p5⟩, _⟩ := K8.facts; obtain ⟨i7, _, _, _, _, jx, _⟩ := K8.ints) | (go_at_call 93; (with_reducible refine (sub_at (jx.ci kx) (i7.ci kt)).mono ?_); rw [HZ.out]; rintro e w8 ⟨A8, n8, c8, rfl, d8, u8, v8, g8⟩; have K9 := (K8.call g8).add (CanAt.mk_ d8 u8 v8); clear p0 p1 p2 p3 p4 p5; obtain ⟨_, ⟨p0, p1⟩, ⟨p2, p3⟩, _, ⟨p4, p5⟩, _⟩ := K9.facts; obtain ⟨f0, f1⟩ := K9.free (i := 2) rfl; obtain ⟨f2, f3⟩ := K9.free (i := 4) rfl) | fail)
            (try go_wp2_with fail)
            refine hK.out _ _ ?_ (fun hHeld5 => ?_)
            · ((try dsimp only); go_keep)
            clear hK K hHeld4
            (try simp only [Act.put, List.setIfInBounds_toArray, List.set_cons_zero, List.set_cons_succ])
            refine wpAnyH_ready (rs := [6]) (by kernel_rfl) (by simp) ?_
            refine AllReadyH.cons (o := ⟨none, _, _, _, _, _⟩) rfl (fun K hK => ?_) AllReadyH.nil
            go_simp
            refine hK.out _ _ ?_ (fun hHeld6 => ?_)
            · ((try dsimp only); go_keep)
            clear hK K hHeld5
            (try simp only [Act.put, List.setIfInBounds_toArray, List.set_cons_zero, List.set_cons_succ])
            refine wpAnyH_ready (rs := [7]) (by kernel_rfl) (by simp) ?_
            refine AllReadyH.cons (o := ⟨none, _, _, _, _, _⟩) rfl (fun K hK => ?_) AllReadyH.nil
            go_simp
            refine hK.out _ _ ?_ (fun hHeld7 => ?_)
            · ((try dsimp only); go_keep)
            clear hK K hHeld6
            (try simp only [Act.put, List.setIfInBounds_toArray, List.set_cons_zero, List.set_cons_succ])
            refine wpAnyH_done (by kernel_rfl) ?_ _
            have KA := (K9.put 4 rfl (decide (y < 0)) Ay ny cy).put 2 rfl (decide (z < 0)) A8 n8 c8
            simp only [List.set] at KA
            go_wp2_with fail
            go_roundg p.natAbs
            case rel =>
              have KB := (KA.erase 1).erase 0
              simp only [List.eraseIdx] at KB
              obtain ⟨iz, _, ip, _, iy, ir, _, _, im, ia, _⟩ := KB.ints
              exact ⟨r, p, y, z, Aa, Am, Ar, A6, Ay, A8, na, ca, nm, cm, nr, cr, n6, c6, ny, cy, n8, c8, rfl, HS2.out, KB.ints_ ⟨iz, ip, iy, ir, im, ia, trivial⟩⟩
            case measure => (have := HPR.out; have := HK.out; omega)
          refine AllReadyH.cons (o := ⟨some 36, _, _, _, _, _⟩) rfl (fun K hK => ?_) AllReadyH.nil
          go_simp
          (first | (go_at_call 23; (with_reducible refine (mul_at (iq.ci kq) (iy.ci ky)).mono ?_); rw [HT.out]; rintro e w7 ⟨A7, n7, c7, rfl, d7, u7, v7, g7⟩; have K8 := (K7.call g7).add (CanAt.mk_ d7 u7 v7); clear p0 p1 p2 p3 p4 p5; obtain ⟨_, ⟨p0, p1⟩, ⟨p2, p3⟩, _, ⟨p4, p5⟩, _⟩ := K8.facts; obtain ⟨i7, _, _, _, _, jx, _⟩ := K8.ints) | (go_at_call 93; (with_reducible refine (sub_at (jx.ci kx) (i7.ci kt)).mono ?_); rw [HZ.out]; rintro e w8 ⟨A8, n8, c8, rfl, d8, u8, v8, g8⟩; have K9 := (K8.call g8).add (CanAt.mk_ d8 u8 v8); clear p0 p1 p2 p3 p4 p5; obtain ⟨_, ⟨p0, p1⟩, ⟨p2, p3⟩, _, ⟨p4, p5⟩, _⟩ := K9.facts; obtain ⟨f0, f1⟩ := K9.free (i := 2) rfl; obtain ⟨f2, f3⟩ := K9.free (i := 4) rfl) | fail)
          (try go_wp2_with fail)
          refine hK.out _ _ ?_ (fun hHeld3 => ?_)
          · ((try dsimp only); go_keep)
          clear hK K hHeld2
          (try simp only [Act.put, List.setIfInBounds_toArray, List.set_cons_zero, List.set_cons_succ])
          refine wpAnyH_ready (rs := [0, 5]) (by kernel_rfl) (by simp) ?_
          refine AllReadyH.cons (o := ⟨some 32, _, _, _, _, _⟩) rfl (fun K hK => ?_) ?_
          · skip
            go_simp
            refine hK.out _ _ ?_ (fun hHeld4 => ?_)
            · ((try dsimp only); go_keep)
            clear hK K hHeld3
            (try simp only [Act.put, List.setIfInBounds_toArray, List.set_cons_zero, List.set_cons_succ])
            refine wpAnyH_ready (rs := [5]) (by kernel_rfl) (by simp) ?_
            refine AllReadyH.cons (o := ⟨some 37, _, _, _, _, _⟩) rfl (fun K hK => ?_) AllReadyH.nil
            go_simp
            (first | (go_at_call 23; (with_reducible refine (mul_at (iq.ci kq) (iy.ci ky)).mono ?_); rw [HT.out]; rintro e w7 ⟨A7, n7, c7, rfl, d7, u7, v7, g7⟩; have K8 := (K7.call g7).add (CanAt.mk_ d7 u7 v7); clear p0 p1 p2 p3 p4 p5; obtain ⟨_, ⟨p0, p1⟩, ⟨p2, p3⟩, _, ⟨p4, p5⟩, _⟩ := K8.facts; obtain ⟨i7, _, _, _, _, jx, _⟩ := K8.ints) | (go_at_call 93; (with_reducible refine (sub_at (jx.ci kx) (i7.ci kt)).mono ?_); rw [HZ.out]; rintro e w8 ⟨A8, n8, c8, rfl, d8, u8, v8, g8⟩; have K9 := (K8.call g8).add (CanAt.mk_ d8 u8 v8); clear p0 p1 p2 p3 p4 p5; obtain ⟨_, ⟨p0, p1⟩, ⟨p2, p3⟩, _, ⟨p4, p5⟩, _⟩ := K9.facts; obtain ⟨f0, f1⟩ := K9.free (i := 2) rfl; obtain ⟨f2, f3⟩ := K9.free (i := 4) rfl) | fail)
            (try go_wp2_with fail)
            refine hK.out _ _ ?_ (fun hHeld5 => ?_)
            · ((try dsimp only); go_keep)
            clear hK K hHeld4
            (try simp only [Act.put, List.setIfInBounds_toArray, List.set_cons_zero, List.set_cons_succ])
            refine wpAnyH_ready (rs := [6]) (by kernel_rfl) (by simp) ?_
            refine AllReadyH.cons (o := ⟨none, _, _, _, _, _⟩) rfl (fun K hK => ?_) AllReadyH.nil
            go_simp
            refine hK.out _ _ ?_ (fun hHeld6 => ?_)
            · ((try dsimp only); go_keep)
            clear hK K hHeld5
            (try simp only [Act.put, List.setIfInBounds_toArray, List.set_cons_zero, List.set_cons_succ])
            refine wpAnyH_ready (rs := [7]) (by kernel_rfl) (by simp) ?_
            refine AllReadyH.cons (o := ⟨none, _, _, _, _, _⟩) rfl (fun K hK => ?_) AllReadyH.nil
            go_simp
            refine hK.out _ _ ?_ (fun hHeld7 => ?_)
            · ((try dsimp only); go_keep)
            clear hK K hHeld6
            (try simp only [Act.put, List.setIfInBounds_toArray, List.set_cons_zero, List.set_cons_succ])
            refine wpAnyH_done (by kernel_rfl) ?_ _
            have KA := (K9.put 4 rfl (decide (y < 0)) Ay ny cy).put 2 rfl (decide (z < 0)) A8 n8 c8
            simp only [List.set] at KA
            go_wp2_with fail
            go_roundg p.natAbs
            case rel =>
              have KB := (KA.erase 1).erase 0
              simp only [List.eraseIdx] at KB
              obtain ⟨iz, _, ip, _, iy, ir, _, _, im, ia, _⟩ := KB.ints
              exact ⟨r, p, y, z, Aa, Am, Ar, A6, Ay, A8, na, ca, nm, cm, nr, cr, n6, c6, ny, cy, n8, c8, rfl, HS2.out, KB.ints_ ⟨iz, ip, iy, ir, im, ia, trivial⟩⟩
            case measure => (have := HPR.out; have := HK.out; omega)
          refine AllReadyH.cons (o := ⟨some 37, _, _, _, _, _⟩) rfl (fun K hK => ?_) AllReadyH.nil
          go_simp
          (first | (go_at_call 23; (with_reducible refine (mul_at (iq.ci kq) (iy.ci ky)).mono ?_); rw [HT.out]; rintro e w7 ⟨A7, n7, c7, rfl, d7, u7, v7, g7⟩; have K8 := (K7.call g7).add (CanAt.mk_ d7 u7 v7); clear p0 p1 p2 p3 p4 p5; obtain ⟨_, ⟨p0, p1⟩, ⟨p2, p3⟩, _, ⟨p4, p5⟩, _⟩ := K8.facts; obtain ⟨i7, _, _, _, _, jx, _⟩ := K8.ints) | (go_at_call 93; (with_reducible refine (sub_at (jx.ci kx) (i7.ci kt)).mono ?_); rw [HZ.out]; rintro e w8 ⟨A8, n8, c8, rfl, d8, u8, v8, g8⟩; have K9 := (K8.call g8).add (CanAt.mk_ d8 u8 v8); clear p0 p1 p2 p3 p4 p5; obtain ⟨_, ⟨p0, p1⟩, ⟨p2, p3⟩, _, ⟨p4, p5⟩, _⟩ := K9.facts; obtain ⟨f0, f1⟩ := K9.free (i := 2) rfl; obtain ⟨f2, f3⟩ := K9.free (i := 4) rfl) | fail)
          (try go_wp2_with fail)
          refine hK.out _ _ ?_ (fun hHeld4 => ?_)
          · ((try dsimp only); go_keep)
          clear hK K hHeld3
          (try simp only [Act.put, List.setIfInBounds_toArray, List.set_cons_zero, List.set_cons_succ])
          refine wpAnyH_ready (rs := [0]) (by kernel_rfl) (by simp) ?_
          refine AllReadyH.cons (o := ⟨some 32, _, _, _, _, _⟩) rfl (fun K hK => ?_) AllReadyH.nil
          go_simp
          refine hK.out _ _ ?_ (fun hHeld5 => ?_)
          · ((try dsimp only); go_keep)
          clear hK K hHeld4
          (try simp only [Act.put, List.setIfInBounds_toArray, List.set_cons_zero, List.set_cons_succ])
          refine wpAnyH_ready (rs := [6]) (by kernel_rfl) (by simp) ?_
          refine AllReadyH.cons (o := ⟨none, _, _, _, _, _⟩) rfl (fun K hK => ?_) AllReadyH.nil
          go_simp
          refine hK.out _ _ ?_ (fun hHeld6 => ?_)
          · ((try dsimp only); go_keep)
          clear hK K hHeld5
          (try simp only [Act.put, List.setIfInBounds_toArray, List.set_cons_zero, List.set_cons_succ])
          refine wpAnyH_ready (rs := [7]) (by kernel_rfl) (by simp) ?_
          refine AllReadyH.cons (o := ⟨none, _, _, _, _, _⟩) rfl (fun K hK => ?_) AllReadyH.nil
          go_simp
          refine hK.out _ _ ?_ (fun hHeld7 => ?_)
          · ((try dsimp only); go_keep)
          clear hK K hHeld6
          (try simp only [Act.put, List.setIfInBounds_toArray, List.set_cons_zero, List.set_cons_succ])
          refine wpAnyH_done (by kernel_rfl) ?_ _
          have KA := (K9.put 4 rfl (decide (y < 0)) Ay ny cy).put 2 rfl (decide (z < 0)) A8 n8 c8
          simp only [List.set] at KA
          go_wp2_with fail
          go_roundg p.natAbs
          case rel =>
            have KB := (KA.erase 1).erase 0
            simp only [List.eraseIdx] at KB
            obtain ⟨iz, _, ip, _, iy, ir, _, _, im, ia, _⟩ := KB.ints
            exact ⟨r, p, y, z, Aa, Am, Ar, A6, Ay, A8, na, ca, nm, cm, nr, cr, n6, c6, ny, cy, n8, c8, rfl, HS2.out, KB.ints_ ⟨iz, ip, iy, ir, im, ia, trivial⟩⟩
          case measure => (have := HPR.out; have := HK.out; omega)
        refine AllReadyH.cons (o := ⟨some 35, _, _, _, _, _⟩) rfl (fun K hK => ?_) AllReadyH.nil
        go_simp
        refine hK.out _ _ ?_ (fun hHeld1 => ?_)
        · ((try dsimp only); go_keep)
        clear hK K hHeld0
        (try simp only [Act.put, List.setIfInBounds_toArray, List.set_cons_zero, List.set_cons_succ])
        refine wpAnyH_ready (rs := [0, 1, 4]) (by kernel_rfl) (by simp) ?_
        refine AllReadyH.cons (o := ⟨some 32, _, _, _, _, _⟩) rfl (fun K hK => ?_) ?_
        · skip
          go_simp
          refine hK.out _ _ ?_ (fun hHeld2 => ?_)
          · ((try dsimp only); go_keep)
          clear hK K hHeld1
          (try simp only [Act.put, List.setIfInBounds_toArray, List.set_cons_zero, List.set_cons_succ])
          refine wpAnyH_ready (rs := [1, 4]) (by kernel_rfl) (by simp) ?_
          refine AllReadyH.cons (o := ⟨some 33, _, _, _, _, _⟩) rfl (fun K hK => ?_) ?_
          · skip
            go_simp
            refine hK.out _ _ ?_ (fun hHeld3 => ?_)
            · ((try dsimp only); go_keep)
            clear hK K hHeld2
            (try simp only [Act.put, List.setIfInBounds_toArray, List.set_cons_zero, List.set_cons_succ])
            refine wpAnyH_ready (rs := [4]) (by kernel_rfl) (by simp) ?_
            refine AllReadyH.cons (o := ⟨some 36, _, _, _, _, _⟩) rfl (fun K hK => ?_) AllReadyH.nil
            go_simp
            (first | (go_at_call 23; (with_reducible refine (mul_at (iq.ci kq) (iy.ci ky)).mono ?_); rw [HT.out]; rintro e w7 ⟨A7, n7, c7, rfl, d7, u7, v7, g7⟩; have K8 := (K7.call g7).add (CanAt.mk_ d7 u7 v7); clear p0 p1 p2 p3 p4 p5; obtain ⟨_, ⟨p0, p1⟩, ⟨p2, p3⟩, _, ⟨p4, p5⟩, _⟩ := K8.facts; obtain ⟨i7, _, _, _, _, jx, _⟩ := K8.ints) | (go_at_call 93; (with_reducible refine (sub_at (jx.ci kx) (i7.ci kt)).mono ?_); rw [HZ.out]; rintro e w8 ⟨A8, n8, c8, rfl, d8, u8, v8, g8⟩; have K9 := (K8.call g8).add (CanAt.mk_ d8 u8 v8); clear p0 p1 p2 p3 p4 p5; obtain ⟨_, ⟨p0, p1⟩, ⟨p2, p3⟩, _, ⟨p4, p5⟩, _⟩ := K9.facts; obtain ⟨f0, f1⟩ := K9.free (i := 2) rfl; obtain ⟨f2, f3⟩ := K9.free (i := 4) rfl) | fail)
            (try go_wp2_with fail)
            refine hK.out _ _ ?_ (fun hHeld4 => ?_)
            · ((try dsimp only); go_keep)
            clear hK K hHeld3
            (try simp only [Act.put, List.setIfInBounds_toArray, List.set_cons_zero, List.set_cons_succ])
            refine wpAnyH_ready (rs := [5]) (by kernel_rfl) (by simp) ?_
            refine AllReadyH.cons (o := ⟨some 37, _, _, _, _, _⟩) rfl (fun K hK => ?_) AllReadyH.nil
            go_simp
            (first | (go_at_call 23; (with_reducible refine (mul_at (iq.ci kq) (iy.ci ky)).mono ?_); rw [HT.out]; rintro e w7 ⟨A7, n7, c7, rfl, d7, u7, v7, g7⟩; have K8 := (K7.call g7).add (CanAt.mk_ d7 u7 v7); clear p0 p1 p2 p3 p4 p5; obtain ⟨_, ⟨p0, p1⟩, ⟨p2, p3⟩, _, ⟨p4, p5⟩, _⟩ := K8.facts; obtain ⟨i7, _, _, _, _, jx, _⟩ := K8.ints) | (go_at_call 93; (with_reducible refine (sub_at (jx.ci kx) (i7.ci kt)).mono ?_); rw [HZ.out]; rintro e w8 ⟨A8, n8, c8, rfl, d8, u8, v8, g8⟩; have K9 := (K8.call g8).add (CanAt.mk_ d8 u8 v8); clear p0 p1 p2 p3 p4 p5; obtain ⟨_, ⟨p0, p1⟩, ⟨p2, p3⟩, _, ⟨p4, p5⟩, _⟩ := K9.facts; obtain ⟨f0, f1⟩ := K9.free (i := 2) rfl; obtain ⟨f2, f3⟩ := K9.free (i := 4) rfl) | fail)
            (try go_wp2_with fail)
            refine hK.out _ _ ?_ (fun hHeld5 => ?_)
            · ((try dsimp only); go_keep)
            clear hK K hHeld4
            (try simp only [Act.put, List.setIfInBounds_toArray, List.set_cons_zero, List.set_cons_succ])
            refine wpAnyH_ready (rs := [6]) (by kernel_rfl) (by simp) ?_
            refine AllReadyH.cons (o := ⟨none, _, _, _, _, _⟩) rfl (fun K hK => ?_) AllReadyH.nil
            go_simp
            refine hK.out _ _ ?_ (fun hHeld6 => ?_)
            · ((try dsimp only); go_keep)
            clear hK K hHeld5
            (try simp only [Act.put, List.setIfInBounds_toArray, List.set_cons_zero, List.set_cons_succ])
            refine wpAnyH_ready (rs := [7]) (by kernel_rfl) (by simp) ?_
            refine AllReadyH.cons (o := ⟨none, _, _, _, _, _⟩) rfl (fun K hK => ?_) AllReadyH.nil
            go_simp
            refine hK.out _ _ ?_ (fun hHeld7 => ?_)
            · ((try dsimp only); go_keep)
            clear hK K hHeld6
            (try simp only [Act.put, List.setIfInBounds_toArray, List.set_cons_zero, List.set_cons_succ])
            refine wpAnyH_done (by kernel_rfl) ?_ _
            have KA := (K9.put 4 rfl (decide (y < 0)) Ay ny cy).put 2 rfl (decide (z < 0)) A8 n8 c8
            simp only [List.set] at KA
            go_wp2_with fail
            go_roundg p.natAbs
            case rel =>
              have KB := (KA.erase 1).erase 0
              simp only [List.eraseIdx] at KB
              obtain ⟨iz, _, ip, _, iy, ir, _, _, im, ia, _⟩ := KB.ints
              exact ⟨r, p, y, z, Aa, Am, Ar, A6, Ay, A8, na, ca, nm, cm, nr, cr, n6, c6, ny, cy, n8, c8, rfl, HS2.out, KB.ints_ ⟨iz, ip, iy, ir, im, ia, trivial⟩⟩
            case measure => (have := HPR.out; have := HK.out; omega)
          refine AllReadyH.cons (o := ⟨some 36, _, _, _, _, _⟩) rfl (fun K hK => ?_) AllReadyH.nil
          go_simp
          (first | (go_at_call 23; (with_reducible refine (mul_at (iq.ci kq) (iy.ci ky)).mono ?_); rw [HT.out]; rintro e w7 ⟨A7, n7, c7, rfl, d7, u7, v7, g7⟩; have K8 := (K7.call g7).add (CanAt.mk_ d7 u7 v7); clear p0 p1 p2 p3 p4 p5; obtain ⟨_, ⟨p0, p1⟩, ⟨p2, p3⟩, _, ⟨p4, p5⟩, _⟩ := K8.facts; obtain ⟨i7, _, _, _, _, jx, _⟩ := K8.ints) | (go_at_call 93; (with_reducible refine (sub_at (jx.ci kx) (i7.ci kt)).mono ?_); rw [HZ.out]; rintro e w8 ⟨A8, n8, c8, rfl, d8, u8, v8, g8⟩; have K9 := (K8.call g8).add (CanAt.mk_ d8 u8 v8); clear p0 p1 p2 p3 p4 p5; obtain ⟨_, ⟨p0, p1⟩, ⟨p2, p3⟩, _, ⟨p4, p5⟩, _⟩ := K9.facts; obtain ⟨f0, f1⟩ := K9.free (i := 2) rfl; obtain ⟨f2, f3⟩ := K9.free (i := 4) rfl) | fail)
          (try go_wp2_with fail)
          refine hK.out _ _ ?_ (fun hHeld3 => ?_)
          · ((try dsimp only); go_keep)
          clear hK K hHeld2
          (try simp only [Act.put, List.setIfInBounds_toArray, List.set_cons_zero, List.set_cons_succ])
          refine wpAnyH_ready (rs := [1]) (by kernel_rfl) (by simp) ?_
          refine AllReadyH.cons (o := ⟨some 33, _, _, _, _, _⟩) rfl (fun K hK => ?_) AllReadyH.nil
          go_simp
          refine hK.out _ _ ?_ (fun hHeld4 => ?_)
          · ((try dsimp only); go_keep)
          clear hK K hHeld3
          (try simp only [Act.put, List.setIfInBounds_toArray, List.set_cons_zero, List.set_cons_succ])
          refine wpAnyH_ready (rs := [5]) (by kernel_rfl) (by simp) ?_
          refine AllReadyH.cons (o := ⟨some 37, _, _, _, _, _⟩) rfl (fun K hK => ?_) AllReadyH.nil
          go_simp
          (first | (go_at_call 23; (with_reducible refine (mul_at (iq.ci kq) (iy.ci ky)).mono ?_); rw [HT.out]; rintro e w7 ⟨A7, n7, c7, rfl, d7, u7, v7, g7⟩; have K8 := (K7.call g7).add (CanAt.mk_ d7 u7 v7); clear p0 p1 p2 p3 p4 p5; obtain ⟨_, ⟨p0, p1⟩, ⟨p2, p3⟩, _, ⟨p4, p5⟩, _⟩ := K8.facts; obtain ⟨i7, _, _, _, _, jx, _⟩ := K8.ints) | (go_at_call 93; (with_reducible refine (sub_at (jx.ci kx) (i7.ci kt)).mono ?_); rw [HZ.out]; rintro e w8 ⟨A8, n8, c8, rfl, d8, u8, v8, g8⟩; have K9 := (K8.call g8).add (CanAt.mk_ d8 u8 v8); clear p0 p1 p2 p3 p4 p5; obtain ⟨_, ⟨p0, p1⟩, ⟨p2, p3⟩, _, ⟨p4, p5⟩, _⟩ := K9.facts; obtain ⟨f0, f1⟩ := K9.free (i := 2) rfl; obtain ⟨f2, f3⟩ := K9.free (i := 4) rfl) | fail)
          (try go_wp2_with fail)
          refine hK.out _ _ ?_ (fun hHeld5 => ?_)
          · ((try dsimp only); go_keep)
          clear hK K hHeld4
          (try simp only [Act.put, List.setIfInBounds_toArray, List.set_cons_zero, List.set_cons_succ])
          refine wpAnyH_ready (rs := [6]) (by kernel_rfl) (by simp) ?_
          refine AllReadyH.cons (o := ⟨none, _, _, _, _, _⟩) rfl (fun K hK => ?_) AllReadyH.nil
          go_simp
          refine hK.out _ _ ?_ (fun hHeld6 => ?_)
          · ((try dsimp only); go_keep)
          clear hK K hHeld5
          (try simp only [Act.put, List.setIfInBounds_toArray, List.set_cons_zero, List.set_cons_succ])
          refine wpAnyH_ready (rs := [7]) (by kernel_rfl) (by simp) ?_
          refine AllReadyH.cons (o := ⟨none, _, _, _, _, _⟩) rfl (fun K hK => ?_) AllReadyH.nil
          go_simp
          refine hK.out _ _ ?_ (fun hHeld7 => ?_)
          · ((try dsimp only); go_keep)
          clear hK K hHeld6
          (try simp only [Act.put, List.setIfInBounds_toArray, List.set_cons_zero, List.set_cons_succ])
          refine wpAnyH_done (by kernel_rfl) ?_ _
          have KA := (K9.put 4 rfl (decide (y < 0)) Ay ny cy).put 2 rfl (decide (z < 0)) A8 n8 c8
          simp only [List.set] at KA
          go_wp2_with fail
          go_roundg p.natAbs
          case rel =>
            have KB := (KA.erase 1).erase 0
            simp only [List.eraseIdx] at KB
            obtain ⟨iz, _, ip, _, iy, ir, _, _, im, ia, _⟩ := KB.ints
            exact ⟨r, p, y, z, Aa, Am, Ar, A6, Ay, A8, na, ca, nm, cm, nr, cr, n6, c6, ny, cy, n8, c8, rfl, HS2.out, KB.ints_ ⟨iz, ip, iy, ir, im, ia, trivial⟩⟩
          case measure => (have := HPR.out; have := HK.out; omega)
        refine AllReadyH.cons (o := ⟨some 33, _, _, _, _, _⟩) rfl (fun K hK => ?_) ?_
        · skip
          go_simp
          refine hK.out _ _ ?_ (fun hHeld2 => ?_)
          · ((try dsimp only); go_keep)
          clear hK K hHeld1
          (try simp only [Act.put, List.setIfInBounds_toArray, List.set_cons_zero, List.set_cons_succ])
          refine wpAnyH_ready (rs := [0, 4]) (by kernel_rfl) (by simp) ?_
          refine AllReadyH.cons (o := ⟨some 32, _, _, _, _, _⟩) rfl (fun K hK => ?_) ?_
          · skip
            go_simp
            refine hK.out _ _ ?_ (fun hHeld3 => ?_)
            · ((try dsimp only); go_keep)
            clear hK K hHeld2
            (try simp only [Act.put, List.setIfInBounds_toArray, List.set_cons_zero, List.set_cons_succ])
            refine wpAnyH_ready (rs := [4]) (by kernel_rfl) (by simp) ?_
            refine AllReadyH.cons (o := ⟨some 36, _, _, _, _, _⟩) rfl (fun K hK => ?_) AllReadyH.nil
            go_simp
            (first | (go_at_call 23; (with_reducible refine (mul_at (iq.ci kq) (iy.ci ky)).mono ?_); rw [HT.out]; rintro e w7 ⟨A7, n7, c7, rfl, d7, u7, v7, g7⟩; have K8 := (K7.call g7).add (CanAt.mk_ d7 u7 v7); clear p0 p1 p2 p3 p4 p5; obtain ⟨_, ⟨p0, p1⟩, ⟨p2, p3⟩, _, ⟨p4, p5⟩, _⟩ := K8.facts; obtain ⟨i7, _, _, _, _, jx, _⟩ := K8.ints) | (go_at_call 93; (with_reducible refine (sub_at (jx.ci kx) (i7.ci kt)).mono ?_); rw [HZ.out]; rintro e w8 ⟨A8, n8, c8, rfl, d8, u8, v8, g8⟩; have K9 := (K8.call g8).add (CanAt.mk_ d8 u8 v8); clear p0 p1 p2 p3 p4 p5; obtain ⟨_, ⟨p0, p1⟩, ⟨p2, p3⟩, _, ⟨p4, p5⟩, _⟩ := K9.facts; obtain ⟨f0, f1⟩ := K9.free (i := 2) rfl; obtain ⟨f2, f3⟩ := K9.free (i := 4) rfl) | fail)
            (try go_wp2_with fail)
            refine hK.out _ _ ?_ (fun hHeld4 => ?_)
            · ((try dsimp only); go_keep)
            clear hK K hHeld3
            (try simp only [Act.put, List.setIfInBounds_toArray, List.set_cons_zero, List.set_cons_succ])
            refine wpAnyH_ready (rs := [5]) (by kernel_rfl) (by simp) ?_
            refine AllReadyH.cons (o := ⟨some 37, _, _, _, _, _⟩) rfl (fun K hK => ?_) AllReadyH.nil
            go_simp
            (first | (go_at_call 23; (with_reducible refine (mul_at (iq.ci kq) (iy.ci ky)).mono ?_); rw [HT.out]; rintro e w7 ⟨A7, n7, c7, rfl, d7, u7, v7, g7⟩; have K8 := (K7.call g7).add (CanAt.mk_ d7 u7 v7); clear p0 p1 p2 p3 p4 p5; obtain ⟨_, ⟨p0, p1⟩, ⟨p2, p3⟩, _, ⟨p4, p5⟩, _⟩ := K8.facts; obtain ⟨i7, _, _, _, _, jx, _⟩ := K8.ints) | (go_at_call 93; (with_reducible refine (sub_at (jx.ci kx) (i7.ci kt)).mono ?_); rw [HZ.out]; rintro e w8 ⟨A8, n8, c8, rfl, d8, u8, v8, g8⟩; have K9 := (K8.call g8).add (CanAt.mk_ d8 u8 v8); clear p0 p1 p2 p3 p4 p5; obtain ⟨_, ⟨p0, p1⟩, ⟨p2, p3⟩, _, ⟨p4, p5⟩, _⟩ := K9.facts; obtain ⟨f0, f1⟩ := K9.free (i := 2) rfl; obtain ⟨f2, f3⟩ := K9.free (i := 4) rfl) | fail)
            (try go_wp2_with fail)
            refine hK.out _ _ ?_ (fun hHeld5 => ?_)
            · ((try dsimp only); go_keep)
            clear hK K hHeld4
            (try simp only [Act.put, List.setIfInBounds_toArray, List.set_cons_zero, List.set_cons_succ])
            refine wpAnyH_ready (rs := [6]) (by kernel_rfl) (by simp) ?_
            refine AllReadyH.cons (o := ⟨none, _, _, _, _, _⟩) rfl (fun K hK => ?_) AllReadyH.nil
            go_simp
            refine hK.out _ _ ?_ (fun hHeld6 => ?_)
            · ((try dsimp only); go_keep)
            clear hK K hHeld5
            (try simp only [Act.put, List.setIfInBounds_toArray, List.set_cons_zero, List.set_cons_succ])
            refine wpAnyH_ready (rs := [7]) (by kernel_rfl) (by simp) ?_
            refine AllReadyH.cons (o := ⟨none, _, _, _, _, _⟩) rfl (fun K hK => ?_) AllReadyH.nil
            go_simp
            refine hK.out _ _ ?_ (fun hHeld7 => ?_)
            · ((try dsimp only); go_keep)
            clear hK K hHeld6
            (try simp only [Act.put, List.setIfInBounds_toArray, List.set_cons_zero, List.set_cons_succ])
            refine wpAnyH_done (by kernel_rfl) ?_ _
            have KA := (K9.put 4 rfl (decide (y < 0)) Ay ny cy).put 2 rfl (decide (z < 0)) A8 n8 c8
            simp only [List.set] at KA
            go_wp2_with fail
            go_roundg p.natAbs
            case rel =>
              have KB := (KA.erase 1).erase 0
              simp only [List.eraseIdx] at KB
              obtain ⟨iz, _, ip, _, iy, ir, _, _, im, ia, _⟩ := KB.ints
              exact ⟨r, p, y, z, Aa, Am, Ar, A6, Ay, A8, na, ca, nm, cm, nr, cr, n6, c6, ny, cy, n8, c8, rfl, HS2.out, KB.ints_ ⟨iz, ip, iy, ir, im, ia, trivial⟩⟩
            case measure => (have := HPR.out; have := HK.out; omega)
          refine AllReadyH.cons (o := ⟨some 36, _, _, _, _, _⟩) rfl (fun K hK => ?_) AllReadyH.nil
          go_simp
          (first | (go_at_call 23; (with_reducible refine (mul_at (iq.ci kq) (iy.ci ky)).mono ?_); rw [HT.out]; rintro e w7 ⟨A7, n7, c7, rfl, d7, u7, v7, g7⟩; have K8 := (K7.call g7).add (CanAt.mk_ d7 u7 v7); clear p0 p1 p2 p3 p4 p5; obtain ⟨_, ⟨p0, p1⟩, ⟨p2, p3⟩, _, ⟨p4, p5⟩, _⟩ := K8.facts; obtain ⟨i7, _, _, _, _, jx, _⟩ := K8.ints) | (go_at_call 93; (with_reducible refine (sub_at (jx.ci kx) (i7.ci kt)).mono ?_); rw [HZ.out]; rintro e w8 ⟨A8, n8, c8, rfl, d8, u8, v8, g8⟩; have K9 := (K8.call g8).add (CanAt.mk_ d8 u8 v8); clear p0 p1 p2 p3 p4 p5; obtain ⟨_, ⟨p0, p1⟩, ⟨p2, p3⟩, _, ⟨p4, p5⟩, _⟩ := K9.facts; obtain ⟨f0, f1⟩ := K9.free (i := 2) rfl; obtain ⟨f2, f3⟩ := K9.free (i := 4) rfl) | fail)
          (try go_wp2_with fail)
          refine hK.out _ _ ?_ (fun hHeld3 => ?_)
          · ((try dsimp only); go_keep)
          clear hK K hHeld2
          (try simp only [Act.put, List.setIfInBounds_toArray, List.set_cons_zero, List.set_cons_succ])
          refine wpAnyH_ready (rs := [0, 5]) (by kernel_rfl) (by simp) ?_
          refine AllReadyH.cons (o := ⟨some 32, _, _, _, _, _⟩) rfl (fun K hK => ?_) ?_
          · skip
            go_simp
            refine hK.out _ _ ?_ (fun hHeld4 => ?_)
            · ((try dsimp only); go_keep)
            clear hK K hHeld3
            (try simp only [Act.put, List.setIfInBounds_toArray, List.set_cons_zero, List.set_cons_succ])
            refine wpAnyH_ready (rs := [5]) (by kernel_rfl) (by simp) ?_
            refine AllReadyH.cons (o := ⟨some 37, _, _, _, _, _⟩) rfl (fun K hK => ?_) AllReadyH.nil
            go_simp
            (first | (go_at_call 23; (with_reducible refine (mul_at (iq.ci kq) (iy.ci ky)).mono ?_); rw [HT.out]; rintro e w7 ⟨A7, n7, c7, rfl, d7, u7, v7, g7⟩; have K8 := (K7.call g7).add (CanAt.mk_ d7 u7 v7); clear p0 p1 p2 p3 p4 p5; obtain ⟨_, ⟨p0, p1⟩, ⟨p2, p3⟩, _, ⟨p4, p5⟩, _⟩ := K8.facts; obtain ⟨i7, _, _, _, _, jx, _⟩ := K8.ints) | (go_at_call 93; (with_reducible refine (sub_at (jx.ci kx) (i7.ci kt)).mono ?_); rw [HZ.out]; rintro e w8 ⟨A8, n8, c8, rfl, d8, u8, v8, g8⟩; have K9 := (K8.call g8).add (CanAt.mk_ d8 u8 v8); clear p0 p1 p2 p3 p4 p5; obtain ⟨_, ⟨p0, p1⟩, ⟨p2, p3⟩, _, ⟨p4, p5⟩, _⟩ := K9.facts; obtain ⟨f0, f1⟩ := K9.free (i := 2) rfl; obtain ⟨f2, f3⟩ := K9.free (i := 4) rfl) | fail)
            (try go_wp2_with fail)
            refine hK.out _ _ ?_ (fun hHeld5 => ?_)
            · ((try dsimp only); go_keep)
            clear hK K hHeld4
            (try simp only [Act.put, List.setIfInBounds_toArray, List.set_cons_zero, List.set_cons_succ])
            refine wpAnyH_ready (rs := [6]) (by kernel_rfl) (by simp) ?_
            refine AllReadyH.cons (o := ⟨none, _, _, _, _, _⟩) rfl (fun K hK => ?_) AllReadyH.nil
            go_simp
            refine hK.out _ _ ?_ (fun hHeld6 => ?_)
            · ((try dsimp only); go_keep)
            clear hK K hHeld5
            (try simp only [Act.put, List.setIfInBounds_toArray, List.set_cons_zero, List.set_cons_succ])
            refine wpAnyH_ready (rs := [7]) (by kernel_rfl) (by simp) ?_
            refine AllReadyH.cons (o := ⟨none, _, _, _, _, _⟩) rfl (fun K hK => ?_) AllReadyH.nil
            go_simp
            refine hK.out _ _ ?_ (fun hHeld7 => ?_)
            · ((try dsimp only); go_keep)
            clear hK K hHeld6
            (try simp only [Act.put, List.setIfInBounds_toArray, List.set_cons_zero, List.set_cons_succ])
            refine wpAnyH_done (by kernel_rfl) ?_ _
            have KA := (K9.put 4 rfl (decide (y < 0)) Ay ny cy).put 2 rfl (decide (z < 0)) A8 n8 c8
            simp only [List.set] at KA
            go_wp2_with fail
            go_roundg p.natAbs
            case rel =>
              have KB := (KA.erase 1).erase 0
              simp only [List.eraseIdx] at KB
              obtain ⟨iz, _, ip, _, iy, ir, _, _, im, ia, _⟩ := KB.ints
              exact ⟨r, p, y, z, Aa, Am, Ar, A6, Ay, A8, na, ca, nm, cm, nr, cr, n6, c6, ny, cy, n8, c8, rfl, HS2.out, KB.ints_ ⟨iz, ip, iy, ir, im, ia, trivial⟩⟩
            case measure => (have := HPR.out; have := HK.out; omega)
          refine AllReadyH.cons (o := ⟨some 37, _, _, _, _, _⟩) rfl (fun K hK => ?_) AllReadyH.nil
          go_simp
          (first | (go_at_call 23; (with_reducible refine (mul_at (iq.ci kq) (iy.ci ky)).mono ?_); rw [HT.out]; rintro e w7 ⟨A7, n7, c7, rfl, d7, u7, v7, g7⟩; have K8 := (K7.call g7).add (CanAt.mk_ d7 u7 v7); clear p0 p1 p2 p3 p4 p5; obtain ⟨_, ⟨p0, p1⟩, ⟨p2, p3⟩, _, ⟨p4, p5⟩, _⟩ := K8.facts; obtain ⟨i7, _, _, _, _, jx, _⟩ := K8.ints) | (go_at_call 93; (with_reducible refine (sub_at (jx.ci kx) (i7.ci kt)).mono ?_); rw [HZ.out]; rintro e w8 ⟨A8, n8, c8, rfl, d8, u8, v8, g8⟩; have K9 := (K8.call g8).add (CanAt.mk_ d8 u8 v8); clear p0 p1 p2 p3 p4 p5; obtain ⟨_, ⟨p0, p1⟩, ⟨p2, p3⟩, _, ⟨p4, p5⟩, _⟩ := K9.facts; obtain ⟨f0, f1⟩ := K9.free (i := 2) rfl; obtain ⟨f2, f3⟩ := K9.free (i := 4) rfl) | fail)
          (try go_wp2_with fail)
          refine hK.out _ _ ?_ (fun hHeld4 => ?_)
          · ((try dsimp only); go_keep)
          clear hK K hHeld3
          (try simp only [Act.put, List.setIfInBounds_toArray, List.set_cons_zero, List.set_cons_succ])
          refine wpAnyH_ready (rs := [0]) (by kernel_rfl) (by simp) ?_
          refine AllReadyH.cons (o := ⟨some 32, _, _, _, _, _⟩) rfl (fun K hK => ?_) AllReadyH.nil
          go_simp
          refine hK.out _ _ ?_ (fun hHeld5 => ?_)
          · ((try dsimp only); go_keep)
          clear hK K hHeld4
          (try simp only [Act.put, List.setIfInBounds_toArray, List.set_cons_zero, List.set_cons_succ])
          refine wpAnyH_ready (rs := [6]) (by kernel_rfl) (by simp) ?_
          refine AllReadyH.cons (o := ⟨none, _, _, _, _, _⟩) rfl (fun K hK => ?_) AllReadyH.nil
          go_simp
          refine hK.out _ _ ?_ (fun hHeld6 => ?_)
          · ((try dsimp only); go_keep)
          clear hK K hHeld5
          (try simp only [Act.put, List.setIfInBounds_toArray, List.set_cons_zero, List.set_cons_succ])
          refine wpAnyH_ready (rs := [7]) (by kernel_rfl) (by simp) ?_
          refine AllReadyH.cons (o := ⟨none, _, _, _, _, _⟩) rfl (fun K hK => ?_) AllReadyH.nil
          go_simp
          refine hK.out _ _ ?_ (fun hHeld7 => ?_)
          · ((try dsimp only); go_keep)
          clear hK K hHeld6
          (try simp only [Act.put, List.setIfInBounds_toArray, List.set_cons_zero, List.set_cons_succ])
          refine wpAnyH_done (by kernel_rfl) ?_ _
          have KA := (K9.put 4 rfl (decide (y < 0)) Ay ny cy).put 2 rfl (decide (z < 0)) A8 n8 c8
          simp only [List.set] at KA
          go_wp2_with fail
          go_roundg p.natAbs
          case rel =>
            have KB := (KA.erase 1).erase 0
            simp only [List.eraseIdx] at KB
            obtain ⟨iz, _, ip, _, iy, ir, _, _, im, ia, _⟩ := KB.ints
            exact ⟨r, p, y, z, Aa, Am, Ar, A6, Ay, A8, na, ca, nm, cm, nr, cr, n6, c6, ny, cy, n8, c8, rfl, HS2.out, KB.ints_ ⟨iz, ip, iy, ir, im, ia, trivial⟩⟩
          case measure => (have := HPR.out; have := HK.out; omega)
        refine AllReadyH.cons (o := ⟨some 36, _, _, _, _, _⟩) rfl (fun K hK => ?_) AllReadyH.nil
        go_simp
        (first | (go_at_call 23; (with_reducible refine (mul_at (iq.ci kq) (iy.ci ky)).mono ?_); rw [HT.out]; rintro e w7 ⟨A7, n7, c7, rfl, d7, u7, v7, g7⟩; have K8 := (K7.call g7).add (CanAt.mk_ d7 u7 v7); clear p0 p1 p2 p3 p4 p5; obtain ⟨_, ⟨p0, p1⟩, ⟨p2, p3⟩, _, ⟨p4, p5⟩, _⟩ := K8.facts; obtain ⟨i7, _, _, _, _, jx, _⟩ := K8.ints) | (go_at_call 93; (with_reducible refine (sub_at (jx.ci kx) (i7.ci kt)).mono ?_); rw [HZ.out]; rintro e w8 ⟨A8, n8, c8, rfl, d8, u8, v8, g8⟩; have K9 := (K8.call g8).add (CanAt.mk_ d8 u8 v8); clear p0 p1 p2 p3 p4 p5; obtain ⟨_, ⟨p0, p1⟩, ⟨p2, p3⟩, _, ⟨p4, p5⟩, _⟩ := K9.facts; obtain ⟨f0, f1⟩ := K9.free (i := 2) rfl; obtain ⟨f2, f3⟩ := K9.free (i := 4) rfl) | fail)
        (try go_wp2_with fail)
        refine hK.out _ _ ?_ (fun hHeld2 => ?_)
        · ((try dsimp only); go_keep)
        clear hK K hHeld1
        (try simp only [Act.put, List.setIfInBounds_toArray, List.set_cons_zero, List.set_cons_succ])
        refine wpAnyH_ready (rs := [0, 1]) (by kernel_rfl) (by simp) ?_
        refine AllReadyH.cons (o := ⟨some 32, _, _, _, _, _⟩) rfl (fun K hK => ?_) ?_
        · skip
          go_simp
          refine hK.out _ _ ?_ (fun hHeld3 => ?_)
          · ((try dsimp only); go_keep)
          clear hK K hHeld2
          (try simp only [Act.put, List.setIfInBounds_toArray, List.set_cons_zero, List.set_cons_succ])
          refine wpAnyH_ready (rs := [1]) (by kernel_rfl) (by simp) ?_
          refine AllReadyH.cons (o := ⟨some 33, _, _, _, _, _⟩) rfl (fun K hK => ?_) AllReadyH.nil
          go_simp
          refine hK.out _ _ ?_ (fun hHeld4 => ?_)
          · ((try dsimp only); go_keep)
          clear hK K hHeld3
          (try simp only [Act.put, List.setIfInBounds_toArray, List.set_cons_zero, List.set_cons_succ])
          refine wpAnyH_ready (rs := [5]) (by kernel_rfl) (by simp) ?_
          refine AllReadyH.cons (o := ⟨some 37, _, _, _, _, _⟩) rfl (fun K hK => ?_) AllReadyH.nil
          go_simp
          (first | (go_at_call 23; (with_reducible refine (mul_at (iq.ci kq) (iy.ci ky)).mono ?_); rw [HT.out]; rintro e w7 ⟨A7, n7, c7, rfl, d7, u7, v7, g7⟩; have K8 := (K7.call g7).add (CanAt.mk_ d7 u7 v7); clear p0 p1 p2 p3 p4 p5; obtain ⟨_, ⟨p0, p1⟩, ⟨p2, p3⟩, _, ⟨p4, p5⟩, _⟩ := K8.facts; obtain ⟨i7, _, _, _, _, jx, _⟩ := K8.ints) | (go_at_call 93; (with_reducible refine (sub_at (jx.ci kx) (i7.ci kt)).mono ?_); rw [HZ.out]; rintro e w8 ⟨A8, n8, c8, rfl, d8, u8, v8, g8⟩; have K9 := (K8.call g8).add (CanAt.mk_ d8 u8 v8); clear p0 p1 p2 p3 p4 p5; obtain ⟨_, ⟨p0, p1⟩, ⟨p2, p3⟩, _, ⟨p4, p5⟩, _⟩ := K9.facts; obtain ⟨f0, f1⟩ := K9.free (i := 2) rfl; obtain ⟨f2, f3⟩ := K9.free (i := 4) rfl) | fail)
          (try go_wp2_with fail)
          refine hK.out _ _ ?_ (fun hHeld5 => ?_)
          · ((try dsimp only); go_keep)
          clear hK K hHeld4
          (try simp only [Act.put, List.setIfInBounds_toArray, List.set_cons_zero, List.set_cons_succ])
          refine wpAnyH_ready (rs := [6]) (by kernel_rfl) (by simp) ?_
          refine AllReadyH.cons (o := ⟨none, _, _, _, _, _⟩) rfl (fun K hK => ?_) AllReadyH.nil
          go_simp
          refine hK.out _ _ ?_ (fun hHeld6 => ?_)
          · ((try dsimp only); go_keep)
          clear hK K hHeld5
          (try simp only [Act.put, List.setIfInBounds_toArray, List.set_cons_zero, List.set_cons_succ])
          refine wpAnyH_ready (rs := [7]) (by kernel_rfl) (by simp) ?_
          refine AllReadyH.cons (o := ⟨none, _, _, _, _, _⟩) rfl (fun K hK => ?_) AllReadyH.nil
          go_simp
          refine hK.out _ _ ?_ (fun hHeld7 => ?_)
          · ((try dsimp only); go_keep)
          clear hK K hHeld6
          (try simp only [Act.put, List.setIfInBounds_toArray, List.set_cons_zero, List.set_cons_succ])
          refine wpAnyH_done (by kernel_rfl) ?_ _
          have KA := (K9.put 4 rfl (decide (y < 0)) Ay ny cy).put 2 rfl (decide (z < 0)) A8 n8 c8
          simp only [List.set] at KA
          go_wp2_with fail
          go_roundg p.natAbs
          case rel =>
            have KB := (KA.erase 1).erase 0
            simp only [List.eraseIdx] at KB
            obtain ⟨iz, _, ip, _, iy, ir, _, _, im, ia, _⟩ := KB.ints
            exact ⟨r, p, y, z, Aa, Am, Ar, A6, Ay, A8, na, ca, nm, cm, nr, cr, n6, c6, ny, cy, n8, c8, rfl, HS2.out, KB.ints_ ⟨iz, ip, iy, ir, im, ia, trivial⟩⟩
          case measure => (have := HPR.out; have := HK.out; omega)
        refine AllReadyH.cons (o := ⟨some 33, _, _, _, _, _⟩) rfl (fun K hK => ?_) AllReadyH.nil
        go_simp
        refine hK.out _ _ ?_ (fun hHeld3 => ?_)
        · ((try dsimp only); go_keep)
        clear hK K hHeld2
        (try simp only [Act.put, List.setIfInBounds_toArray, List.set_cons_zero, List.set_cons_succ])
        refine wpAnyH_ready (rs := [0, 5]) (by kernel_rfl) (by simp) ?_
        refine AllReadyH.cons (o := ⟨some 32, _, _, _, _, _⟩) rfl (fun K hK => ?_) ?_
        · skip
          go_simp
          refine hK.out _ _ ?_ (fun hHeld4 => ?_)
          · ((try dsimp only); go_keep)
          clear hK K hHeld3
          (try simp only [Act.put, List.setIfInBounds_toArray, List.set_cons_zero, List.set_cons_succ])
          refine wpAnyH_ready (rs := [5]) (by kernel_rfl) (by simp) ?_
          refine AllReadyH.cons (o := ⟨some 37, _, _, _, _, _⟩) rfl (fun K hK => ?_) AllReadyH.nil
          go_simp
          (first | (go_at_call 23; (with_reducible refine (mul_at (iq.ci kq) (iy.ci ky)).mono ?_); rw [HT.out]; rintro e w7 ⟨A7, n7, c7, rfl, d7, u7, v7, g7⟩; have K8 := (K7.call g7).add (CanAt.mk_ d7 u7 v7); clear p0 p1 p2 p3 p4 p5; obtain ⟨_, ⟨p0, p1⟩, ⟨p2, p3⟩, _, ⟨p4, p5⟩, _⟩ := K8.facts; obtain ⟨i7, _, _, _, _, jx, _⟩ := K8.ints) | (go_at_call 93; (with_reducible refine (sub_at (jx.ci kx) (i7.ci kt)).mono ?_); rw [HZ.out]; rintro e w8 ⟨A8, n8, c8, rfl, d8, u8, v8, g8⟩; have K9 := (K8.call g8).add (CanAt.mk_ d8 u8 v8); clear p0 p1 p2 p3 p4 p5; obtain ⟨_, ⟨p0, p1⟩, ⟨p2, p3⟩, _, ⟨p4, p5⟩, _⟩ := K9.facts; obtain ⟨f0, f1⟩ := K9.free (i := 2) rfl; obtain ⟨f2, f3⟩ := K9.free (i := 4) rfl) | fail)
          (try go_wp2_with fail)
          refine hK.out _ _ ?_ (fun hHeld5 => ?_)
          · ((try dsimp only); go_keep)
          clear hK K hHeld4
          (try simp only [Act.put, List.setIfInBounds_toArray, List.set_cons_zero, List.set_cons_succ])
          refine wpAnyH_ready (rs := [6]) (by kernel_rfl) (by simp) ?_
          refine AllReadyH.cons (o := ⟨none, _, _, _, _, _⟩) rfl (fun K hK => ?_) AllReadyH.nil
          go_simp
          refine hK.out _ _ ?_ (fun hHeld6 => ?_)
          · ((try dsimp only); go_keep)
          clear hK K hHeld5
          (try simp only [Act.put, List.setIfInBounds_toArray, List.set_cons_zero, List.set_cons_succ])
          refine wpAnyH_ready (rs := [7]) (by kernel_rfl) (by simp) ?_
          refine AllReadyH.cons (o := ⟨none, _, _, _, _, _⟩) rfl (fun K hK => ?_) AllReadyH.nil
          go_simp
          refine hK.out _ _ ?_ (fun hHeld7 => ?_)
          · ((try dsimp only); go_keep)
          clear hK K hHeld6
          (try simp only [Act.put, List.setIfInBounds_toArray, List.set_cons_zero, List.set_cons_succ])
          refine wpAnyH_done (by kernel_rfl) ?_ _
          have KA := (K9.put 4 rfl (decide (y < 0)) Ay ny cy).put 2 rfl (decide (z < 0)) A8 n8 c8
          simp only [List.set] at KA
          go_wp2_with fail
          go_roundg p.natAbs
          case rel =>
            have KB := (KA.erase 1).erase 0
            simp only [List.eraseIdx] at KB
            obtain ⟨iz, _, ip, _, iy, ir, _, _, im, ia, _⟩ := KB.ints
            exact ⟨r, p, y, z, Aa, Am, Ar, A6, Ay, A8, na, ca, nm, cm, nr, cr, n6, c6, ny, cy, n8, c8, rfl, HS2.out, KB.ints_ ⟨iz, ip, iy, ir, im, ia, trivial⟩⟩
          case measure => (have := HPR.out; have := HK.out; omega)
        refine AllReadyH.cons (o := ⟨some 37, _, _, _, _, _⟩) rfl (fun K hK => ?_) AllReadyH.nil
        go_simp
        (first | (go_at_call 23; (with_reducible refine (mul_at (iq.ci kq) (iy.ci ky)).mono ?_); rw [HT.out]; rintro e w7 ⟨A7, n7, c7, rfl, d7, u7, v7, g7⟩; have K8 := (K7.call g7).add (CanAt.mk_ d7 u7 v7); clear p0 p1 p2 p3 p4 p5; obtain ⟨_, ⟨p0, p1⟩, ⟨p2, p3⟩, _, ⟨p4, p5⟩, _⟩ := K8.facts; obtain ⟨i7, _, _, _, _, jx, _⟩ := K8.ints) | (go_at_call 93; (with_reducible refine (sub_at (jx.ci kx) (i7.ci kt)).mono ?_); rw [HZ.out]; rintro e w8 ⟨A8, n8, c8, rfl, d8, u8, v8, g8⟩; have K9 := (K8.call g8).add (CanAt.mk_ d8 u8 v8); clear p0 p1 p2 p3 p4 p5; obtain ⟨_, ⟨p0, p1⟩, ⟨p2, p3⟩, _, ⟨p4, p5⟩, _⟩ := K9.facts; obtain ⟨f0, f1⟩ := K9.free (i := 2) rfl; obtain ⟨f2, f3⟩ := K9.free (i := 4) rfl) | fail)
        (try go_wp2_with fail)
        refine hK.out _ _ ?_ (fun hHeld4 => ?_)
        · ((try dsimp only); go_keep)
        clear hK K hHeld3
        (try simp only [Act.put, List.setIfInBounds_toArray, List.set_cons_zero, List.set_cons_succ])
        refine wpAnyH_ready (rs := [0]) (by kernel_rfl) (by simp) ?_
        refine AllReadyH.cons (o := ⟨some 32, _, _, _, _, _⟩) rfl (fun K hK => ?_) AllReadyH.nil
        go_simp
        refine hK.out _ _ ?_ (fun hHeld5 => ?_)
        · ((try dsimp only); go_keep)
        clear hK K hHeld4
        (try simp only [Act.put, List.setIfInBounds_toArray, List.set_cons_zero, List.set_cons_succ])
        refine wpAnyH_ready (rs := [6]) (by kernel_rfl) (by simp) ?_
        refine AllReadyH.cons (o := ⟨none, _, _, _, _, _⟩) rfl (fun K hK => ?_) AllReadyH.nil
        go_simp
        refine hK.out _ _ ?_ (fun hHeld6 => ?_)
        · ((try dsimp only); go_keep)
        clear hK K hHeld5
        (try simp only [Act.put, List.setIfInBounds_toArray, List.set_cons_zero, List.set_cons_succ])
        refine wpAnyH_ready (rs := [7]) (by kernel_rfl) (by simp) ?_
        refine AllReadyH.cons (o := ⟨none, _, _, _, _, _⟩) rfl (fun K hK => ?_) AllReadyH.nil
        go_simp
        refine hK.out _ _ ?_ (fun hHeld7 => ?_)
        · ((try dsimp only); go_keep)
        clear hK K hHeld6
        (try simp only [Act.put, List.setIfInBounds_toArray, List.set_cons_zero, List.set_cons_succ])
        refine wpAnyH_done (by kernel_rfl) ?_ _
        have KA := (K9.put 4 rfl (decide (y < 0)) Ay ny cy).put 2 rfl (decide (z < 0)) A8 n8 c8
        simp only [List.set] at KA
        go_wp2_with fail
        go_roundg p.natAbs
        case rel =>
          have KB := (KA.erase 1).erase 0
          simp only [List.eraseIdx] at KB
          obtain ⟨iz, _, ip, _, iy, ir, _, _, im, ia, _⟩ := KB.ints
          exact ⟨r, p, y, z, Aa, Am, Ar, A6, Ay, A8, na, ca, nm, cm, nr, cr, n6, c6, ny, cy, n8, c8, rfl, HS2.out, KB.ints_ ⟨iz, ip, iy, ir, im, ia, trivial⟩⟩
        case measure => (have := HPR.out; have := HK.out; omega)
end Go.Proofs.Ytehoafpnmfkniaa
