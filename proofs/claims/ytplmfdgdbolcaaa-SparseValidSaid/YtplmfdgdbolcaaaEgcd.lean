/-
  The program's divide, with a contract over integers in variables.
  The program's solve: Euclid's loop with one factor.
  The program's ExtendedGCD.
-/
import Derived.Test.YtplmfdgdbolcaaaLongB
import Derived.Test.YtplmfdgdbolcaaaSt
import Derived.RegionTactic
import Derived.BigRegion
import Derived.Test.YtplmfdgdbolcaaaEucl
import Derived.Deep.RegionHeld3
import Derived.Deep.DeepCutAuto
import Derived.Deep.LoopGhost
set_option linter.unusedVariables false
set_option linter.unusedSimpArgs false
namespace Go.Proofs.Ytplmfdgdbolcaaa
open Go.RowKit

/-- Two canonical integers are handed back; what was there is as it was. -/
def RetP (w : World) (q r : Int) (e : Ending) (w' : World) : Prop :=
  ∃ A n c A' n' c', e = .returned (.tuple #[.agg #[.bool (decide (q < 0)), .slice A n c], .agg #[.bool (decide (r < 0)), .slice A' n' c']]) ∧
    CanAt w' (decide (q < 0)) A n c q ∧ CanAt w' (decide (r < 0)) A' n' c' r ∧ Below w.heap.size w w'
theorem RetP.mk_ {w0 w : World} {l : List (Nat × TypeId × List Value)} {k : List (Bool × Option Addr × Nat × Nat × Int × Bool)} {A A' : Option Addr} {n c n' c' : Nat} {q r : Int}
    (h : St w0 w l ((decide (r < 0), A', n', c', r, true) :: (decide (q < 0), A, n, c, q, true) :: k)) :
    RetP w0 q r (.returned (.tuple #[.agg #[.bool (decide (q < 0)), .slice A n c], .agg #[.bool (decide (r < 0)), .slice A' n' c']])) w :=
  ⟨A, n, c, A', n', c', rfl, h.ints.2.1.c, h.ints.1.c, h.below⟩

set_option maxHeartbeats 2000000 in
set_option maxRecDepth 100000 in
theorem divide_at {w : World} {s s' : Bool} {A A' : Option Addr} {n c n' c' : Nat} {x y : Int} (h : IntAt w s A n c x) (h' : IntAt w s' A' n' c' y) :
    Calls Try.prog 86 #[.agg #[.bool s, .slice A n c], .agg #[.bool s', .slice A' n' c']] w (RetP w (dmQ x y) (dmR x y)) := by
  have H0 := (((((((St.start w).addI h).addI h').new 24 (Plains.two s A n c))).new 24 (Plains.two s' A' n' c')).new 24 (Plains.two false none 0 0)).new 24 (Plains.two false none 0 0)
  simp only [World.size_alloc] at H0
  have HH := Lib.hid H0
  clear H0
  obtain ⟨q, HQ⟩ : ∃ v, Hid (dmQ x y = v) := ⟨_, rfl⟩
  obtain ⟨r, HR⟩ : ∃ v, Hid (dmR x y = v) := ⟨_, rfl⟩
  rw [HQ.out, HR.out]
  go_enter Try.func86, Try.ntmps86
  go_wp2_with (go_at_call 80; have H := HH.out; clear HH; obtain ⟨i0, i1, _⟩ := H.ints; (with_reducible refine (divMod_at i1.i i0.i).mono ?_); rw [HQ.out, HR.out]; rintro e w1 ⟨A1, n1, c1, A2, n2, c2, rfl, d1, u1, v1, d2, u2, v2, g⟩; have K := (H.call g).add (CanAt.mk_ d1 u1 v1) |>.add (CanAt.mk_ d2 u2 v2); obtain ⟨f0, f1⟩ := K.free (i := 0) rfl; obtain ⟨f2, f3⟩ := K.free (i := 1) rfl; obtain ⟨⟨p0, p1⟩, ⟨p2, p3⟩, _⟩ := K.facts; clear i0 i1 H)
  have K2 := (K.put 1 rfl (decide (q < 0)) A1 n1 c1).put 0 rfl (decide (r < 0)) A2 n2 c2
  simp only [List.set] at K2
  clear K p0 p1 p2 p3 f0 f1 f2 f3 g d1 d2
  generalize (((w1.setCell ⟨w.heap.size + 1 + 1, 0, none⟩ (.bool (decide (q < 0)))).setCell ⟨w.heap.size + 1 + 1, 1, none⟩ (.slice A1 n1 c1)).setCell ⟨w.heap.size + 1 + 1 + 1, 0, none⟩ (.bool (decide (r < 0)))).setCell ⟨w.heap.size + 1 + 1 + 1, 1, none⟩ (.slice A2 n2 c2) = W at K2 ⊢
  obtain ⟨⟨p0, p1⟩, ⟨p2, p3⟩, _⟩ := K2.facts
  obtain ⟨f0, f1⟩ := K2.free (i := 0) rfl
  obtain ⟨f2, f3⟩ := K2.free (i := 1) rfl
  go_region
  all_goals
    have K3 := ((K2.put 1 rfl (decide (q < 0)) A1 n1 c1).put 0 rfl (decide (r < 0)) A2 n2 c2).drew
    simp only [List.set] at K3
    go_wp2
  all_goals
    generalize ((((W.setCell ⟨w.heap.size + 1 + 1, 0, none⟩ (.bool (decide (q < 0)))).setCell ⟨w.heap.size + 1 + 1, 1, none⟩ (.slice A1 n1 c1)).setCell ⟨w.heap.size + 1 + 1 + 1, 0, none⟩ (.bool (decide (r < 0)))).setCell ⟨w.heap.size + 1 + 1 + 1, 1, none⟩ (.slice A2 n2 c2)).drew = W3 at K3 ⊢
    obtain ⟨⟨r0, r1⟩, ⟨r2, r3⟩, _⟩ := K3.facts
    exact bodyPost_ret (v := .tuple #[.agg #[.bool (decide (q < 0)), .slice A1 n1 c1], .agg #[.bool (decide (r < 0)), .slice A2 n2 c2]]) (by simp [results, Try.results86, go_sem, r0, r1, r2, r3]) rfl (RetP.mk_ K3)

theorem fromInt64_at (z : Int) (h1 : -9223372036854775808 ≤ z) (h2 : z ≤ 9223372036854775807) (w : World) : Calls Try.prog 81 #[.int .i64 z] w (RetZ w z) := fromInt64_any z h1 h2 w

/-- The divisor and the factor are handed back. -/
def RetSol (w : World) (a m : Int) (e : Ending) (w' : World) : Prop :=
  ∃ g x : Int, g = Int.gcd a m ∧ (∃ k, a * x = g + k * m) ∧ x.natAbs ≤ m.natAbs ∧ RetP w g x e w'

/-- A list entry for a variable that holds an integer. -/
abbrev vi (g : Nat) (s : Bool) (A : Option Addr) (n c : Nat) : Nat × TypeId × List Value := (g, 24, [.bool s, .slice A n c])

/-- The head of the loop. -/
def SolI (w wr : World) (h7 h8 : Nat) (a m : Int) (k : Nat) : Prop :=
  ∃ (g r x n : Int) (Aa Am Ag Ar Ax An : Option Addr) (na ca nm cm ng cg nr cr nx cx nn cn : Nat), k = r.natAbs ∧ Sol a m g r x n ∧
    St w wr [vi h8 (decide (n < 0)) An nn cn, vi h7 (decide (r < 0)) Ar nr cr, vi (w.heap.size + 1 + 1 + 1) (decide (x < 0)) Ax nx cx, vi (w.heap.size + 1 + 1) (decide (g < 0)) Ag ng cg, vi (w.heap.size + 1) (decide (m < 0)) Am nm cm, vi w.heap.size (decide (a < 0)) Aa na ca]
      [(decide (n < 0), An, nn, cn, n, true), (decide (r < 0), Ar, nr, cr, r, true), (decide (x < 0), Ax, nx, cx, x, true), (decide (g < 0), Ag, ng, cg, g, true), (decide (m < 0), Am, nm, cm, m, true), (decide (a < 0), Aa, na, ca, a, true)]

theorem CanAt.zero_ (w : World) : CanAt w false none 0 0 0 := ⟨rfl, by simp [digs_zero]; exact Dgs.none_, Nat.le_refl _, Nat.zero_le _⟩
theorem digs_len0 {w : World} {s : Bool} {A : Option Addr} {n c : Nat} {z : Int} (h : CanAt w s A n c z) (hz : z = 0) : n = 0 := by
  have := h.2.1.len
  subst hz
  simp [digs_zero] at this
  omega
theorem digs_lenp {w : World} {s : Bool} {A : Option Addr} {n c : Nat} {z : Int} (h : CanAt w s A n c z) (hz : z ≠ 0) : 0 < n := by
  have := h.2.1.len
  have := digs_pos_len (v := z.natAbs) (by omega)
  omega
theorem Sz.le {x y : Int} {k : Nat} (h : Sz y k) (hxy : x.natAbs ≤ y.natAbs) : Sz x k := Nat.lt_of_le_of_lt hxy h

set_option maxHeartbeats 8000000 in
set_option maxRecDepth 100000 in
theorem solve_at {w : World} {A A' : Option Addr} {n c n' c' : Nat} {a m : Int} (h : CanAt w (decide (a < 0)) A n c a) (h' : CanAt w (decide (m < 0)) A' n' c' m) (za : Sz a 200) (zm : Sz m 200) (hm : 0 < m) :
    Calls Try.prog 85 #[.agg #[.bool (decide (a < 0)), .slice A n c], .agg #[.bool (decide (m < 0)), .slice A' n' c']] w (RetSol w a m) := by
  have H0 := (((((((St.start w).add h).add h').new 24 (Plains.two (decide (a < 0)) A n c))).new 24 (Plains.two (decide (m < 0)) A' n' c')).new 24 (Plains.two false none 0 0)).new 24 (Plains.two false none 0 0)
  simp only [World.size_alloc] at H0
  have HH := Lib.hid H0
  have S0 := Lib.hid (Sol.start a hm)
  have HM := Lib.hid hm
  obtain ⟨q0, HQ0⟩ : ∃ v, Hid (dmQ a m = v) := ⟨_, rfl⟩
  obtain ⟨r0, HR0⟩ : ∃ v, Hid (dmR a m = v) := ⟨_, rfl⟩
  have hra : Hid (a % m = r0) := by rw [← HR0.out]; unfold Hid dmR; rw [if_neg (by omega), if_pos hm]
  have ka := za.ok
  have km := zm.ok
  obtain ⟨s, HS⟩ : ∃ v, Hid (decide (a < 0) = v) := ⟨_, rfl⟩
  obtain ⟨s', HS'⟩ : ∃ v, Hid (decide (m < 0) = v) := ⟨_, rfl⟩
  rw [HS.out, HS'.out]
  rw [HS.out, HS'.out] at HH
  clear H0 hm h h'
  go_enter Try.func85, Try.ntmps85
  go_upto_region 3 with (first
    | (go_at_call 86; have H := HH.out; clear HH; obtain ⟨i0, i1, _⟩ := H.ints; (with_reducible refine (divide_at (i1.ci ka) (i0.ci km)).mono ?_); rw [HQ0.out, HR0.out]; rintro e w1 ⟨A1, n1, c1, A2, n2, c2, rfl, d1, d2, g⟩; have K := ((H.call g).add d2).new 24 (Plains.two (decide (q0 < 0)) A1 n1 c1) |>.new 24 (Plains.two (decide (r0 < 0)) A2 n2 c2); obtain ⟨_, _, ⟨p0, p1⟩, ⟨p2, p3⟩, ⟨p4, p5⟩, _⟩ := K.facts; obtain ⟨f0, f1⟩ := K.free (i := 2) rfl; obtain ⟨f2, f3⟩ := K.free (i := 3) rfl; clear i0 i1 H)
    | fail)
  have K2 := (K.put 3 rfl s' A' n' c').put 2 rfl false none 0 0
  simp only [List.set, World.size_alloc] at K2
  clear K p0 p1 p2 p3 p4 p5 f0 f1 f2 f3 g d1 d2
  generalize (((((w1.alloc (.cells #[.bool (decide (q0 < 0)), .slice A1 n1 c1] 24)).alloc (.cells #[.bool (decide (r0 < 0)), .slice A2 n2 c2] 24)).setCell ⟨w.heap.size + 1 + 1, 0, none⟩ (.bool s')).setCell ⟨w.heap.size + 1 + 1, 1, none⟩ (.slice A' n' c')).setCell ⟨w.heap.size + 1 + 1 + 1, 0, none⟩ (.bool false)).setCell ⟨w.heap.size + 1 + 1 + 1, 1, none⟩ (.slice none 0 0) = W at K2 ⊢
  generalize w1.heap.size = h6 at K2 ⊢
  obtain ⟨h7, H7⟩ : ∃ v, v = h6 + 1 := ⟨_, rfl⟩
  rw [← H7] at K2 ⊢
  clear H7
  go_wp2_with (first
    | (go_at_call 81; (with_reducible refine (fromInt64_at 1 (by decide) (by decide) _).mono ?_); rintro e w3 ⟨A3, n3, c3, rfl, d3, u3, v3, g3⟩; have K3 := ((K2.call g3).add (show CanAt w3 false A3 n3 c3 1 from CanAt.mk_ d3 u3 v3)).new 24 (Plains.two false A3 n3 c3))
    | fail)
  generalize w3.heap.size = h8 at K3 ⊢
  have HK3 : SolI w (w3.alloc (.cells #[.bool false, .slice A3 n3 c3] 24)) h7 h8 a m r0.natAbs := by
    have K4 := K3.erase 2
    simp only [List.eraseIdx] at K4
    rw [← HS.out, ← HS'.out] at K4
    obtain ⟨i3, i2, im, ia, _⟩ := K4.ints
    exact ⟨m, r0, 0, 1, A, A', A', A2, none, A3, n, c, n', c', n', c', n2, c2, 0, 0, n3, c3, rfl, by rw [← hra.out]; exact S0.out, K4.ints_ ⟨i3, i2, Ent.mk_ (CanAt.zero_ _), im, im, ia, trivial⟩⟩
  go_loopg [] r0.natAbs (fun k wr => SolI w wr h7 h8 a m k)
  case atStart => exact HK3
  case round =>
    clear HK3 K3 K2
    obtain ⟨g, r, x, y, Aa, Am, Ag, Ar, Ax, Ay, na, ca, nm, cm, ng, cg, nr, cr, nx, cx, ny, cy, hk, hS, K⟩ := hrel
    by_cases hr : r = 0
    · have HL := Lib.hid (hS.last hr)
      have HN := Lib.hid hS.next_le
      obtain ⟨_, ir, _, _, _, _, _⟩ := K.ints
      obtain rfl := digs_len0 ir.c hr
      clear hS hk hr ir
      obtain ⟨_, ⟨p0, p1⟩, ⟨p2, p3⟩, ⟨p4, p5⟩, _⟩ := K.facts
      obtain ⟨f0, f1⟩ := K.free (i := 2) rfl
      obtain ⟨f2, f3⟩ := K.free (i := 3) rfl
      go_wp2
      go_region
      all_goals
        have K9 := ((K.put 3 rfl (decide (g < 0)) Ag ng cg).put 2 rfl (decide (x < 0)) Ax nx cx).drew
        simp only [List.set] at K9
        go_wp2
      all_goals
        generalize ((((wr.setCell ⟨w.heap.size + 1 + 1, 0, none⟩ (.bool (decide (g < 0)))).setCell ⟨w.heap.size + 1 + 1, 1, none⟩ (.slice Ag ng cg)).setCell ⟨w.heap.size + 1 + 1 + 1, 0, none⟩ (.bool (decide (x < 0)))).setCell ⟨w.heap.size + 1 + 1 + 1, 1, none⟩ (.slice Ax nx cx)).drew = W9 at K9 ⊢
        obtain ⟨_, _, ⟨r0, r1⟩, ⟨r2, r3⟩, _⟩ := K9.facts
        obtain ⟨_, _, ix, ig, _, _, _⟩ := K9.ints
        exact bodyPost_ret (v := .tuple #[.agg #[.bool (decide (g < 0)), .slice Ag ng cg], .agg #[.bool (decide (x < 0)), .slice Ax nx cx]]) (by simp [results, Try.results85, go_sem, r0, r1, r2, r3]) rfl
          ⟨g, x, HL.out.1, HL.out.2, HN.out.2, RetP.mk_ (K9.ints_ (k' := [(decide (x < 0), Ax, nx, cx, x, true), (decide (g < 0), Ag, ng, cg, g, true)]) ⟨ix, ig, trivial⟩)⟩
    · obtain ⟨q, HQ⟩ : ∃ v, Hid (dmQ g r = v) := ⟨_, rfl⟩
      obtain ⟨p, HP⟩ : ∃ v, Hid (dmR g r = v) := ⟨_, rfl⟩
      obtain ⟨t, HT⟩ : ∃ v, Hid (q * y = v) := ⟨_, rfl⟩
      obtain ⟨z, HZ⟩ : ∃ v, Hid (x - t = v) := ⟨_, rfl⟩
      have hr0 : 0 < r := by obtain ⟨X, N, s, -, -, -, -, -, -, -, -, h, -⟩ := hS; omega
      have hqe : dmQ g r = g / r := by unfold dmQ; rw [if_neg (by omega), if_pos hr0]
      have hpe : dmR g r = g % r := by unfold dmR; rw [if_neg (by omega), if_pos hr0]
      have HS2 : Hid (Sol a m r p y z) := by
        have := hS.step hr0
        rw [← hqe, ← hpe, HQ.out, HP.out, HT.out, HZ.out] at this
        exact this
      have hgm : g.natAbs ≤ m.natAbs ∧ r.natAbs ≤ m.natAbs := by obtain ⟨X, N, s, -, -, -, -, -, -, -, h1, h2, h3, h4, -⟩ := hS; omega
      have zg := zm.le hgm.1
      have zr := zm.le hgm.2
      have zy := zm.le hS.next_le.1
      have zx := zm.le hS.next_le.2
      have zq : Sz q 201 := by rw [← HQ.out]; exact dmQ_sz zg
      have kg := zg.ok
      have kr := zr.ok
      have ky := zy.ok
      have kx := zx.ok
      have kq := zq.ok
      have kt : (digs t.natAbs).length ≤ 1000000 := by rw [← HT.out]; exact (zq.mul zy).ok
      have HPR : Hid (p.natAbs < r.natAbs) := by rw [← HP.out]; exact (euclid_rest g hr).2
      obtain ⟨iy, ir, ix, ig, im, ia, _⟩ := K.ints
      have hn1 : 0 < nr := digs_lenp ir.c hr
      have HK := Lib.hid hk
      clear hS hk hr hr0 hqe hpe hgm
      obtain ⟨⟨a0, a1⟩, ⟨p0, p1⟩, ⟨p2, p3⟩, ⟨p4, p5⟩, _⟩ := K.facts
      go_upto_region 6 with (first
        | (go_at_call 86; (with_reducible refine (divide_at (ig.ci kg) (ir.ci kr)).mono ?_); rw [HQ.out, HP.out]; rintro e w5 ⟨A5, n5, c5, A6, n6, c6, rfl, d5, d6, g5⟩; have K5 := (((K.call g5).add d5).add d6).new 24 (Plains.two (decide (q < 0)) A5 n5 c5) |>.new 24 (Plains.two (decide (p < 0)) A6 n6 c6))
        | fail)
      simp only [World.size_alloc] at K5
      clear iy ir ix ig im ia a0 a1 p0 p1 p2 p3 p4 p5 d5 d6 g5 K
      generalize (w5.alloc (.cells #[.bool (decide (q < 0)), .slice A5 n5 c5] 24)).alloc (.cells #[.bool (decide (p < 0)), .slice A6 n6 c6] 24) = W5 at K5 ⊢
      generalize w5.heap.size = h9 at K5 ⊢
      obtain ⟨h10, H10⟩ : ∃ v, v = h9 + 1 := ⟨_, rfl⟩
      rw [← H10] at K5 ⊢
      clear H10
      obtain ⟨z1, z2⟩ := K5.ne 0 5 rfl rfl (by decide)
      obtain ⟨z3, z4⟩ := K5.ne 3 5 rfl rfl (by decide)
      go_cut [] (fun wx => St w wx [vi h10 (decide (p < 0)) A6 n6 c6, vi h9 (decide (q < 0)) A5 n5 c5, vi h8 (decide (y < 0)) Ay ny cy, vi h7 (decide (p < 0)) A6 n6 c6, vi (w.heap.size + 1 + 1 + 1) (decide (x < 0)) Ax nx cx, vi (w.heap.size + 1 + 1) (decide (r < 0)) Ar nr cr, vi (w.heap.size + 1) (decide (m < 0)) Am nm cm, vi w.heap.size (decide (a < 0)) Aa na ca]
        [(decide (p < 0), A6, n6, c6, p, true), (decide (q < 0), A5, n5, c5, q, true), (decide (y < 0), Ay, ny, cy, y, true), (decide (r < 0), Ar, nr, cr, r, true), (decide (x < 0), Ax, nx, cx, x, true), (decide (g < 0), Ag, ng, cg, g, true), (decide (m < 0), Am, nm, cm, m, true), (decide (a < 0), Aa, na, ca, a, true)])
      case first =>
        obtain ⟨⟨p0, p1⟩, _, _, ⟨p2, p3⟩, _, ⟨p4, p5⟩, _⟩ := K5.facts
        obtain ⟨f0, f1⟩ := K5.free (i := 3) rfl
        obtain ⟨f2, f3⟩ := K5.free (i := 5) rfl
        go_region
        all_goals (go_wp2_with fail; go_meet; exact ((K5.put 5 rfl (decide (r < 0)) Ar nr cr).put 3 rfl (decide (p < 0)) A6 n6 c6).drew)
      case rest =>
        clear K5 z1 z2 z3 z4
        have K6 := hcut
        clear hcut
        obtain ⟨z1, z2⟩ := K6.ne 1 2 rfl rfl (by decide)
        obtain ⟨z3, z4⟩ := K6.ne 1 4 rfl rfl (by decide)
        obtain ⟨z5, z6⟩ := K6.ne 2 4 rfl rfl (by decide)
        obtain ⟨_, ⟨p0, p1⟩, ⟨p2, p3⟩, _, ⟨p4, p5⟩, _⟩ := K6.facts
        have K7 := K6.drew
        clear K6
        go_wp2_with fail
        obtain ⟨_, iq, iy, _, ix, _⟩ := K7.ints
        refine wp_region_held_drew (S := fun w' => w'.cell? ⟨h9, 0, none⟩ = some (.bool (decide (q < 0))) ∧ w'.cell? ⟨h9, 1, none⟩ = some (.slice A5 n5 c5)) (by kernel_rfl) ?_ (fun hHeld0 => ?_)
        · ((try dsimp only); go_keep)
        refine wpAnyH_take (i := 2) (oi := ⟨some 34, _, _, _, _, _⟩) (v := ?_) rfl (by kernel_rfl) (by kernel_rfl) (by kernel_rfl) (fun _ _ _ h => h) (Or.inl ⟨by rfl, ?_⟩) (by assumption) ?_
        rotate_left
        · (intro w' hSw; (try dsimp only at hSw); go_simp; (try with_reducible rfl))
        (try simp only [Act.put, List.setIfInBounds_toArray, List.set_cons_zero, List.set_cons_succ])
        refine wpAnyH_ready (rs := [0, 1, 3]) (by kernel_rfl) (by simp) ?_
        refine AllReadyH.cons (o := ⟨some 32, _, _, _, _, _⟩) rfl (fun K hK => ?_) ?_
        · skip
          go_simp
          refine hK.out _ _ ?_ (fun hHeld1 => ?_)
          · ((try dsimp only); go_keep)
          clear hK K hHeld0
          (try simp only [Act.put, List.setIfInBounds_toArray, List.set_cons_zero, List.set_cons_succ])
          refine wpAnyH_ready (rs := [1, 3]) (by kernel_rfl) (by simp) ?_
          refine AllReadyH.cons (o := ⟨some 33, _, _, _, _, _⟩) rfl (fun K hK => ?_) ?_
          · skip
            go_simp
            refine hK.out _ _ ?_ (fun hHeld2 => ?_)
            · ((try dsimp only); go_keep)
            clear hK K hHeld1
            (try simp only [Act.put, List.setIfInBounds_toArray, List.set_cons_zero, List.set_cons_succ])
            refine wpAnyH_ready (rs := [3]) (by kernel_rfl) (by simp) ?_
            refine AllReadyH.cons (o := ⟨some 35, _, _, _, _, _⟩) rfl (fun K hK => ?_) AllReadyH.nil
            go_simp
            refine hK.out _ _ ?_ (fun hHeld3 => ?_)
            · ((try dsimp only); go_keep)
            clear hK K hHeld2
            (try simp only [Act.put, List.setIfInBounds_toArray, List.set_cons_zero, List.set_cons_succ])
            refine wpAnyH_ready (rs := [4]) (by kernel_rfl) (by simp) ?_
            refine AllReadyH.cons (o := ⟨some 36, _, _, _, _, _⟩) rfl (fun K hK => ?_) AllReadyH.nil
            go_simp
            (first | (go_at_call 88; (with_reducible refine (mul_at (iq.ci kq) (iy.ci ky)).mono ?_); rw [HT.out]; rintro e w7 ⟨A7, n7, c7, rfl, d7, u7, v7, g7⟩; have K8 := (K7.call g7).add (CanAt.mk_ d7 u7 v7); clear p0 p1 p2 p3 p4 p5; obtain ⟨_, ⟨p0, p1⟩, ⟨p2, p3⟩, _, ⟨p4, p5⟩, _⟩ := K8.facts; obtain ⟨i7, _, _, _, _, jx, _⟩ := K8.ints) | (go_at_call 87; (with_reducible refine (sub_at (jx.ci kx) (i7.ci kt)).mono ?_); rw [HZ.out]; rintro e w8 ⟨A8, n8, c8, rfl, d8, u8, v8, g8⟩; have K9 := (K8.call g8).add (CanAt.mk_ d8 u8 v8); clear p0 p1 p2 p3 p4 p5; obtain ⟨_, ⟨p0, p1⟩, ⟨p2, p3⟩, _, ⟨p4, p5⟩, _⟩ := K9.facts; obtain ⟨f0, f1⟩ := K9.free (i := 2) rfl; obtain ⟨f2, f3⟩ := K9.free (i := 4) rfl) | fail)
            (try go_wp2_with fail)
            refine hK.out _ _ ?_ (fun hHeld4 => ?_)
            · ((try dsimp only); go_keep)
            clear hK K hHeld3
            (try simp only [Act.put, List.setIfInBounds_toArray, List.set_cons_zero, List.set_cons_succ])
            refine wpAnyH_ready (rs := [5]) (by kernel_rfl) (by simp) ?_
            refine AllReadyH.cons (o := ⟨some 37, _, _, _, _, _⟩) rfl (fun K hK => ?_) AllReadyH.nil
            go_simp
            (first | (go_at_call 88; (with_reducible refine (mul_at (iq.ci kq) (iy.ci ky)).mono ?_); rw [HT.out]; rintro e w7 ⟨A7, n7, c7, rfl, d7, u7, v7, g7⟩; have K8 := (K7.call g7).add (CanAt.mk_ d7 u7 v7); clear p0 p1 p2 p3 p4 p5; obtain ⟨_, ⟨p0, p1⟩, ⟨p2, p3⟩, _, ⟨p4, p5⟩, _⟩ := K8.facts; obtain ⟨i7, _, _, _, _, jx, _⟩ := K8.ints) | (go_at_call 87; (with_reducible refine (sub_at (jx.ci kx) (i7.ci kt)).mono ?_); rw [HZ.out]; rintro e w8 ⟨A8, n8, c8, rfl, d8, u8, v8, g8⟩; have K9 := (K8.call g8).add (CanAt.mk_ d8 u8 v8); clear p0 p1 p2 p3 p4 p5; obtain ⟨_, ⟨p0, p1⟩, ⟨p2, p3⟩, _, ⟨p4, p5⟩, _⟩ := K9.facts; obtain ⟨f0, f1⟩ := K9.free (i := 2) rfl; obtain ⟨f2, f3⟩ := K9.free (i := 4) rfl) | fail)
            (try go_wp2_with fail)
            refine hK.out _ _ ?_ (fun hHeld5 => ?_)
            · ((try dsimp only); go_keep)
            clear hK K hHeld4
            (try simp only [Act.put, List.setIfInBounds_toArray, List.set_cons_zero, List.set_cons_succ])
            refine wpAnyH_ready (rs := [6]) (by kernel_rfl) (by simp) ?_
            refine AllReadyH.cons (o := ⟨none, _, _, _, _, _⟩) rfl (fun K hK => ?_) AllReadyH.nil
            go_simp
            refine hK.out _ _ ?_ (fun hHeld6 => ?_)
            · ((try dsimp only); go_keep)
            clear hK K hHeld5
            (try simp only [Act.put, List.setIfInBounds_toArray, List.set_cons_zero, List.set_cons_succ])
            refine wpAnyH_ready (rs := [7]) (by kernel_rfl) (by simp) ?_
            refine AllReadyH.cons (o := ⟨none, _, _, _, _, _⟩) rfl (fun K hK => ?_) AllReadyH.nil
            go_simp
            refine hK.out _ _ ?_ (fun hHeld7 => ?_)
            · ((try dsimp only); go_keep)
            clear hK K hHeld6
            (try simp only [Act.put, List.setIfInBounds_toArray, List.set_cons_zero, List.set_cons_succ])
            refine wpAnyH_done (by kernel_rfl) ?_ _
            have KA := (K9.put 4 rfl (decide (y < 0)) Ay ny cy).put 2 rfl (decide (z < 0)) A8 n8 c8
            simp only [List.set] at KA
            go_wp2_with fail
            go_roundg p.natAbs
            case rel =>
              have KB := (KA.erase 1).erase 0
              simp only [List.eraseIdx] at KB
              obtain ⟨iz, _, ip, _, iy, ir, _, _, im, ia, _⟩ := KB.ints
              exact ⟨r, p, y, z, Aa, Am, Ar, A6, Ay, A8, na, ca, nm, cm, nr, cr, n6, c6, ny, cy, n8, c8, rfl, HS2.out, KB.ints_ ⟨iz, ip, iy, ir, im, ia, trivial⟩⟩
            case measure => (have := HPR.out; have := HK.out; omega)
          refine AllReadyH.cons (o := ⟨some 35, _, _, _, _, _⟩) rfl (fun K hK => ?_) AllReadyH.nil
          go_simp
          refine hK.out _ _ ?_ (fun hHeld2 => ?_)
          · ((try dsimp only); go_keep)
          clear hK K hHeld1
          (try simp only [Act.put, List.setIfInBounds_toArray, List.set_cons_zero, List.set_cons_succ])
          refine wpAnyH_ready (rs := [1, 4]) (by kernel_rfl) (by simp) ?_
          refine AllReadyH.cons (o := ⟨some 33, _, _, _, _, _⟩) rfl (fun K hK => ?_) ?_
          · skip
            go_simp
            refine hK.out _ _ ?_ (fun hHeld3 => ?_)
            · ((try dsimp only); go_keep)
            clear hK K hHeld2
            (try simp only [Act.put, List.setIfInBounds_toArray, List.set_cons_zero, List.set_cons_succ])
            refine wpAnyH_ready (rs := [4]) (by kernel_rfl) (by simp) ?_
            refine AllReadyH.cons (o := ⟨some 36, _, _, _, _, _⟩) rfl (fun K hK => ?_) AllReadyH.nil
            go_simp
            (first | (go_at_call 88; (with_reducible refine (mul_at (iq.ci kq) (iy.ci ky)).mono ?_); rw [HT.out]; rintro e w7 ⟨A7, n7, c7, rfl, d7, u7, v7, g7⟩; have K8 := (K7.call g7).add (CanAt.mk_ d7 u7 v7); clear p0 p1 p2 p3 p4 p5; obtain ⟨_, ⟨p0, p1⟩, ⟨p2, p3⟩, _, ⟨p4, p5⟩, _⟩ := K8.facts; obtain ⟨i7, _, _, _, _, jx, _⟩ := K8.ints) | (go_at_call 87; (with_reducible refine (sub_at (jx.ci kx) (i7.ci kt)).mono ?_); rw [HZ.out]; rintro e w8 ⟨A8, n8, c8, rfl, d8, u8, v8, g8⟩; have K9 := (K8.call g8).add (CanAt.mk_ d8 u8 v8); clear p0 p1 p2 p3 p4 p5; obtain ⟨_, ⟨p0, p1⟩, ⟨p2, p3⟩, _, ⟨p4, p5⟩, _⟩ := K9.facts; obtain ⟨f0, f1⟩ := K9.free (i := 2) rfl; obtain ⟨f2, f3⟩ := K9.free (i := 4) rfl) | fail)
            (try go_wp2_with fail)
            refine hK.out _ _ ?_ (fun hHeld4 => ?_)
            · ((try dsimp only); go_keep)
            clear hK K hHeld3
            (try simp only [Act.put, List.setIfInBounds_toArray, List.set_cons_zero, List.set_cons_succ])
            refine wpAnyH_ready (rs := [5]) (by kernel_rfl) (by simp) ?_
            refine AllReadyH.cons (o := ⟨some 37, _, _, _, _, _⟩) rfl (fun K hK => ?_) AllReadyH.nil
            go_simp
            (first | (go_at_call 88; (with_reducible refine (mul_at (iq.ci kq) (iy.ci ky)).mono ?_); rw [HT.out]; rintro e w7 ⟨A7, n7, c7, rfl, d7, u7, v7, g7⟩; have K8 := (K7.call g7).add (CanAt.mk_ d7 u7 v7); clear p0 p1 p2 p3 p4 p5; obtain ⟨_, ⟨p0, p1⟩, ⟨p2, p3⟩, _, ⟨p4, p5⟩, _⟩ := K8.facts; obtain ⟨i7, _, _, _, _, jx, _⟩ := K8.ints) | (go_at_call 87; (with_reducible refine (sub_at (jx.ci kx) (i7.ci kt)).mono ?_); rw [HZ.out]; rintro e w8 ⟨A8, n8, c8, rfl, d8, u8, v8, g8⟩; have K9 := (K8.call g8).add (CanAt.mk_ d8 u8 v8); clear p0 p1 p2 p3 p4 p5; obtain ⟨_, ⟨p0, p1⟩, ⟨p2, p3⟩, _, ⟨p4, p5⟩, _⟩ := K9.facts; obtain ⟨f0, f1⟩ := K9.free (i := 2) rfl; obtain ⟨f2, f3⟩ := K9.free (i := 4) rfl) | fail)
            (try go_wp2_with fail)
            refine hK.out _ _ ?_ (fun hHeld5 => ?_)
            · ((try dsimp only); go_keep)
            clear hK K hHeld4
            (try simp only [Act.put, List.setIfInBounds_toArray, List.set_cons_zero, List.set_cons_succ])
            refine wpAnyH_ready (rs := [6]) (by kernel_rfl) (by simp) ?_
            refine AllReadyH.cons (o := ⟨none, _, _, _, _, _⟩) rfl (fun K hK => ?_) AllReadyH.nil
            go_simp
            refine hK.out _ _ ?_ (fun hHeld6 => ?_)
            · ((try dsimp only); go_keep)
            clear hK K hHeld5
            (try simp only [Act.put, List.setIfInBounds_toArray, List.set_cons_zero, List.set_cons_succ])
            refine wpAnyH_ready (rs := [7]) (by kernel_rfl) (by simp) ?_
            refine AllReadyH.cons (o := ⟨none, _, _, _, _, _⟩) rfl (fun K hK => ?_) AllReadyH.nil
            go_simp
            refine hK.out _ _ ?_ (fun hHeld7 => ?_)
            · ((try dsimp only); go_keep)
            clear hK K hHeld6
            (try simp only [Act.put, List.setIfInBounds_toArray, List.set_cons_zero, List.set_cons_succ])
            refine wpAnyH_done (by kernel_rfl) ?_ _
            have KA := (K9.put 4 rfl (decide (y < 0)) Ay ny cy).put 2 rfl (decide (z < 0)) A8 n8 c8
            simp only [List.set] at KA
            go_wp2_with fail
            go_roundg p.natAbs
            case rel =>
              have KB := (KA.erase 1).erase 0
              simp only [List.eraseIdx] at KB
              obtain ⟨iz, _, ip, _, iy, ir, _, _, im, ia, _⟩ := KB.ints
              exact ⟨r, p, y, z, Aa, Am, Ar, A6, Ay, A8, na, ca, nm, cm, nr, cr, n6, c6, ny, cy, n8, c8, rfl, HS2.out, KB.ints_ ⟨iz, ip, iy, ir, im, ia, trivial⟩⟩
            case measure => (have := HPR.out; have := HK.out; omega)
          refine AllReadyH.cons (o := ⟨some 36, _, _, _, _, _⟩) rfl (fun K hK => ?_) AllReadyH.nil
          go_simp
          (first | (go_at_call 88; (with_reducible refine (mul_at (iq.ci kq) (iy.ci ky)).mono ?_); rw [HT.out]; rintro e w7 ⟨A7, n7, c7, rfl, d7, u7, v7, g7⟩; have K8 := (K7.call g7).add (CanAt.mk_ d7 u7 v7); clear p0 p1 p2 p3 p4 p5; obtain ⟨_, ⟨p0, p1⟩, ⟨p2, p3⟩, _, ⟨p4, p5⟩, _⟩ := K8.facts; obtain ⟨i7, _, _, _, _, jx, _⟩ := K8.ints) | (go_at_call 87; (with_reducible refine (sub_at (jx.ci kx) (i7.ci kt)).mono ?_); rw [HZ.out]; rintro e w8 ⟨A8, n8, c8, rfl, d8, u8, v8, g8⟩; have K9 := (K8.call g8).add (CanAt.mk_ d8 u8 v8); clear p0 p1 p2 p3 p4 p5; obtain ⟨_, ⟨p0, p1⟩, ⟨p2, p3⟩, _, ⟨p4, p5⟩, _⟩ := K9.facts; obtain ⟨f0, f1⟩ := K9.free (i := 2) rfl; obtain ⟨f2, f3⟩ := K9.free (i := 4) rfl) | fail)
          (try go_wp2_with fail)
          refine hK.out _ _ ?_ (fun hHeld3 => ?_)
          · ((try dsimp only); go_keep)
          clear hK K hHeld2
          (try simp only [Act.put, List.setIfInBounds_toArray, List.set_cons_zero, List.set_cons_succ])
          refine wpAnyH_ready (rs := [1]) (by kernel_rfl) (by simp) ?_
          refine AllReadyH.cons (o := ⟨some 33, _, _, _, _, _⟩) rfl (fun K hK => ?_) AllReadyH.nil
          go_simp
          refine hK.out _ _ ?_ (fun hHeld4 => ?_)
          · ((try dsimp only); go_keep)
          clear hK K hHeld3
          (try simp only [Act.put, List.setIfInBounds_toArray, List.set_cons_zero, List.set_cons_succ])
          refine wpAnyH_ready (rs := [5]) (by kernel_rfl) (by simp) ?_
          refine AllReadyH.cons (o := ⟨some 37, _, _, _, _, _⟩) rfl (fun K hK => ?_) AllReadyH.nil
          go_simp
          (first | (go_at_call 88; (with_reducible refine (mul_at (iq.ci kq) (iy.ci ky)).mono ?_); rw [HT.out]; rintro e w7 ⟨A7, n7, c7, rfl, d7, u7, v7, g7⟩; have K8 := (K7.call g7).add (CanAt.mk_ d7 u7 v7); clear p0 p1 p2 p3 p4 p5; obtain ⟨_, ⟨p0, p1⟩, ⟨p2, p3⟩, _, ⟨p4, p5⟩, _⟩ := K8.facts; obtain ⟨i7, _, _, _, _, jx, _⟩ := K8.ints) | (go_at_call 87; (with_reducible refine (sub_at (jx.ci kx) (i7.ci kt)).mono ?_); rw [HZ.out]; rintro e w8 ⟨A8, n8, c8, rfl, d8, u8, v8, g8⟩; have K9 := (K8.call g8).add (CanAt.mk_ d8 u8 v8); clear p0 p1 p2 p3 p4 p5; obtain ⟨_, ⟨p0, p1⟩, ⟨p2, p3⟩, _, ⟨p4, p5⟩, _⟩ := K9.facts; obtain ⟨f0, f1⟩ := K9.free (i := 2) rfl; obtain ⟨f2, f3⟩ := K9.free (i := 4) rfl) | fail)
          (try go_wp2_with fail)
          refine hK.out _ _ ?_ (fun hHeld5 => ?_)
          · ((try dsimp only); go_keep)
          clear hK K hHeld4
          (try simp only [Act.put, List.setIfInBounds_toArray, List.set_cons_zero, List.set_cons_succ])
          refine wpAnyH_ready (rs := [6]) (by kernel_rfl) (by simp) ?_
          refine AllReadyH.cons (o := ⟨none, _, _, _, _, _⟩) rfl (fun K hK => ?_) AllReadyH.nil
          go_simp
          refine hK.out _ _ ?_ (fun hHeld6 => ?_)
          · ((try dsimp only); go_keep)
          clear hK K hHeld5
          (try simp only [Act.put, List.setIfInBounds_toArray, List.set_cons_zero, List.set_cons_succ])
          refine wpAnyH_ready (rs := [7]) (by kernel_rfl) (by simp) ?_
          refine AllReadyH.cons (o := ⟨none, _, _, _, _, _⟩) rfl (fun K hK => ?_) AllReadyH.nil
          go_simp
          refine hK.out _ _ ?_ (fun hHeld7 => ?_)
          · ((try dsimp only); go_keep)
          clear hK K hHeld6
          (try simp only [Act.put, List.setIfInBounds_toArray, List.set_cons_zero, List.set_cons_succ])
          refine wpAnyH_done (by kernel_rfl) ?_ _
          have KA := (K9.put 4 rfl (decide (y < 0)) Ay ny cy).put 2 rfl (decide (z < 0)) A8 n8 c8
          simp only [List.set] at KA
          go_wp2_with fail
          go_roundg p.natAbs
          case rel =>
            have KB := (KA.erase 1).erase 0
            simp only [List.eraseIdx] at KB
            obtain ⟨iz, _, ip, _, iy, ir, _, _, im, ia, _⟩ := KB.ints
            exact ⟨r, p, y, z, Aa, Am, Ar, A6, Ay, A8, na, ca, nm, cm, nr, cr, n6, c6, ny, cy, n8, c8, rfl, HS2.out, KB.ints_ ⟨iz, ip, iy, ir, im, ia, trivial⟩⟩
          case measure => (have := HPR.out; have := HK.out; omega)
        refine AllReadyH.cons (o := ⟨some 33, _, _, _, _, _⟩) rfl (fun K hK => ?_) ?_
        · skip
          go_simp
          refine hK.out _ _ ?_ (fun hHeld1 => ?_)
          · ((try dsimp only); go_keep)
          clear hK K hHeld0
          (try simp only [Act.put, List.setIfInBounds_toArray, List.set_cons_zero, List.set_cons_succ])
          refine wpAnyH_ready (rs := [0, 3]) (by kernel_rfl) (by simp) ?_
          refine AllReadyH.cons (o := ⟨some 32, _, _, _, _, _⟩) rfl (fun K hK => ?_) ?_
          · skip
            go_simp
            refine hK.out _ _ ?_ (fun hHeld2 => ?_)
            · ((try dsimp only); go_keep)
            clear hK K hHeld1
            (try simp only [Act.put, List.setIfInBounds_toArray, List.set_cons_zero, List.set_cons_succ])
            refine wpAnyH_ready (rs := [3]) (by kernel_rfl) (by simp) ?_
            refine AllReadyH.cons (o := ⟨some 35, _, _, _, _, _⟩) rfl (fun K hK => ?_) AllReadyH.nil
            go_simp
            refine hK.out _ _ ?_ (fun hHeld3 => ?_)
            · ((try dsimp only); go_keep)
            clear hK K hHeld2
            (try simp only [Act.put, List.setIfInBounds_toArray, List.set_cons_zero, List.set_cons_succ])
            refine wpAnyH_ready (rs := [4]) (by kernel_rfl) (by simp) ?_
            refine AllReadyH.cons (o := ⟨some 36, _, _, _, _, _⟩) rfl (fun K hK => ?_) AllReadyH.nil
            go_simp
            (first | (go_at_call 88; (with_reducible refine (mul_at (iq.ci kq) (iy.ci ky)).mono ?_); rw [HT.out]; rintro e w7 ⟨A7, n7, c7, rfl, d7, u7, v7, g7⟩; have K8 := (K7.call g7).add (CanAt.mk_ d7 u7 v7); clear p0 p1 p2 p3 p4 p5; obtain ⟨_, ⟨p0, p1⟩, ⟨p2, p3⟩, _, ⟨p4, p5⟩, _⟩ := K8.facts; obtain ⟨i7, _, _, _, _, jx, _⟩ := K8.ints) | (go_at_call 87; (with_reducible refine (sub_at (jx.ci kx) (i7.ci kt)).mono ?_); rw [HZ.out]; rintro e w8 ⟨A8, n8, c8, rfl, d8, u8, v8, g8⟩; have K9 := (K8.call g8).add (CanAt.mk_ d8 u8 v8); clear p0 p1 p2 p3 p4 p5; obtain ⟨_, ⟨p0, p1⟩, ⟨p2, p3⟩, _, ⟨p4, p5⟩, _⟩ := K9.facts; obtain ⟨f0, f1⟩ := K9.free (i := 2) rfl; obtain ⟨f2, f3⟩ := K9.free (i := 4) rfl) | fail)
            (try go_wp2_with fail)
            refine hK.out _ _ ?_ (fun hHeld4 => ?_)
            · ((try dsimp only); go_keep)
            clear hK K hHeld3
            (try simp only [Act.put, List.setIfInBounds_toArray, List.set_cons_zero, List.set_cons_succ])
            refine wpAnyH_ready (rs := [5]) (by kernel_rfl) (by simp) ?_
            refine AllReadyH.cons (o := ⟨some 37, _, _, _, _, _⟩) rfl (fun K hK => ?_) AllReadyH.nil
            go_simp
            (first | (go_at_call 88; (with_reducible refine (mul_at (iq.ci kq) (iy.ci ky)).mono ?_); rw [HT.out]; rintro e w7 ⟨A7, n7, c7, rfl, d7, u7, v7, g7⟩; have K8 := (K7.call g7).add (CanAt.mk_ d7 u7 v7); clear p0 p1 p2 p3 p4 p5; obtain ⟨_, ⟨p0, p1⟩, ⟨p2, p3⟩, _, ⟨p4, p5⟩, _⟩ := K8.facts; obtain ⟨i7, _, _, _, _, jx, _⟩ := K8.ints) | (go_at_call 87; (with_reducible refine (sub_at (jx.ci kx) (i7.ci kt)).mono ?_); rw [HZ.out]; rintro e w8 ⟨A8, n8, c8, rfl, d8, u8, v8, g8⟩; have K9 := (K8.call g8).add (CanAt.mk_ d8 u8 v8); clear p0 p1 p2 p3 p4 p5; obtain ⟨_, ⟨p0, p1⟩, ⟨p2, p3⟩, _, ⟨p4, p5⟩, _⟩ := K9.facts; obtain ⟨f0, f1⟩ := K9.free (i := 2) rfl; obtain ⟨f2, f3⟩ := K9.free (i := 4) rfl) | fail)
            (try go_wp2_with fail)
            refine hK.out _ _ ?_ (fun hHeld5 => ?_)
            · ((try dsimp only); go_keep)
            clear hK K hHeld4
            (try simp only [Act.put, List.setIfInBounds_toArray, List.set_cons_zero, List.set_cons_succ])
            refine wpAnyH_ready (rs := [6]) (by kernel_rfl) (by simp) ?_
            refine AllReadyH.cons (o := ⟨none, _, _, _, _, _⟩) rfl (fun K hK => ?_) AllReadyH.nil
            go_simp
            refine hK.out _ _ ?_ (fun hHeld6 => ?_)
            · ((try dsimp only); go_keep)
            clear hK K hHeld5
            (try simp only [Act.put, List.setIfInBounds_toArray, List.set_cons_zero, List.set_cons_succ])
            refine wpAnyH_ready (rs := [7]) (by kernel_rfl) (by simp) ?_
            refine AllReadyH.cons (o := ⟨none, _, _, _, _, _⟩) rfl (fun K hK => ?_) AllReadyH.nil
            go_simp
            refine hK.out _ _ ?_ (fun hHeld7 => ?_)
            · ((try dsimp only); go_keep)
            clear hK K hHeld6
            (try simp only [Act.put, List.setIfInBounds_toArray, List.set_cons_zero, List.set_cons_succ])
            refine wpAnyH_done (by kernel_rfl) ?_ _
            have KA := (K9.put 4 rfl (decide (y < 0)) Ay ny cy).put 2 rfl (decide (z < 0)) A8 n8 c8
            simp only [List.set] at KA
            go_wp2_with fail
            go_roundg p.natAbs
            case rel =>
              have KB := (KA.erase 1).erase 0
              simp only [List.eraseIdx] at KB
              obtain ⟨iz, _, ip, _, iy, ir, _, _, im, ia, _⟩ := KB.ints
              exact ⟨r, p, y, z, Aa, Am, Ar, A6, Ay, A8, na, ca, nm, cm, nr, cr, n6, c6, ny, cy, n8, c8, rfl, HS2.out, KB.ints_ ⟨iz, ip, iy, ir, im, ia, trivial⟩⟩
            case measure => (have := HPR.out; have := HK.out; omega)
          refine AllReadyH.cons (o := ⟨some 35, _, _, _, _, _⟩) rfl (fun K hK => ?_) AllReadyH.nil
          go_simp
          refine hK.out _ _ ?_ (fun hHeld2 => ?_)
          · ((try dsimp only); go_keep)
          clear hK K hHeld1
          (try simp only [Act.put, List.setIfInBounds_toArray, List.set_cons_zero, List.set_cons_succ])
          refine wpAnyH_ready (rs := [0, 4]) (by kernel_rfl) (by simp) ?_
          refine AllReadyH.cons (o := ⟨some 32, _, _, _, _, _⟩) rfl (fun K hK => ?_) ?_
          · skip
            go_simp
            refine hK.out _ _ ?_ (fun hHeld3 => ?_)
            · ((try dsimp only); go_keep)
            clear hK K hHeld2
            (try simp only [Act.put, List.setIfInBounds_toArray, List.set_cons_zero, List.set_cons_succ])
            refine wpAnyH_ready (rs := [4]) (by kernel_rfl) (by simp) ?_
            refine AllReadyH.cons (o := ⟨some 36, _, _, _, _, _⟩) rfl (fun K hK => ?_) AllReadyH.nil
            go_simp
            (first | (go_at_call 88; (with_reducible refine (mul_at (iq.ci kq) (iy.ci ky)).mono ?_); rw [HT.out]; rintro e w7 ⟨A7, n7, c7, rfl, d7, u7, v7, g7⟩; have K8 := (K7.call g7).add (CanAt.mk_ d7 u7 v7); clear p0 p1 p2 p3 p4 p5; obtain ⟨_, ⟨p0, p1⟩, ⟨p2, p3⟩, _, ⟨p4, p5⟩, _⟩ := K8.facts; obtain ⟨i7, _, _, _, _, jx, _⟩ := K8.ints) | (go_at_call 87; (with_reducible refine (sub_at (jx.ci kx) (i7.ci kt)).mono ?_); rw [HZ.out]; rintro e w8 ⟨A8, n8, c8, rfl, d8, u8, v8, g8⟩; have K9 := (K8.call g8).add (CanAt.mk_ d8 u8 v8); clear p0 p1 p2 p3 p4 p5; obtain ⟨_, ⟨p0, p1⟩, ⟨p2, p3⟩, _, ⟨p4, p5⟩, _⟩ := K9.facts; obtain ⟨f0, f1⟩ := K9.free (i := 2) rfl; obtain ⟨f2, f3⟩ := K9.free (i := 4) rfl) | fail)
            (try go_wp2_with fail)
            refine hK.out _ _ ?_ (fun hHeld4 => ?_)
            · ((try dsimp only); go_keep)
            clear hK K hHeld3
            (try simp only [Act.put, List.setIfInBounds_toArray, List.set_cons_zero, List.set_cons_succ])
            refine wpAnyH_ready (rs := [5]) (by kernel_rfl) (by simp) ?_
            refine AllReadyH.cons (o := ⟨some 37, _, _, _, _, _⟩) rfl (fun K hK => ?_) AllReadyH.nil
            go_simp
            (first | (go_at_call 88; (with_reducible refine (mul_at (iq.ci kq) (iy.ci ky)).mono ?_); rw [HT.out]; rintro e w7 ⟨A7, n7, c7, rfl, d7, u7, v7, g7⟩; have K8 := (K7.call g7).add (CanAt.mk_ d7 u7 v7); clear p0 p1 p2 p3 p4 p5; obtain ⟨_, ⟨p0, p1⟩, ⟨p2, p3⟩, _, ⟨p4, p5⟩, _⟩ := K8.facts; obtain ⟨i7, _, _, _, _, jx, _⟩ := K8.ints) | (go_at_call 87; (with_reducible refine (sub_at (jx.ci kx) (i7.ci kt)).mono ?_); rw [HZ.out]; rintro e w8 ⟨A8, n8, c8, rfl, d8, u8, v8, g8⟩; have K9 := (K8.call g8).add (CanAt.mk_ d8 u8 v8); clear p0 p1 p2 p3 p4 p5; obtain ⟨_, ⟨p0, p1⟩, ⟨p2, p3⟩, _, ⟨p4, p5⟩, _⟩ := K9.facts; obtain ⟨f0, f1⟩ := K9.free (i := 2) rfl; obtain ⟨f2, f3⟩ := K9.free (i := 4) rfl) | fail)
            (try go_wp2_with fail)
            refine hK.out _ _ ?_ (fun hHeld5 => ?_)
            · ((try dsimp only); go_keep)
            clear hK K hHeld4
            (try simp only [Act.put, List.setIfInBounds_toArray, List.set_cons_zero, List.set_cons_succ])
            refine wpAnyH_ready (rs := [6]) (by kernel_rfl) (by simp) ?_
            refine AllReadyH.cons (o := ⟨none, _, _, _, _, _⟩) rfl (fun K hK => ?_) AllReadyH.nil
            go_simp
            refine hK.out _ _ ?_ (fun hHeld6 => ?_)
            · ((try dsimp only); go_keep)
            clear hK K hHeld5
            (try simp only [Act.put, List.setIfInBounds_toArray, List.set_cons_zero, List.set_cons_succ])
            refine wpAnyH_ready (rs := [7]) (by kernel_rfl) (by simp) ?_
            refine AllReadyH.cons (o := ⟨none, _, _, _, _, _⟩) rfl (fun K hK => ?_) AllReadyH.nil
            go_simp
            refine hK.out _ _ ?_ (fun hHeld7 => ?_)
            · ((try dsimp only); go_keep)
            clear hK K hHeld6
            (try simp only [Act.put, List.setIfInBounds_toArray, List.set_cons_zero, List.set_cons_succ])
            refine wpAnyH_done (by kernel_rfl) ?_ _
            have KA := (K9.put 4 rfl (decide (y < 0)) Ay ny cy).put 2 rfl (decide (z < 0)) A8 n8 c8
            simp only [List.set] at KA
            go_wp2_with fail
            go_roundg p.natAbs
            case rel =>
              have KB := (KA.erase 1).erase 0
              simp only [List.eraseIdx] at KB
              obtain ⟨iz, _, ip, _, iy, ir, _, _, im, ia, _⟩ := KB.ints
              exact ⟨r, p, y, z, Aa, Am, Ar, A6, Ay, A8, na, ca, nm, cm, nr, cr, n6, c6, ny, cy, n8, c8, rfl, HS2.out, KB.ints_ ⟨iz, ip, iy, ir, im, ia, trivial⟩⟩
            case measure => (have := HPR.out; have := HK.out; omega)
          refine AllReadyH.cons (o := ⟨some 36, _, _, _, _, _⟩) rfl (fun K hK => ?_) AllReadyH.nil
          go_simp
          (first | (go_at_call 88; (with_reducible refine (mul_at (iq.ci kq) (iy.ci ky)).mono ?_); rw [HT.out]; rintro e w7 ⟨A7, n7, c7, rfl, d7, u7, v7, g7⟩; have K8 := (K7.call g7).add (CanAt.mk_ d7 u7 v7); clear p0 p1 p2 p3 p4 p5; obtain ⟨_, ⟨p0, p1⟩, ⟨p2, p3⟩, _, ⟨p4, p5⟩, _⟩ := K8.facts; obtain ⟨i7, _, _, _, _, jx, _⟩ := K8.ints) | (go_at_call 87; (with_reducible refine (sub_at (jx.ci kx) (i7.ci kt)).mono ?_); rw [HZ.out]; rintro e w8 ⟨A8, n8, c8, rfl, d8, u8, v8, g8⟩; have K9 := (K8.call g8).add (CanAt.mk_ d8 u8 v8); clear p0 p1 p2 p3 p4 p5; obtain ⟨_, ⟨p0, p1⟩, ⟨p2, p3⟩, _, ⟨p4, p5⟩, _⟩ := K9.facts; obtain ⟨f0, f1⟩ := K9.free (i := 2) rfl; obtain ⟨f2, f3⟩ := K9.free (i := 4) rfl) | fail)
          (try go_wp2_with fail)
          refine hK.out _ _ ?_ (fun hHeld3 => ?_)
          · ((try dsimp only); go_keep)
          clear hK K hHeld2
          (try simp only [Act.put, List.setIfInBounds_toArray, List.set_cons_zero, List.set_cons_succ])
          refine wpAnyH_ready (rs := [0, 5]) (by kernel_rfl) (by simp) ?_
          refine AllReadyH.cons (o := ⟨some 32, _, _, _, _, _⟩) rfl (fun K hK => ?_) ?_
          · skip
            go_simp
            refine hK.out _ _ ?_ (fun hHeld4 => ?_)
            · ((try dsimp only); go_keep)
            clear hK K hHeld3
            (try simp only [Act.put, List.setIfInBounds_toArray, List.set_cons_zero, List.set_cons_succ])
            refine wpAnyH_ready (rs := [5]) (by kernel_rfl) (by simp) ?_
            refine AllReadyH.cons (o := ⟨some 37, _, _, _, _, _⟩) rfl (fun K hK => ?_) AllReadyH.nil
            go_simp
            (first | (go_at_call 88; (with_reducible refine (mul_at (iq.ci kq) (iy.ci ky)).mono ?_); rw [HT.out]; rintro e w7 ⟨A7, n7, c7, rfl, d7, u7, v7, g7⟩; have K8 := (K7.call g7).add (CanAt.mk_ d7 u7 v7); clear p0 p1 p2 p3 p4 p5; obtain ⟨_, ⟨p0, p1⟩, ⟨p2, p3⟩, _, ⟨p4, p5⟩, _⟩ := K8.facts; obtain ⟨i7, _, _, _, _, jx, _⟩ := K8.ints) | (go_at_call 87; (with_reducible refine (sub_at (jx.ci kx) (i7.ci kt)).mono ?_); rw [HZ.out]; rintro e w8 ⟨A8, n8, c8, rfl, d8, u8, v8, g8⟩; have K9 := (K8.call g8).add (CanAt.mk_ d8 u8 v8); clear p0 p1 p2 p3 p4 p5; obtain ⟨_, ⟨p0, p1⟩, ⟨p2, p3⟩, _, ⟨p4, p5⟩, _⟩ := K9.facts; obtain ⟨f0, f1⟩ := K9.free (i := 2) rfl; obtain ⟨f2, f3⟩ := K9.free (i := 4) rfl) | fail)
            (try go_wp2_with fail)
            refine hK.out _ _ ?_ (fun hHeld5 => ?_)
            · ((try dsimp only); go_keep)
            clear hK K hHeld4
            (try simp only [Act.put, List.setIfInBounds_toArray, List.set_cons_zero, List.set_cons_succ])
            refine wpAnyH_ready (rs := [6]) (by kernel_rfl) (by simp) ?_
            refine AllReadyH.cons (o := ⟨none, _, _, _, _, _⟩) rfl (fun K hK => ?_) AllReadyH.nil
            go_simp
            refine hK.out _ _ ?_ (fun hHeld6 => ?_)
            · ((try dsimp only); go_keep)
            clear hK K hHeld5
            (try simp only [Act.put, List.setIfInBounds_toArray, List.set_cons_zero, List.set_cons_succ])
            refine wpAnyH_ready (rs := [7]) (by kernel_rfl) (by simp) ?_
            refine AllReadyH.cons (o := ⟨none, _, _, _, _, _⟩) rfl (fun K hK => ?_) AllReadyH.nil
            go_simp
            refine hK.out _ _ ?_ (fun hHeld7 => ?_)
            · ((try dsimp only); go_keep)
            clear hK K hHeld6
            (try simp only [Act.put, List.setIfInBounds_toArray, List.set_cons_zero, List.set_cons_succ])
            refine wpAnyH_done (by kernel_rfl) ?_ _
            have KA := (K9.put 4 rfl (decide (y < 0)) Ay ny cy).put 2 rfl (decide (z < 0)) A8 n8 c8
            simp only [List.set] at KA
            go_wp2_with fail
            go_roundg p.natAbs
            case rel =>
              have KB := (KA.erase 1).erase 0
              simp only [List.eraseIdx] at KB
              obtain ⟨iz, _, ip, _, iy, ir, _, _, im, ia, _⟩ := KB.ints
              exact ⟨r, p, y, z, Aa, Am, Ar, A6, Ay, A8, na, ca, nm, cm, nr, cr, n6, c6, ny, cy, n8, c8, rfl, HS2.out, KB.ints_ ⟨iz, ip, iy, ir, im, ia, trivial⟩⟩
            case measure => (have := HPR.out; have := HK.out; omega)
          refine AllReadyH.cons (o := ⟨some 37, _, _, _, _, _⟩) rfl (fun K hK => ?_) AllReadyH.nil
          go_simp
          (first | (go_at_call 88; (with_reducible refine (mul_at (iq.ci kq) (iy.ci ky)).mono ?_); rw [HT.out]; rintro e w7 ⟨A7, n7, c7, rfl, d7, u7, v7, g7⟩; have K8 := (K7.call g7).add (CanAt.mk_ d7 u7 v7); clear p0 p1 p2 p3 p4 p5; obtain ⟨_, ⟨p0, p1⟩, ⟨p2, p3⟩, _, ⟨p4, p5⟩, _⟩ := K8.facts; obtain ⟨i7, _, _, _, _, jx, _⟩ := K8.ints) | (go_at_call 87; (with_reducible refine (sub_at (jx.ci kx) (i7.ci kt)).mono ?_); rw [HZ.out]; rintro e w8 ⟨A8, n8, c8, rfl, d8, u8, v8, g8⟩; have K9 := (K8.call g8).add (CanAt.mk_ d8 u8 v8); clear p0 p1 p2 p3 p4 p5; obtain ⟨_, ⟨p0, p1⟩, ⟨p2, p3⟩, _, ⟨p4, p5⟩, _⟩ := K9.facts; obtain ⟨f0, f1⟩ := K9.free (i := 2) rfl; obtain ⟨f2, f3⟩ := K9.free (i := 4) rfl) | fail)
          (try go_wp2_with fail)
          refine hK.out _ _ ?_ (fun hHeld4 => ?_)
          · ((try dsimp only); go_keep)
          clear hK K hHeld3
          (try simp only [Act.put, List.setIfInBounds_toArray, List.set_cons_zero, List.set_cons_succ])
          refine wpAnyH_ready (rs := [0]) (by kernel_rfl) (by simp) ?_
          refine AllReadyH.cons (o := ⟨some 32, _, _, _, _, _⟩) rfl (fun K hK => ?_) AllReadyH.nil
          go_simp
          refine hK.out _ _ ?_ (fun hHeld5 => ?_)
          · ((try dsimp only); go_keep)
          clear hK K hHeld4
          (try simp only [Act.put, List.setIfInBounds_toArray, List.set_cons_zero, List.set_cons_succ])
          refine wpAnyH_ready (rs := [6]) (by kernel_rfl) (by simp) ?_
          refine AllReadyH.cons (o := ⟨none, _, _, _, _, _⟩) rfl (fun K hK => ?_) AllReadyH.nil
          go_simp
          refine hK.out _ _ ?_ (fun hHeld6 => ?_)
          · ((try dsimp only); go_keep)
          clear hK K hHeld5
          (try simp only [Act.put, List.setIfInBounds_toArray, List.set_cons_zero, List.set_cons_succ])
          refine wpAnyH_ready (rs := [7]) (by kernel_rfl) (by simp) ?_
          refine AllReadyH.cons (o := ⟨none, _, _, _, _, _⟩) rfl (fun K hK => ?_) AllReadyH.nil
          go_simp
          refine hK.out _ _ ?_ (fun hHeld7 => ?_)
          · ((try dsimp only); go_keep)
          clear hK K hHeld6
          (try simp only [Act.put, List.setIfInBounds_toArray, List.set_cons_zero, List.set_cons_succ])
          refine wpAnyH_done (by kernel_rfl) ?_ _
          have KA := (K9.put 4 rfl (decide (y < 0)) Ay ny cy).put 2 rfl (decide (z < 0)) A8 n8 c8
          simp only [List.set] at KA
          go_wp2_with fail
          go_roundg p.natAbs
          case rel =>
            have KB := (KA.erase 1).erase 0
            simp only [List.eraseIdx] at KB
            obtain ⟨iz, _, ip, _, iy, ir, _, _, im, ia, _⟩ := KB.ints
            exact ⟨r, p, y, z, Aa, Am, Ar, A6, Ay, A8, na, ca, nm, cm, nr, cr, n6, c6, ny, cy, n8, c8, rfl, HS2.out, KB.ints_ ⟨iz, ip, iy, ir, im, ia, trivial⟩⟩
          case measure => (have := HPR.out; have := HK.out; omega)
        refine AllReadyH.cons (o := ⟨some 35, _, _, _, _, _⟩) rfl (fun K hK => ?_) AllReadyH.nil
        go_simp
        refine hK.out _ _ ?_ (fun hHeld1 => ?_)
        · ((try dsimp only); go_keep)
        clear hK K hHeld0
        (try simp only [Act.put, List.setIfInBounds_toArray, List.set_cons_zero, List.set_cons_succ])
        refine wpAnyH_ready (rs := [0, 1, 4]) (by kernel_rfl) (by simp) ?_
        refine AllReadyH.cons (o := ⟨some 32, _, _, _, _, _⟩) rfl (fun K hK => ?_) ?_
        · skip
          go_simp
          refine hK.out _ _ ?_ (fun hHeld2 => ?_)
          · ((try dsimp only); go_keep)
          clear hK K hHeld1
          (try simp only [Act.put, List.setIfInBounds_toArray, List.set_cons_zero, List.set_cons_succ])
          refine wpAnyH_ready (rs := [1, 4]) (by kernel_rfl) (by simp) ?_
          refine AllReadyH.cons (o := ⟨some 33, _, _, _, _, _⟩) rfl (fun K hK => ?_) ?_
          · skip
            go_simp
            refine hK.out _ _ ?_ (fun hHeld3 => ?_)
            · ((try dsimp only); go_keep)
            clear hK K hHeld2
            (try simp only [Act.put, List.setIfInBounds_toArray, List.set_cons_zero, List.set_cons_succ])
            refine wpAnyH_ready (rs := [4]) (by kernel_rfl) (by simp) ?_
            refine AllReadyH.cons (o := ⟨some 36, _, _, _, _, _⟩) rfl (fun K hK => ?_) AllReadyH.nil
            go_simp
            (first | (go_at_call 88; (with_reducible refine (mul_at (iq.ci kq) (iy.ci ky)).mono ?_); rw [HT.out]; rintro e w7 ⟨A7, n7, c7, rfl, d7, u7, v7, g7⟩; have K8 := (K7.call g7).add (CanAt.mk_ d7 u7 v7); clear p0 p1 p2 p3 p4 p5; obtain ⟨_, ⟨p0, p1⟩, ⟨p2, p3⟩, _, ⟨p4, p5⟩, _⟩ := K8.facts; obtain ⟨i7, _, _, _, _, jx, _⟩ := K8.ints) | (go_at_call 87; (with_reducible refine (sub_at (jx.ci kx) (i7.ci kt)).mono ?_); rw [HZ.out]; rintro e w8 ⟨A8, n8, c8, rfl, d8, u8, v8, g8⟩; have K9 := (K8.call g8).add (CanAt.mk_ d8 u8 v8); clear p0 p1 p2 p3 p4 p5; obtain ⟨_, ⟨p0, p1⟩, ⟨p2, p3⟩, _, ⟨p4, p5⟩, _⟩ := K9.facts; obtain ⟨f0, f1⟩ := K9.free (i := 2) rfl; obtain ⟨f2, f3⟩ := K9.free (i := 4) rfl) | fail)
            (try go_wp2_with fail)
            refine hK.out _ _ ?_ (fun hHeld4 => ?_)
            · ((try dsimp only); go_keep)
            clear hK K hHeld3
            (try simp only [Act.put, List.setIfInBounds_toArray, List.set_cons_zero, List.set_cons_succ])
            refine wpAnyH_ready (rs := [5]) (by kernel_rfl) (by simp) ?_
            refine AllReadyH.cons (o := ⟨some 37, _, _, _, _, _⟩) rfl (fun K hK => ?_) AllReadyH.nil
            go_simp
            (first | (go_at_call 88; (with_reducible refine (mul_at (iq.ci kq) (iy.ci ky)).mono ?_); rw [HT.out]; rintro e w7 ⟨A7, n7, c7, rfl, d7, u7, v7, g7⟩; have K8 := (K7.call g7).add (CanAt.mk_ d7 u7 v7); clear p0 p1 p2 p3 p4 p5; obtain ⟨_, ⟨p0, p1⟩, ⟨p2, p3⟩, _, ⟨p4, p5⟩, _⟩ := K8.facts; obtain ⟨i7, _, _, _, _, jx, _⟩ := K8.ints) | (go_at_call 87; (with_reducible refine (sub_at (jx.ci kx) (i7.ci kt)).mono ?_); rw [HZ.out]; rintro e w8 ⟨A8, n8, c8, rfl, d8, u8, v8, g8⟩; have K9 := (K8.call g8).add (CanAt.mk_ d8 u8 v8); clear p0 p1 p2 p3 p4 p5; obtain ⟨_, ⟨p0, p1⟩, ⟨p2, p3⟩, _, ⟨p4, p5⟩, _⟩ := K9.facts; obtain ⟨f0, f1⟩ := K9.free (i := 2) rfl; obtain ⟨f2, f3⟩ := K9.free (i := 4) rfl) | fail)
            (try go_wp2_with fail)
            refine hK.out _ _ ?_ (fun hHeld5 => ?_)
            · ((try dsimp only); go_keep)
            clear hK K hHeld4
            (try simp only [Act.put, List.setIfInBounds_toArray, List.set_cons_zero, List.set_cons_succ])
            refine wpAnyH_ready (rs := [6]) (by kernel_rfl) (by simp) ?_
            refine AllReadyH.cons (o := ⟨none, _, _, _, _, _⟩) rfl (fun K hK => ?_) AllReadyH.nil
            go_simp
            refine hK.out _ _ ?_ (fun hHeld6 => ?_)
            · ((try dsimp only); go_keep)
            clear hK K hHeld5
            (try simp only [Act.put, List.setIfInBounds_toArray, List.set_cons_zero, List.set_cons_succ])
            refine wpAnyH_ready (rs := [7]) (by kernel_rfl) (by simp) ?_
            refine AllReadyH.cons (o := ⟨none, _, _, _, _, _⟩) rfl (fun K hK => ?_) AllReadyH.nil
            go_simp
            refine hK.out _ _ ?_ (fun hHeld7 => ?_)
            · ((try dsimp only); go_keep)
            clear hK K hHeld6
            (try simp only [Act.put, List.setIfInBounds_toArray, List.set_cons_zero, List.set_cons_succ])
            refine wpAnyH_done (by kernel_rfl) ?_ _
            have KA := (K9.put 4 rfl (decide (y < 0)) Ay ny cy).put 2 rfl (decide (z < 0)) A8 n8 c8
            simp only [List.set] at KA
            go_wp2_with fail
            go_roundg p.natAbs
            case rel =>
              have KB := (KA.erase 1).erase 0
              simp only [List.eraseIdx] at KB
              obtain ⟨iz, _, ip, _, iy, ir, _, _, im, ia, _⟩ := KB.ints
              exact ⟨r, p, y, z, Aa, Am, Ar, A6, Ay, A8, na, ca, nm, cm, nr, cr, n6, c6, ny, cy, n8, c8, rfl, HS2.out, KB.ints_ ⟨iz, ip, iy, ir, im, ia, trivial⟩⟩
            case measure => (have := HPR.out; have := HK.out; omega)
          refine AllReadyH.cons (o := ⟨some 36, _, _, _, _, _⟩) rfl (fun K hK => ?_) AllReadyH.nil
          go_simp
          (first | (go_at_call 88; (with_reducible refine (mul_at (iq.ci kq) (iy.ci ky)).mono ?_); rw [HT.out]; rintro e w7 ⟨A7, n7, c7, rfl, d7, u7, v7, g7⟩; have K8 := (K7.call g7).add (CanAt.mk_ d7 u7 v7); clear p0 p1 p2 p3 p4 p5; obtain ⟨_, ⟨p0, p1⟩, ⟨p2, p3⟩, _, ⟨p4, p5⟩, _⟩ := K8.facts; obtain ⟨i7, _, _, _, _, jx, _⟩ := K8.ints) | (go_at_call 87; (with_reducible refine (sub_at (jx.ci kx) (i7.ci kt)).mono ?_); rw [HZ.out]; rintro e w8 ⟨A8, n8, c8, rfl, d8, u8, v8, g8⟩; have K9 := (K8.call g8).add (CanAt.mk_ d8 u8 v8); clear p0 p1 p2 p3 p4 p5; obtain ⟨_, ⟨p0, p1⟩, ⟨p2, p3⟩, _, ⟨p4, p5⟩, _⟩ := K9.facts; obtain ⟨f0, f1⟩ := K9.free (i := 2) rfl; obtain ⟨f2, f3⟩ := K9.free (i := 4) rfl) | fail)
          (try go_wp2_with fail)
          refine hK.out _ _ ?_ (fun hHeld3 => ?_)
          · ((try dsimp only); go_keep)
          clear hK K hHeld2
          (try simp only [Act.put, List.setIfInBounds_toArray, List.set_cons_zero, List.set_cons_succ])
          refine wpAnyH_ready (rs := [1]) (by kernel_rfl) (by simp) ?_
          refine AllReadyH.cons (o := ⟨some 33, _, _, _, _, _⟩) rfl (fun K hK => ?_) AllReadyH.nil
          go_simp
          refine hK.out _ _ ?_ (fun hHeld4 => ?_)
          · ((try dsimp only); go_keep)
          clear hK K hHeld3
          (try simp only [Act.put, List.setIfInBounds_toArray, List.set_cons_zero, List.set_cons_succ])
          refine wpAnyH_ready (rs := [5]) (by kernel_rfl) (by simp) ?_
          refine AllReadyH.cons (o := ⟨some 37, _, _, _, _, _⟩) rfl (fun K hK => ?_) AllReadyH.nil
          go_simp
          (first | (go_at_call 88; (with_reducible refine (mul_at (iq.ci kq) (iy.ci ky)).mono ?_); rw [HT.out]; rintro e w7 ⟨A7, n7, c7, rfl, d7, u7, v7, g7⟩; have K8 := (K7.call g7).add (CanAt.mk_ d7 u7 v7); clear p0 p1 p2 p3 p4 p5; obtain ⟨_, ⟨p0, p1⟩, ⟨p2, p3⟩, _, ⟨p4, p5⟩, _⟩ := K8.facts; obtain ⟨i7, _, _, _, _, jx, _⟩ := K8.ints) | (go_at_call 87; (with_reducible refine (sub_at (jx.ci kx) (i7.ci kt)).mono ?_); rw [HZ.out]; rintro e w8 ⟨A8, n8, c8, rfl, d8, u8, v8, g8⟩; have K9 := (K8.call g8).add (CanAt.mk_ d8 u8 v8); clear p0 p1 p2 p3 p4 p5; obtain ⟨_, ⟨p0, p1⟩, ⟨p2, p3⟩, _, ⟨p4, p5⟩, _⟩ := K9.facts; obtain ⟨f0, f1⟩ := K9.free (i := 2) rfl; obtain ⟨f2, f3⟩ := K9.free (i := 4) rfl) | fail)
          (try go_wp2_with fail)
          refine hK.out _ _ ?_ (fun hHeld5 => ?_)
          · ((try dsimp only); go_keep)
          clear hK K hHeld4
          (try simp only [Act.put, List.setIfInBounds_toArray, List.set_cons_zero, List.set_cons_succ])
          refine wpAnyH_ready (rs := [6]) (by kernel_rfl) (by simp) ?_
          refine AllReadyH.cons (o := ⟨none, _, _, _, _, _⟩) rfl (fun K hK => ?_) AllReadyH.nil
          go_simp
          refine hK.out _ _ ?_ (fun hHeld6 => ?_)
          · ((try dsimp only); go_keep)
          clear hK K hHeld5
          (try simp only [Act.put, List.setIfInBounds_toArray, List.set_cons_zero, List.set_cons_succ])
          refine wpAnyH_ready (rs := [7]) (by kernel_rfl) (by simp) ?_
          refine AllReadyH.cons (o := ⟨none, _, _, _, _, _⟩) rfl (fun K hK => ?_) AllReadyH.nil
          go_simp
          refine hK.out _ _ ?_ (fun hHeld7 => ?_)
          · ((try dsimp only); go_keep)
          clear hK K hHeld6
          (try simp only [Act.put, List.setIfInBounds_toArray, List.set_cons_zero, List.set_cons_succ])
          refine wpAnyH_done (by kernel_rfl) ?_ _
          have KA := (K9.put 4 rfl (decide (y < 0)) Ay ny cy).put 2 rfl (decide (z < 0)) A8 n8 c8
          simp only [List.set] at KA
          go_wp2_with fail
          go_roundg p.natAbs
          case rel =>
            have KB := (KA.erase 1).erase 0
            simp only [List.eraseIdx] at KB
            obtain ⟨iz, _, ip, _, iy, ir, _, _, im, ia, _⟩ := KB.ints
            exact ⟨r, p, y, z, Aa, Am, Ar, A6, Ay, A8, na, ca, nm, cm, nr, cr, n6, c6, ny, cy, n8, c8, rfl, HS2.out, KB.ints_ ⟨iz, ip, iy, ir, im, ia, trivial⟩⟩
          case measure => (have := HPR.out; have := HK.out; omega)
        refine AllReadyH.cons (o := ⟨some 33, _, _, _, _, _⟩) rfl (fun K hK => ?_) ?_
        · skip
          go_simp
          refine hK.out _ _ ?_ (fun hHeld2 => ?_)
          · ((try dsimp only); go_keep)
          clear hK K hHeld1
          (try simp only [Act.put, List.setIfInBounds_toArray, List.set_cons_zero, List.set_cons_succ])
          refine wpAnyH_ready (rs := [0, 4]) (by kernel_rfl) (by simp) ?_
          refine AllReadyH.cons (o := ⟨some 32, _, _, _, _, _⟩) rfl (fun K hK => ?_) ?_
          · skip
            go_simp
            refine hK.out _ _ ?_ (fun hHeld3 => ?_)
            · ((try dsimp only); go_keep)
            clear hK K hHeld2
            (try simp only [Act.put, List.setIfInBounds_toArray, List.set_cons_zero, List.set_cons_succ])
            refine wpAnyH_ready (rs := [4]) (by kernel_rfl) (by simp) ?_
            refine AllReadyH.cons (o := ⟨some 36, _, _, _, _, _⟩) rfl (fun K hK => ?_) AllReadyH.nil
            go_simp
            (first | (go_at_call 88; (with_reducible refine (mul_at (iq.ci kq) (iy.ci ky)).mono ?_); rw [HT.out]; rintro e w7 ⟨A7, n7, c7, rfl, d7, u7, v7, g7⟩; have K8 := (K7.call g7).add (CanAt.mk_ d7 u7 v7); clear p0 p1 p2 p3 p4 p5; obtain ⟨_, ⟨p0, p1⟩, ⟨p2, p3⟩, _, ⟨p4, p5⟩, _⟩ := K8.facts; obtain ⟨i7, _, _, _, _, jx, _⟩ := K8.ints) | (go_at_call 87; (with_reducible refine (sub_at (jx.ci kx) (i7.ci kt)).mono ?_); rw [HZ.out]; rintro e w8 ⟨A8, n8, c8, rfl, d8, u8, v8, g8⟩; have K9 := (K8.call g8).add (CanAt.mk_ d8 u8 v8); clear p0 p1 p2 p3 p4 p5; obtain ⟨_, ⟨p0, p1⟩, ⟨p2, p3⟩, _, ⟨p4, p5⟩, _⟩ := K9.facts; obtain ⟨f0, f1⟩ := K9.free (i := 2) rfl; obtain ⟨f2, f3⟩ := K9.free (i := 4) rfl) | fail)
            (try go_wp2_with fail)
            refine hK.out _ _ ?_ (fun hHeld4 => ?_)
            · ((try dsimp only); go_keep)
            clear hK K hHeld3
            (try simp only [Act.put, List.setIfInBounds_toArray, List.set_cons_zero, List.set_cons_succ])
            refine wpAnyH_ready (rs := [5]) (by kernel_rfl) (by simp) ?_
            refine AllReadyH.cons (o := ⟨some 37, _, _, _, _, _⟩) rfl (fun K hK => ?_) AllReadyH.nil
            go_simp
            (first | (go_at_call 88; (with_reducible refine (mul_at (iq.ci kq) (iy.ci ky)).mono ?_); rw [HT.out]; rintro e w7 ⟨A7, n7, c7, rfl, d7, u7, v7, g7⟩; have K8 := (K7.call g7).add (CanAt.mk_ d7 u7 v7); clear p0 p1 p2 p3 p4 p5; obtain ⟨_, ⟨p0, p1⟩, ⟨p2, p3⟩, _, ⟨p4, p5⟩, _⟩ := K8.facts; obtain ⟨i7, _, _, _, _, jx, _⟩ := K8.ints) | (go_at_call 87; (with_reducible refine (sub_at (jx.ci kx) (i7.ci kt)).mono ?_); rw [HZ.out]; rintro e w8 ⟨A8, n8, c8, rfl, d8, u8, v8, g8⟩; have K9 := (K8.call g8).add (CanAt.mk_ d8 u8 v8); clear p0 p1 p2 p3 p4 p5; obtain ⟨_, ⟨p0, p1⟩, ⟨p2, p3⟩, _, ⟨p4, p5⟩, _⟩ := K9.facts; obtain ⟨f0, f1⟩ := K9.free (i := 2) rfl; obtain ⟨f2, f3⟩ := K9.free (i := 4) rfl) | fail)
            (try go_wp2_with fail)
            refine hK.out _ _ ?_ (fun hHeld5 => ?_)
            · ((try dsimp only); go_keep)
            clear hK K hHeld4
            (try simp only [Act.put, List.setIfInBounds_toArray, List.set_cons_zero, List.set_cons_succ])
            refine wpAnyH_ready (rs := [6]) (by kernel_rfl) (by simp) ?_
            refine AllReadyH.cons (o := ⟨none, _, _, _, _, _⟩) rfl (fun K hK => ?_) AllReadyH.nil
            go_simp
            refine hK.out _ _ ?_ (fun hHeld6 => ?_)
            · ((try dsimp only); go_keep)
            clear hK K hHeld5
            (try simp only [Act.put, List.setIfInBounds_toArray, List.set_cons_zero, List.set_cons_succ])
            refine wpAnyH_ready (rs := [7]) (by kernel_rfl) (by simp) ?_
            refine AllReadyH.cons (o := ⟨none, _, _, _, _, _⟩) rfl (fun K hK => ?_) AllReadyH.nil
            go_simp
            refine hK.out _ _ ?_ (fun hHeld7 => ?_)
            · ((try dsimp only); go_keep)
            clear hK K hHeld6
            (try simp only [Act.put, List.setIfInBounds_toArray, List.set_cons_zero, List.set_cons_succ])
            refine wpAnyH_done (by kernel_rfl) ?_ _
            have KA := (K9.put 4 rfl (decide (y < 0)) Ay ny cy).put 2 rfl (decide (z < 0)) A8 n8 c8
            simp only [List.set] at KA
            go_wp2_with fail
            go_roundg p.natAbs
            case rel =>
              have KB := (KA.erase 1).erase 0
              simp only [List.eraseIdx] at KB
              obtain ⟨iz, _, ip, _, iy, ir, _, _, im, ia, _⟩ := KB.ints
              exact ⟨r, p, y, z, Aa, Am, Ar, A6, Ay, A8, na, ca, nm, cm, nr, cr, n6, c6, ny, cy, n8, c8, rfl, HS2.out, KB.ints_ ⟨iz, ip, iy, ir, im, ia, trivial⟩⟩
            case measure => (have := HPR.out; have := HK.out; omega)
          refine AllReadyH.cons (o := ⟨some 36, _, _, _, _, _⟩) rfl (fun K hK => ?_) AllReadyH.nil
          go_simp
          (first | (go_at_call 88; (with_reducible refine (mul_at (iq.ci kq) (iy.ci ky)).mono ?_); rw [HT.out]; rintro e w7 ⟨A7, n7, c7, rfl, d7, u7, v7, g7⟩; have K8 := (K7.call g7).add (CanAt.mk_ d7 u7 v7); clear p0 p1 p2 p3 p4 p5; obtain ⟨_, ⟨p0, p1⟩, ⟨p2, p3⟩, _, ⟨p4, p5⟩, _⟩ := K8.facts; obtain ⟨i7, _, _, _, _, jx, _⟩ := K8.ints) | (go_at_call 87; (with_reducible refine (sub_at (jx.ci kx) (i7.ci kt)).mono ?_); rw [HZ.out]; rintro e w8 ⟨A8, n8, c8, rfl, d8, u8, v8, g8⟩; have K9 := (K8.call g8).add (CanAt.mk_ d8 u8 v8); clear p0 p1 p2 p3 p4 p5; obtain ⟨_, ⟨p0, p1⟩, ⟨p2, p3⟩, _, ⟨p4, p5⟩, _⟩ := K9.facts; obtain ⟨f0, f1⟩ := K9.free (i := 2) rfl; obtain ⟨f2, f3⟩ := K9.free (i := 4) rfl) | fail)
          (try go_wp2_with fail)
          refine hK.out _ _ ?_ (fun hHeld3 => ?_)
          · ((try dsimp only); go_keep)
          clear hK K hHeld2
          (try simp only [Act.put, List.setIfInBounds_toArray, List.set_cons_zero, List.set_cons_succ])
          refine wpAnyH_ready (rs := [0, 5]) (by kernel_rfl) (by simp) ?_
          refine AllReadyH.cons (o := ⟨some 32, _, _, _, _, _⟩) rfl (fun K hK => ?_) ?_
          · skip
            go_simp
            refine hK.out _ _ ?_ (fun hHeld4 => ?_)
            · ((try dsimp only); go_keep)
            clear hK K hHeld3
            (try simp only [Act.put, List.setIfInBounds_toArray, List.set_cons_zero, List.set_cons_succ])
            refine wpAnyH_ready (rs := [5]) (by kernel_rfl) (by simp) ?_
            refine AllReadyH.cons (o := ⟨some 37, _, _, _, _, _⟩) rfl (fun K hK => ?_) AllReadyH.nil
            go_simp
            (first | (go_at_call 88; (with_reducible refine (mul_at (iq.ci kq) (iy.ci ky)).mono ?_); rw [HT.out]; rintro e w7 ⟨A7, n7, c7, rfl, d7, u7, v7, g7⟩; have K8 := (K7.call g7).add (CanAt.mk_ d7 u7 v7); clear p0 p1 p2 p3 p4 p5; obtain ⟨_, ⟨p0, p1⟩, ⟨p2, p3⟩, _, ⟨p4, p5⟩, _⟩ := K8.facts; obtain ⟨i7, _, _, _, _, jx, _⟩ := K8.ints) | (go_at_call 87; (with_reducible refine (sub_at (jx.ci kx) (i7.ci kt)).mono ?_); rw [HZ.out]; rintro e w8 ⟨A8, n8, c8, rfl, d8, u8, v8, g8⟩; have K9 := (K8.call g8).add (CanAt.mk_ d8 u8 v8); clear p0 p1 p2 p3 p4 p5; obtain ⟨_, ⟨p0, p1⟩, ⟨p2, p3⟩, _, ⟨p4, p5⟩, _⟩ := K9.facts; obtain ⟨f0, f1⟩ := K9.free (i := 2) rfl; obtain ⟨f2, f3⟩ := K9.free (i := 4) rfl) | fail)
            (try go_wp2_with fail)
            refine hK.out _ _ ?_ (fun hHeld5 => ?_)
            · ((try dsimp only); go_keep)
            clear hK K hHeld4
            (try simp only [Act.put, List.setIfInBounds_toArray, List.set_cons_zero, List.set_cons_succ])
            refine wpAnyH_ready (rs := [6]) (by kernel_rfl) (by simp) ?_
            refine AllReadyH.cons (o := ⟨none, _, _, _, _, _⟩) rfl (fun K hK => ?_) AllReadyH.nil
            go_simp
            refine hK.out _ _ ?_ (fun hHeld6 => ?_)
            · ((try dsimp only); go_keep)
            clear hK K hHeld5
            (try simp only [Act.put, List.setIfInBounds_toArray, List.set_cons_zero, List.set_cons_succ])
            refine wpAnyH_ready (rs := [7]) (by kernel_rfl) (by simp) ?_
            refine AllReadyH.cons (o := ⟨none, _, _, _, _, _⟩) rfl (fun K hK => ?_) AllReadyH.nil
            go_simp
            refine hK.out _ _ ?_ (fun hHeld7 => ?_)
            · ((try dsimp only); go_keep)
            clear hK K hHeld6
            (try simp only [Act.put, List.setIfInBounds_toArray, List.set_cons_zero, List.set_cons_succ])
            refine wpAnyH_done (by kernel_rfl) ?_ _
            have KA := (K9.put 4 rfl (decide (y < 0)) Ay ny cy).put 2 rfl (decide (z < 0)) A8 n8 c8
            simp only [List.set] at KA
            go_wp2_with fail
            go_roundg p.natAbs
            case rel =>
              have KB := (KA.erase 1).erase 0
              simp only [List.eraseIdx] at KB
              obtain ⟨iz, _, ip, _, iy, ir, _, _, im, ia, _⟩ := KB.ints
              exact ⟨r, p, y, z, Aa, Am, Ar, A6, Ay, A8, na, ca, nm, cm, nr, cr, n6, c6, ny, cy, n8, c8, rfl, HS2.out, KB.ints_ ⟨iz, ip, iy, ir, im, ia, trivial⟩⟩
            case measure => (have := HPR.out; have := HK.out; omega)
          refine AllReadyH.cons (o := ⟨some 37, _, _, _, _, _⟩) rfl (fun K hK => ?_) AllReadyH.nil
          go_simp
          (first | (go_at_call 88; (with_reducible refine (mul_at (iq.ci kq) (iy.ci ky)).mono ?_); rw [HT.out]; rintro e w7 ⟨A7, n7, c7, rfl, d7, u7, v7, g7⟩; have K8 := (K7.call g7).add (CanAt.mk_ d7 u7 v7); clear p0 p1 p2 p3 p4 p5; obtain ⟨_, ⟨p0, p1⟩, ⟨p2, p3⟩, _, ⟨p4, p5⟩, _⟩ := K8.facts; obtain ⟨i7, _, _, _, _, jx, _⟩ := K8.ints) | (go_at_call 87; (with_reducible refine (sub_at (jx.ci kx) (i7.ci kt)).mono ?_); rw [HZ.out]; rintro e w8 ⟨A8, n8, c8, rfl, d8, u8, v8, g8⟩; have K9 := (K8.call g8).add (CanAt.mk_ d8 u8 v8); clear p0 p1 p2 p3 p4 p5; obtain ⟨_, ⟨p0, p1⟩, ⟨p2, p3⟩, _, ⟨p4, p5⟩, _⟩ := K9.facts; obtain ⟨f0, f1⟩ := K9.free (i := 2) rfl; obtain ⟨f2, f3⟩ := K9.free (i := 4) rfl) | fail)
          (try go_wp2_with fail)
          refine hK.out _ _ ?_ (fun hHeld4 => ?_)
          · ((try dsimp only); go_keep)
          clear hK K hHeld3
          (try simp only [Act.put, List.setIfInBounds_toArray, List.set_cons_zero, List.set_cons_succ])
          refine wpAnyH_ready (rs := [0]) (by kernel_rfl) (by simp) ?_
          refine AllReadyH.cons (o := ⟨some 32, _, _, _, _, _⟩) rfl (fun K hK => ?_) AllReadyH.nil
          go_simp
          refine hK.out _ _ ?_ (fun hHeld5 => ?_)
          · ((try dsimp only); go_keep)
          clear hK K hHeld4
          (try simp only [Act.put, List.setIfInBounds_toArray, List.set_cons_zero, List.set_cons_succ])
          refine wpAnyH_ready (rs := [6]) (by kernel_rfl) (by simp) ?_
          refine AllReadyH.cons (o := ⟨none, _, _, _, _, _⟩) rfl (fun K hK => ?_) AllReadyH.nil
          go_simp
          refine hK.out _ _ ?_ (fun hHeld6 => ?_)
          · ((try dsimp only); go_keep)
          clear hK K hHeld5
          (try simp only [Act.put, List.setIfInBounds_toArray, List.set_cons_zero, List.set_cons_succ])
          refine wpAnyH_ready (rs := [7]) (by kernel_rfl) (by simp) ?_
          refine AllReadyH.cons (o := ⟨none, _, _, _, _, _⟩) rfl (fun K hK => ?_) AllReadyH.nil
          go_simp
          refine hK.out _ _ ?_ (fun hHeld7 => ?_)
          · ((try dsimp only); go_keep)
          clear hK K hHeld6
          (try simp only [Act.put, List.setIfInBounds_toArray, List.set_cons_zero, List.set_cons_succ])
          refine wpAnyH_done (by kernel_rfl) ?_ _
          have KA := (K9.put 4 rfl (decide (y < 0)) Ay ny cy).put 2 rfl (decide (z < 0)) A8 n8 c8
          simp only [List.set] at KA
          go_wp2_with fail
          go_roundg p.natAbs
          case rel =>
            have KB := (KA.erase 1).erase 0
            simp only [List.eraseIdx] at KB
            obtain ⟨iz, _, ip, _, iy, ir, _, _, im, ia, _⟩ := KB.ints
            exact ⟨r, p, y, z, Aa, Am, Ar, A6, Ay, A8, na, ca, nm, cm, nr, cr, n6, c6, ny, cy, n8, c8, rfl, HS2.out, KB.ints_ ⟨iz, ip, iy, ir, im, ia, trivial⟩⟩
          case measure => (have := HPR.out; have := HK.out; omega)
        refine AllReadyH.cons (o := ⟨some 36, _, _, _, _, _⟩) rfl (fun K hK => ?_) AllReadyH.nil
        go_simp
        (first | (go_at_call 88; (with_reducible refine (mul_at (iq.ci kq) (iy.ci ky)).mono ?_); rw [HT.out]; rintro e w7 ⟨A7, n7, c7, rfl, d7, u7, v7, g7⟩; have K8 := (K7.call g7).add (CanAt.mk_ d7 u7 v7); clear p0 p1 p2 p3 p4 p5; obtain ⟨_, ⟨p0, p1⟩, ⟨p2, p3⟩, _, ⟨p4, p5⟩, _⟩ := K8.facts; obtain ⟨i7, _, _, _, _, jx, _⟩ := K8.ints) | (go_at_call 87; (with_reducible refine (sub_at (jx.ci kx) (i7.ci kt)).mono ?_); rw [HZ.out]; rintro e w8 ⟨A8, n8, c8, rfl, d8, u8, v8, g8⟩; have K9 := (K8.call g8).add (CanAt.mk_ d8 u8 v8); clear p0 p1 p2 p3 p4 p5; obtain ⟨_, ⟨p0, p1⟩, ⟨p2, p3⟩, _, ⟨p4, p5⟩, _⟩ := K9.facts; obtain ⟨f0, f1⟩ := K9.free (i := 2) rfl; obtain ⟨f2, f3⟩ := K9.free (i := 4) rfl) | fail)
        (try go_wp2_with fail)
        refine hK.out _ _ ?_ (fun hHeld2 => ?_)
        · ((try dsimp only); go_keep)
        clear hK K hHeld1
        (try simp only [Act.put, List.setIfInBounds_toArray, List.set_cons_zero, List.set_cons_succ])
        refine wpAnyH_ready (rs := [0, 1]) (by kernel_rfl) (by simp) ?_
        refine AllReadyH.cons (o := ⟨some 32, _, _, _, _, _⟩) rfl (fun K hK => ?_) ?_
        · skip
          go_simp
          refine hK.out _ _ ?_ (fun hHeld3 => ?_)
          · ((try dsimp only); go_keep)
          clear hK K hHeld2
          (try simp only [Act.put, List.setIfInBounds_toArray, List.set_cons_zero, List.set_cons_succ])
          refine wpAnyH_ready (rs := [1]) (by kernel_rfl) (by simp) ?_
          refine AllReadyH.cons (o := ⟨some 33, _, _, _, _, _⟩) rfl (fun K hK => ?_) AllReadyH.nil
          go_simp
          refine hK.out _ _ ?_ (fun hHeld4 => ?_)
          · ((try dsimp only); go_keep)
          clear hK K hHeld3
          (try simp only [Act.put, List.setIfInBounds_toArray, List.set_cons_zero, List.set_cons_succ])
          refine wpAnyH_ready (rs := [5]) (by kernel_rfl) (by simp) ?_
          refine AllReadyH.cons (o := ⟨some 37, _, _, _, _, _⟩) rfl (fun K hK => ?_) AllReadyH.nil
          go_simp
          (first | (go_at_call 88; (with_reducible refine (mul_at (iq.ci kq) (iy.ci ky)).mono ?_); rw [HT.out]; rintro e w7 ⟨A7, n7, c7, rfl, d7, u7, v7, g7⟩; have K8 := (K7.call g7).add (CanAt.mk_ d7 u7 v7); clear p0 p1 p2 p3 p4 p5; obtain ⟨_, ⟨p0, p1⟩, ⟨p2, p3⟩, _, ⟨p4, p5⟩, _⟩ := K8.facts; obtain ⟨i7, _, _, _, _, jx, _⟩ := K8.ints) | (go_at_call 87; (with_reducible refine (sub_at (jx.ci kx) (i7.ci kt)).mono ?_); rw [HZ.out]; rintro e w8 ⟨A8, n8, c8, rfl, d8, u8, v8, g8⟩; have K9 := (K8.call g8).add (CanAt.mk_ d8 u8 v8); clear p0 p1 p2 p3 p4 p5; obtain ⟨_, ⟨p0, p1⟩, ⟨p2, p3⟩, _, ⟨p4, p5⟩, _⟩ := K9.facts; obtain ⟨f0, f1⟩ := K9.free (i := 2) rfl; obtain ⟨f2, f3⟩ := K9.free (i := 4) rfl) | fail)
          (try go_wp2_with fail)
          refine hK.out _ _ ?_ (fun hHeld5 => ?_)
          · ((try dsimp only); go_keep)
          clear hK K hHeld4
          (try simp only [Act.put, List.setIfInBounds_toArray, List.set_cons_zero, List.set_cons_succ])
          refine wpAnyH_ready (rs := [6]) (by kernel_rfl) (by simp) ?_
          refine AllReadyH.cons (o := ⟨none, _, _, _, _, _⟩) rfl (fun K hK => ?_) AllReadyH.nil
          go_simp
          refine hK.out _ _ ?_ (fun hHeld6 => ?_)
          · ((try dsimp only); go_keep)
          clear hK K hHeld5
          (try simp only [Act.put, List.setIfInBounds_toArray, List.set_cons_zero, List.set_cons_succ])
          refine wpAnyH_ready (rs := [7]) (by kernel_rfl) (by simp) ?_
          refine AllReadyH.cons (o := ⟨none, _, _, _, _, _⟩) rfl (fun K hK => ?_) AllReadyH.nil
          go_simp
          refine hK.out _ _ ?_ (fun hHeld7 => ?_)
          · ((try dsimp only); go_keep)
          clear hK K hHeld6
          (try simp only [Act.put, List.setIfInBounds_toArray, List.set_cons_zero, List.set_cons_succ])
          refine wpAnyH_done (by kernel_rfl) ?_ _
          have KA := (K9.put 4 rfl (decide (y < 0)) Ay ny cy).put 2 rfl (decide (z < 0)) A8 n8 c8
          simp only [List.set] at KA
          go_wp2_with fail
          go_roundg p.natAbs
          case rel =>
            have KB := (KA.erase 1).erase 0
            simp only [List.eraseIdx] at KB
            obtain ⟨iz, _, ip, _, iy, ir, _, _, im, ia, _⟩ := KB.ints
            exact ⟨r, p, y, z, Aa, Am, Ar, A6, Ay, A8, na, ca, nm, cm, nr, cr, n6, c6, ny, cy, n8, c8, rfl, HS2.out, KB.ints_ ⟨iz, ip, iy, ir, im, ia, trivial⟩⟩
          case measure => (have := HPR.out; have := HK.out; omega)
        refine AllReadyH.cons (o := ⟨some 33, _, _, _, _, _⟩) rfl (fun K hK => ?_) AllReadyH.nil
        go_simp
        refine hK.out _ _ ?_ (fun hHeld3 => ?_)
        · ((try dsimp only); go_keep)
        clear hK K hHeld2
        (try simp only [Act.put, List.setIfInBounds_toArray, List.set_cons_zero, List.set_cons_succ])
        refine wpAnyH_ready (rs := [0, 5]) (by kernel_rfl) (by simp) ?_
        refine AllReadyH.cons (o := ⟨some 32, _, _, _, _, _⟩) rfl (fun K hK => ?_) ?_
        · skip
          go_simp
          refine hK.out _ _ ?_ (fun hHeld4 => ?_)
          · ((try dsimp only); go_keep)
          clear hK K hHeld3
          (try simp only [Act.put, List.setIfInBounds_toArray, List.set_cons_zero, List.set_cons_succ])
          refine wpAnyH_ready (rs := [5]) (by kernel_rfl) (by simp) ?_
          refine AllReadyH.cons (o := ⟨some 37, _, _, _, _, _⟩) rfl (fun K hK => ?_) AllReadyH.nil
          go_simp
          (first | (go_at_call 88; (with_reducible refine (mul_at (iq.ci kq) (iy.ci ky)).mono ?_); rw [HT.out]; rintro e w7 ⟨A7, n7, c7, rfl, d7, u7, v7, g7⟩; have K8 := (K7.call g7).add (CanAt.mk_ d7 u7 v7); clear p0 p1 p2 p3 p4 p5; obtain ⟨_, ⟨p0, p1⟩, ⟨p2, p3⟩, _, ⟨p4, p5⟩, _⟩ := K8.facts; obtain ⟨i7, _, _, _, _, jx, _⟩ := K8.ints) | (go_at_call 87; (with_reducible refine (sub_at (jx.ci kx) (i7.ci kt)).mono ?_); rw [HZ.out]; rintro e w8 ⟨A8, n8, c8, rfl, d8, u8, v8, g8⟩; have K9 := (K8.call g8).add (CanAt.mk_ d8 u8 v8); clear p0 p1 p2 p3 p4 p5; obtain ⟨_, ⟨p0, p1⟩, ⟨p2, p3⟩, _, ⟨p4, p5⟩, _⟩ := K9.facts; obtain ⟨f0, f1⟩ := K9.free (i := 2) rfl; obtain ⟨f2, f3⟩ := K9.free (i := 4) rfl) | fail)
          (try go_wp2_with fail)
          refine hK.out _ _ ?_ (fun hHeld5 => ?_)
          · ((try dsimp only); go_keep)
          clear hK K hHeld4
          (try simp only [Act.put, List.setIfInBounds_toArray, List.set_cons_zero, List.set_cons_succ])
          refine wpAnyH_ready (rs := [6]) (by kernel_rfl) (by simp) ?_
          refine AllReadyH.cons (o := ⟨none, _, _, _, _, _⟩) rfl (fun K hK => ?_) AllReadyH.nil
          go_simp
          refine hK.out _ _ ?_ (fun hHeld6 => ?_)
          · ((try dsimp only); go_keep)
          clear hK K hHeld5
          (try simp only [Act.put, List.setIfInBounds_toArray, List.set_cons_zero, List.set_cons_succ])
          refine wpAnyH_ready (rs := [7]) (by kernel_rfl) (by simp) ?_
          refine AllReadyH.cons (o := ⟨none, _, _, _, _, _⟩) rfl (fun K hK => ?_) AllReadyH.nil
          go_simp
          refine hK.out _ _ ?_ (fun hHeld7 => ?_)
          · ((try dsimp only); go_keep)
          clear hK K hHeld6
          (try simp only [Act.put, List.setIfInBounds_toArray, List.set_cons_zero, List.set_cons_succ])
          refine wpAnyH_done (by kernel_rfl) ?_ _
          have KA := (K9.put 4 rfl (decide (y < 0)) Ay ny cy).put 2 rfl (decide (z < 0)) A8 n8 c8
          simp only [List.set] at KA
          go_wp2_with fail
          go_roundg p.natAbs
          case rel =>
            have KB := (KA.erase 1).erase 0
            simp only [List.eraseIdx] at KB
            obtain ⟨iz, _, ip, _, iy, ir, _, _, im, ia, _⟩ := KB.ints
            exact ⟨r, p, y, z, Aa, Am, Ar, A6, Ay, A8, na, ca, nm, cm, nr, cr, n6, c6, ny, cy, n8, c8, rfl, HS2.out, KB.ints_ ⟨iz, ip, iy, ir, im, ia, trivial⟩⟩
          case measure => (have := HPR.out; have := HK.out; omega)
        refine AllReadyH.cons (o := ⟨some 37, _, _, _, _, _⟩) rfl (fun K hK => ?_) AllReadyH.nil
        go_simp
        (first | (go_at_call 88; (with_reducible refine (mul_at (iq.ci kq) (iy.ci ky)).mono ?_); rw [HT.out]; rintro e w7 ⟨A7, n7, c7, rfl, d7, u7, v7, g7⟩; have K8 := (K7.call g7).add (CanAt.mk_ d7 u7 v7); clear p0 p1 p2 p3 p4 p5; obtain ⟨_, ⟨p0, p1⟩, ⟨p2, p3⟩, _, ⟨p4, p5⟩, _⟩ := K8.facts; obtain ⟨i7, _, _, _, _, jx, _⟩ := K8.ints) | (go_at_call 87; (with_reducible refine (sub_at (jx.ci kx) (i7.ci kt)).mono ?_); rw [HZ.out]; rintro e w8 ⟨A8, n8, c8, rfl, d8, u8, v8, g8⟩; have K9 := (K8.call g8).add (CanAt.mk_ d8 u8 v8); clear p0 p1 p2 p3 p4 p5; obtain ⟨_, ⟨p0, p1⟩, ⟨p2, p3⟩, _, ⟨p4, p5⟩, _⟩ := K9.facts; obtain ⟨f0, f1⟩ := K9.free (i := 2) rfl; obtain ⟨f2, f3⟩ := K9.free (i := 4) rfl) | fail)
        (try go_wp2_with fail)
        refine hK.out _ _ ?_ (fun hHeld4 => ?_)
        · ((try dsimp only); go_keep)
        clear hK K hHeld3
        (try simp only [Act.put, List.setIfInBounds_toArray, List.set_cons_zero, List.set_cons_succ])
        refine wpAnyH_ready (rs := [0]) (by kernel_rfl) (by simp) ?_
        refine AllReadyH.cons (o := ⟨some 32, _, _, _, _, _⟩) rfl (fun K hK => ?_) AllReadyH.nil
        go_simp
        refine hK.out _ _ ?_ (fun hHeld5 => ?_)
        · ((try dsimp only); go_keep)
        clear hK K hHeld4
        (try simp only [Act.put, List.setIfInBounds_toArray, List.set_cons_zero, List.set_cons_succ])
        refine wpAnyH_ready (rs := [6]) (by kernel_rfl) (by simp) ?_
        refine AllReadyH.cons (o := ⟨none, _, _, _, _, _⟩) rfl (fun K hK => ?_) AllReadyH.nil
        go_simp
        refine hK.out _ _ ?_ (fun hHeld6 => ?_)
        · ((try dsimp only); go_keep)
        clear hK K hHeld5
        (try simp only [Act.put, List.setIfInBounds_toArray, List.set_cons_zero, List.set_cons_succ])
        refine wpAnyH_ready (rs := [7]) (by kernel_rfl) (by simp) ?_
        refine AllReadyH.cons (o := ⟨none, _, _, _, _, _⟩) rfl (fun K hK => ?_) AllReadyH.nil
        go_simp
        refine hK.out _ _ ?_ (fun hHeld7 => ?_)
        · ((try dsimp only); go_keep)
        clear hK K hHeld6
        (try simp only [Act.put, List.setIfInBounds_toArray, List.set_cons_zero, List.set_cons_succ])
        refine wpAnyH_done (by kernel_rfl) ?_ _
        have KA := (K9.put 4 rfl (decide (y < 0)) Ay ny cy).put 2 rfl (decide (z < 0)) A8 n8 c8
        simp only [List.set] at KA
        go_wp2_with fail
        go_roundg p.natAbs
        case rel =>
          have KB := (KA.erase 1).erase 0
          simp only [List.eraseIdx] at KB
          obtain ⟨iz, _, ip, _, iy, ir, _, _, im, ia, _⟩ := KB.ints
          exact ⟨r, p, y, z, Aa, Am, Ar, A6, Ay, A8, na, ca, nm, cm, nr, cr, n6, c6, ny, cy, n8, c8, rfl, HS2.out, KB.ints_ ⟨iz, ip, iy, ir, im, ia, trivial⟩⟩
        case measure => (have := HPR.out; have := HK.out; omega)

theorem canonical_at {w : World} {s : Bool} {A : Option Addr} {n c : Nat} {x : Int} (h : IntAt w s A n c x) : Calls Try.prog 82 #[.agg #[.bool s, .slice A n c]] w (RetZ w x) := by
  obtain ⟨ds, h1, h2, h3, rfl, h5⟩ := h
  exact canonical_any s A n c ds w h1 h2 h3

/-- What ExtendedGCD returns. -/
def EgP (a b g x y : Int) : Prop := g = (Int.gcd a b : Nat) ∧ (b = 0 → x = sgn a ∧ y = 0) ∧ (b ≠ 0 → 0 ≤ x ∧ x < ((b.natAbs : Nat) : Int) / g ∧ a * x + b * y = g)

theorem Sz.zero (k : Nat) : Sz 0 k := Nat.pow_pos BB_pos
theorem sgn_cases (a : Int) : sgn a = -1 ∨ sgn a = 0 ∨ sgn a = 1 := by
  rcases Int.lt_trichotomy a 0 with h | h | h
  · left; rw [sgn, cmpI_lt h]
  · right; left; rw [sgn, cmpI_eq h]
  · right; right; rw [sgn, cmpI_gt h]

theorem gcd_abs (a b : Int) : Int.gcd a ((b.natAbs : Nat) : Int) = Int.gcd a b := by simp [Int.gcd]

theorem dm_exact {x b : Int} (hb : b ≠ 0) (h : b ∣ x) : dmQ x b * b = x ∧ dmR x b = 0 := by
  have h1 := euclid_sum x hb
  have h2 := (euclid_rest x hb).2
  have h3 : b ∣ dmR x b := by
    have : dmR x b = x - dmQ x b * b := by omega
    rw [this]
    exact Int.dvd_sub h (Int.dvd_mul_left _ _)
  have h4 : dmR x b = 0 := by
    by_cases h0 : dmR x b = 0
    · exact h0
    · have := Int.natAbs_dvd_natAbs.2 h3
      have := Nat.le_of_dvd (by omega) this
      omega
  exact ⟨by omega, h4⟩

/-- The last steps of ExtendedGCD. -/
theorem eg_end {a b g x0 p x y : Int} (hb : b ≠ 0) (hg : g = (Int.gcd a ((b.natAbs : Nat) : Int) : Nat)) (hk : ∃ k, a * x0 = g + k * ((b.natAbs : Nat) : Int))
    (hp : dmQ ((b.natAbs : Nat) : Int) g = p) (hx : dmR x0 p = x) (hy : dmQ (g - a * x) b = y) :
    EgP a b g x y ∧ 0 < g ∧ 0 < p ∧ g.natAbs ≤ b.natAbs ∧ p.natAbs ≤ b.natAbs ∧ x.natAbs ≤ b.natAbs := by
  have hm : 0 < ((b.natAbs : Nat) : Int) := by omega
  generalize hM : ((b.natAbs : Nat) : Int) = m at *
  have hg0 : 0 < g := by rw [hg]; have := Int.gcd_pos_of_ne_zero_right a (b := m) (by omega); omega
  have hpq : m / g = p := by rw [← hp]; unfold dmQ; rw [if_neg (by omega), if_pos hg0]
  rw [hg] at hpq hk
  obtain ⟨s1, s2, k, s3⟩ := eg_small hm hk
  rw [hpq] at s1 s2 s3
  have hxe : x0 % p = x := by rw [← hx]; unfold dmR; rw [if_neg (by omega), if_pos s1]
  rw [hxe] at s3
  have h1 := Int.emod_nonneg x0 (show p ≠ 0 by omega)
  have h2 := Int.emod_lt_of_pos x0 s1
  rw [hxe] at h1 h2
  rw [← hg] at hpq s3
  have hdv : b ∣ g - a * x := by
    have : b ∣ m := by rw [← hM]; exact Int.dvd_natAbs.2 (Int.dvd_refl b)
    have h4 : g - a * x = -(k * m) := by omega
    rw [h4]
    exact Int.dvd_neg.2 (Int.dvd_trans this (Int.dvd_mul_left _ _))
  have h5 := (dm_exact hb hdv).1
  rw [hy] at h5
  have hgle : g ≤ m := by
    obtain ⟨g', u, p', e1, e2, e3, e4, e5, e6, e7⟩ := eg_parts (a := a) hm
    rw [hg, ← e1, e4]
    have : g' * 1 ≤ g' * p' := Int.mul_le_mul_of_nonneg_left (by omega) (by omega)
    omega
  refine ⟨⟨?_, fun h => absurd h hb, fun _ => ⟨h1, by rw [hM, hpq]; exact h2, by rw [Int.mul_comm b]; omega⟩⟩, hg0, s1, by omega, by omega, by omega⟩
  rw [hg, ← hM, gcd_abs]

/-- Three canonical integers are handed back. -/
def RetE (w : World) (a b : Int) (e : Ending) (w' : World) : Prop :=
  ∃ (g x y : Int) (A1 : Option Addr) (n1 c1 : Nat) (A2 : Option Addr) (n2 c2 : Nat) (A3 : Option Addr) (n3 c3 : Nat), EgP a b g x y ∧ Sz g 500 ∧ Sz x 500 ∧ Sz y 500 ∧
    e = .returned (.tuple #[.agg #[.bool (decide (g < 0)), .slice A1 n1 c1], .agg #[.bool (decide (x < 0)), .slice A2 n2 c2], .agg #[.bool (decide (y < 0)), .slice A3 n3 c3]]) ∧
    CanAt w' (decide (g < 0)) A1 n1 c1 g ∧ CanAt w' (decide (x < 0)) A2 n2 c2 x ∧ CanAt w' (decide (y < 0)) A3 n3 c3 y ∧ Below w.heap.size w w'

/-- Behind the first statement. -/
def EgC (w wx : World) (a b : Int) : Prop :=
  ∃ (A1 : Option Addr) (n1 c1 : Nat) (A2 : Option Addr) (n2 c2 : Nat),
    St w wx [vi (w.heap.size + 1 + 1 + 1 + 1) false none 0 0, vi (w.heap.size + 1 + 1 + 1) false none 0 0, vi (w.heap.size + 1 + 1) false none 0 0, vi (w.heap.size + 1) (decide (b < 0)) A2 n2 c2, vi w.heap.size (decide (a < 0)) A1 n1 c1]
      [(decide (b < 0), A2, n2, c2, b, true), (decide (a < 0), A1, n1, c1, a, true)]

set_option maxHeartbeats 8000000 in
set_option maxRecDepth 100000 in
theorem egcd_at {w : World} {s s' : Bool} {A A' : Option Addr} {n c n' c' : Nat} {a b : Int} (h : IntAt w s A n c a) (h' : IntAt w s' A' n' c' b) (za : Sz a 100) (zb : Sz b 100) :
    Calls Try.prog 16 #[.agg #[.bool s, .slice A n c], .agg #[.bool s', .slice A' n' c']] w (RetE w a b) := by
  have H0 := ((((((((St.start w).addI h).addI h').new 24 (Plains.two s A n c))).new 24 (Plains.two s' A' n' c')).new 24 (Plains.two false none 0 0)).new 24 (Plains.two false none 0 0)).new 24 (Plains.two false none 0 0)
  simp only [World.size_alloc] at H0
  have HH := Lib.hid H0
  have ka := za.ok
  have kb := zb.ok
  clear H0 h h'
  go_enter Try.func16, Try.ntmps16
  go_upto_region 1 with fail
  have K := HH.out
  clear HH
  generalize ((((w.alloc (.cells #[.bool s, .slice A n c] 24)).alloc (.cells #[.bool s', .slice A' n' c'] 24)).alloc (.cells #[.bool false, .slice none 0 0] 24)).alloc (.cells #[.bool false, .slice none 0 0] 24)).alloc (.cells #[.bool false, .slice none 0 0] 24) = W0 at K ⊢
  go_cut [] (fun wx => EgC w wx a b)
  case first =>
    have Kd := K.drew
    clear K
    obtain ⟨_, _, _, ⟨p0, p1⟩, ⟨p2, p3⟩, _⟩ := Kd.facts
    obtain ⟨ib, ia, _⟩ := Kd.ints
    go_region_with (first
      | (go_at_call_of 82 (Value.agg #[Value.bool s, Value.slice A n c]); (with_reducible refine (canonical_at ia.i).mono ?_); rintro e w1 ⟨A1, n1, c1, rfl, d1, u1, v1, g1⟩; have K1 := (Kd.call g1).add (CanAt.mk_ d1 u1 v1); clear p0 p1 p2 p3; obtain ⟨_, _, _, ⟨p0, p1⟩, ⟨p2, p3⟩, _⟩ := K1.facts; obtain ⟨_, jb, _⟩ := K1.ints)
      | (go_at_call_of 82 (Value.agg #[Value.bool s', Value.slice A' n' c']); (with_reducible refine (canonical_at jb.i).mono ?_); rintro e w2 ⟨A2, n2, c2, rfl, d2, u2, v2, g2⟩; have K2 := (K1.call g2).add (CanAt.mk_ d2 u2 v2); clear p0 p1 p2 p3; obtain ⟨_, _, _, ⟨p0, p1⟩, ⟨p2, p3⟩, _⟩ := K2.facts; obtain ⟨f0, f1⟩ := K2.free (i := 3) rfl; obtain ⟨f2, f3⟩ := K2.free (i := 4) rfl)
      | fail)
    all_goals (go_wp2_with fail; go_meet; have K3 := (K2.put 4 rfl (decide (a < 0)) A1 n1 c1).put 3 rfl (decide (b < 0)) A2 n2 c2; obtain ⟨i2, i1, _⟩ := K3.ints; exact ⟨A1, n1, c1, A2, n2, c2, K3.ints_ ⟨i2, i1, trivial⟩⟩)
  case rest =>
    clear K W0
    obtain ⟨A1, n1, c1, A2, n2, c2, K⟩ := hcut
    by_cases hb : b = 0
    · obtain ⟨ib, ia, _⟩ := K.ints
      obtain rfl := digs_len0 ib.c hb
      obtain ⟨sg, HG⟩ : ∃ v, Hid (sgn a = v) := ⟨_, rfl⟩
      obtain ⟨ab, HA⟩ : ∃ v, Hid (((a.natAbs : Nat) : Int) = v) := ⟨_, rfl⟩
      have hs1 : -9223372036854775808 ≤ sg := by rw [← HG.out]; rcases sgn_cases a with h | h | h <;> omega
      have hs2 : sg ≤ 9223372036854775807 := by rw [← HG.out]; rcases sgn_cases a with h | h | h <;> omega
      have HE : Hid (EgP a b ab sg 0 ∧ Sz ab 500 ∧ Sz sg 500 ∧ Sz 0 500) := by
        refine ⟨⟨?_, fun _ => ⟨HG.out.symm, rfl⟩, fun h => absurd hb h⟩, ?_, ?_, ?_⟩
        · rw [← HA.out, hb]; simp [Int.gcd]
        · rw [← HA.out]; exact Sz.mono (k := 100) (za.le (by rw [Int.natAbs_natCast]; exact Nat.le_refl _)) (by decide)
        · have : sg.natAbs < BB ^ 1 := by rw [← HG.out, Nat.pow_one, BB_eq]; rcases sgn_cases a with h | h | h <;> omega
          exact Sz.mono this (by decide)
        · exact Sz.zero _
      clear hb ib
      obtain ⟨_, _, _, ⟨p0, p1⟩, ⟨p2, p3⟩, _⟩ := K.facts
      go_upto_region 3 with fail
      have Kd := K.drew
      clear K ia
      obtain ⟨ib, ia, _⟩ := Kd.ints
      obtain ⟨z1, z2⟩ := Kd.ne 0 4 rfl rfl (by decide)
      obtain ⟨z3, z4⟩ := Kd.ne 1 4 rfl rfl (by decide)
      obtain ⟨z5, z6⟩ := Kd.ne 2 4 rfl rfl (by decide)
      go_region_held3 (fun w' => w'.cell? ⟨w.heap.size, 0, none⟩ = some (.bool (decide (a < 0))) ∧ w'.cell? ⟨w.heap.size, 1, none⟩ = some (.slice A1 n1 c1))
        (go_keep)
        (first
          | (go_at_call 83; (with_reducible refine (abs_at (ia.ci ka)).mono ?_); rw [HA.out]; rintro e w1 ⟨A3, n3, c3, rfl, d3, u3, v3, g3⟩; have K3 := (Kd.call g3).add (CanAt.mk_ d3 u3 v3); clear p0 p1 p2 p3; obtain ⟨_, _, _, ⟨p0, p1⟩, ⟨p2, p3⟩, _⟩ := K3.facts; obtain ⟨_, _, ja, _⟩ := K3.ints)
          | (go_at_call 84; (with_reducible refine (sign_at (ja.ci ka)).mono ?_); rw [HG.out]; rintro e w2 ⟨rfl, g4⟩; have K4 := K3.call g4; clear p0 p1 p2 p3; obtain ⟨_, _, _, ⟨p0, p1⟩, ⟨p2, p3⟩, _⟩ := K4.facts)
          | (go_at_call 81; (with_reducible refine (fromInt64_at sg hs1 hs2 _).mono ?_); rintro e w5 ⟨A5, n5, c5, rfl, d5, u5, v5, g5⟩; have K5 := (K4.call g5).add (CanAt.mk_ d5 u5 v5); clear p0 p1 p2 p3; obtain ⟨⟨q4, q5⟩, ⟨q2, q3⟩, ⟨q0, q1⟩, ⟨p0, p1⟩, ⟨p2, p3⟩, _⟩ := K5.facts; obtain ⟨f0, f1⟩ := K5.free (i := 0) rfl; obtain ⟨f2, f3⟩ := K5.free (i := 1) rfl; obtain ⟨f4, f5⟩ := K5.free (i := 2) rfl)
          | fail)
      have K6 := ((K5.put 2 rfl (decide (ab < 0)) A3 n3 c3).put 1 rfl (decide (sg < 0)) A5 n5 c5).put 0 rfl false none 0 0
      simp only [List.set] at K6
      go_wp2_with fail
      generalize ((((((w5.setCell ⟨w.heap.size + 1 + 1, 0, none⟩ (.bool (decide (ab < 0)))).setCell ⟨w.heap.size + 1 + 1, 1, none⟩ (.slice A3 n3 c3)).setCell ⟨w.heap.size + 1 + 1 + 1, 0, none⟩ (.bool (decide (sg < 0)))).setCell ⟨w.heap.size + 1 + 1 + 1, 1, none⟩ (.slice A5 n5 c5)).setCell ⟨w.heap.size + 1 + 1 + 1 + 1, 0, none⟩ (.bool false)).setCell ⟨w.heap.size + 1 + 1 + 1 + 1, 1, none⟩ (.slice none 0 0)) = W6 at K6 ⊢
      obtain ⟨⟨r4, r5⟩, ⟨r2, r3⟩, ⟨r0, r1⟩, _⟩ := K6.facts
      obtain ⟨i5, i3, _⟩ := K6.ints
      refine bodyPost_ret (v := .tuple #[.agg #[.bool (decide (ab < 0)), .slice A3 n3 c3], .agg #[.bool (decide (sg < 0)), .slice A5 n5 c5], .agg #[.bool false, .slice none 0 0]]) (by simp [results, Try.results16, go_sem, r0, r1, r2, r3, r4, r5]) rfl ?_
      exact ⟨ab, sg, 0, A3, n3, c3, A5, n5, c5, none, 0, 0, HE.out.1, HE.out.2.1, HE.out.2.2.1, HE.out.2.2.2, rfl, i3.c, i5.c, CanAt.zero_ _, K6.below⟩
    · have HB := Lib.hid hb
      obtain ⟨m, HM⟩ : ∃ v, Hid (((b.natAbs : Nat) : Int) = v) := ⟨_, rfl⟩
      have hm0 : 0 < m := by rw [← HM.out]; omega
      have zm0 : Sz m 100 := by rw [← HM.out]; exact zb.le (by rw [Int.natAbs_natCast]; exact Nat.le_refl _)
      have zm : Sz m 200 := zm0.mono (by decide)
      have za2 : Sz a 200 := za.mono (by decide)
      have km := zm.ok
      obtain ⟨ib, ia, _⟩ := K.ints
      have hn2 : 0 < n2 := digs_lenp ib.c hb
      have hn2z : ((n2 : Int) == 0) = false := by simp; omega
      clear hb ia
      obtain ⟨_, _, _, ⟨p0, p1⟩, ⟨p2, p3⟩, _⟩ := K.facts
      go_upto_region 5 with (first
        | (go_at_call 83; (with_reducible refine (abs_at (ib.ci kb)).mono ?_); rw [HM.out]; rintro e w1 ⟨A3, n3, c3, rfl, d3, u3, v3, g3⟩; have K3 := ((K.call g3).add (CanAt.mk_ d3 u3 v3)).new 24 (Plains.two (decide (m < 0)) A3 n3 c3))
        | fail)
      clear ib p0 p1 p2 p3 d3 g3 K
      generalize w1.alloc (.cells #[.bool (decide (m < 0)), .slice A3 n3 c3] 24) = W1 at K3 ⊢
      generalize w1.heap.size = h7 at K3 ⊢
      obtain ⟨z1, z2⟩ := K3.ne 0 2 rfl rfl (by decide)
      obtain ⟨z3, z4⟩ := K3.ne 0 3 rfl rfl (by decide)
      obtain ⟨z5, z6⟩ := K3.ne 0 5 rfl rfl (by decide)
      obtain ⟨z7, z8⟩ := K3.ne 0 1 rfl rfl (by decide)
      obtain ⟨⟨p6, p7⟩, _, ⟨p4, p5⟩, ⟨p8, p9⟩, ⟨p0, p1⟩, ⟨p2, p3⟩, _⟩ := K3.facts
      obtain ⟨im, _, ia, _⟩ := K3.ints
      go_upto_region 6 with (first
        | (go_at_call 85; (with_reducible refine (solve_at ia.c im.c za2 zm hm0).mono ?_); rintro e w4 ⟨g, x0, hg, hk, hx, A4, n4, c4, A5, n5, c5, rfl, d4, d5, g4⟩; have K5 := ((K3.call g4).add d4).add d5; clear p0 p1 p2 p3 p4 p5 p6 p7 p8 p9; have HG := Lib.hid hg; have HKK := Lib.hid hk; have HX := Lib.hid hx; clear hg hk hx; obtain ⟨_, _, ⟨p4, p5⟩, ⟨p6, p7⟩, _⟩ := K5.facts; obtain ⟨f0, f1⟩ := K5.free (i := 2) rfl; obtain ⟨f2, f3⟩ := K5.free (i := 3) rfl)
        | fail)
      have K6 := (K5.put 3 rfl (decide (g < 0)) A4 n4 c4).put 2 rfl (decide (x0 < 0)) A5 n5 c5
      simp only [List.set] at K6
      clear im ia p4 p5 p6 p7 f0 f1 f2 f3 d4 d5 g4 K5 K3
      generalize ((((w4.setCell ⟨w.heap.size + 1 + 1, 0, none⟩ (.bool (decide (g < 0)))).setCell ⟨w.heap.size + 1 + 1, 1, none⟩ (.slice A4 n4 c4)).setCell ⟨w.heap.size + 1 + 1 + 1, 0, none⟩ (.bool (decide (x0 < 0)))).setCell ⟨w.heap.size + 1 + 1 + 1, 1, none⟩ (.slice A5 n5 c5)) = W6 at K6 ⊢
      rw [← HM.out] at HKK HX
      have HG' : Hid (g = (Int.gcd a ((b.natAbs : Nat) : Int) : Nat)) := by unfold Hid; rw [HM.out]; exact HG.out
      obtain ⟨p, HP⟩ : ∃ v, Hid (dmQ m g = v) := ⟨_, rfl⟩
      obtain ⟨p', HP'⟩ : ∃ v, Hid (dmR m g = v) := ⟨_, rfl⟩
      obtain ⟨x, HXX⟩ : ∃ v, Hid (dmR x0 p = v) := ⟨_, rfl⟩
      obtain ⟨t, HT⟩ : ∃ v, Hid (a * x = v) := ⟨_, rfl⟩
      obtain ⟨z, HZ⟩ : ∃ v, Hid (g - t = v) := ⟨_, rfl⟩
      obtain ⟨y, HY⟩ : ∃ v, Hid (dmQ z b = v) := ⟨_, rfl⟩
      have HE := Lib.hid (eg_end (x := x) (y := y) HB.out HG'.out HKK.out (p := p) (by rw [HM.out]; exact HP.out) HXX.out (by rw [HT.out, HZ.out]; exact HY.out))
      have zg : Sz g 100 := zb.le HE.out.2.2.2.1
      have zp : Sz p 100 := zb.le HE.out.2.2.2.2.1
      have zx : Sz x 100 := zb.le HE.out.2.2.2.2.2
      have zx0 : Sz x0 100 := zb.le (by have := HX.out; rwa [Int.natAbs_natCast] at this)
      have zt : Sz t 200 := by rw [← HT.out]; exact za.mul zx
      have zz : Sz z 201 := by rw [← HZ.out]; exact (zg.mono (by decide)).sub zt
      have zy : Sz y 202 := by rw [← HY.out]; exact dmQ_sz zz
      have kg := zg.ok
      have kp := zp.ok
      have kx := zx.ok
      have kx0 := zx0.ok
      have kt := zt.ok
      have kz := zz.ok
      obtain ⟨⟨p0, p1⟩, _, _, ⟨p2, p3⟩, _⟩ := K6.facts
      obtain ⟨_, ig, im, _⟩ := K6.ints
      go_upto_region 7 with (first
        | (go_at_call 86; (with_reducible refine (divide_at (im.ci km) (ig.ci kg)).mono ?_); rw [HP.out, HP'.out]; rintro e w7 ⟨A7, n7, c7, A8, n8, c8, rfl, d7, d8, g7⟩; have K7 := ((K6.call g7).add d7).new 24 (Plains.two (decide (p < 0)) A7 n7 c7) |>.new 24 (Plains.two (decide (p' < 0)) A8 n8 c8))
        | fail)
      simp only [World.size_alloc] at K7
      clear ig im p0 p1 p2 p3 d7 d8 g7 K6
      generalize (w7.alloc (.cells #[.bool (decide (p < 0)), .slice A7 n7 c7] 24)).alloc (.cells #[.bool (decide (p' < 0)), .slice A8 n8 c8] 24) = W7 at K7 ⊢
      have K8 := K7.erase 0
      simp only [List.eraseIdx] at K8
      clear K7
      generalize w7.heap.size = h8 at K8 ⊢
      obtain ⟨⟨p0, p1⟩, _, _, ⟨p2, p3⟩, _⟩ := K8.facts
      obtain ⟨ip, ix0, _⟩ := K8.ints
      obtain ⟨q, HQ⟩ : ∃ v, Hid (dmQ x0 p = v) := ⟨_, rfl⟩
      go_upto_region 8 with (first
        | (go_at_call 86; (with_reducible refine (divide_at (ix0.ci kx0) (ip.ci kp)).mono ?_); rw [HQ.out, HXX.out]; rintro e w8 ⟨A9, n9, c9, B1, m1, e1, rfl, d9, d10, g8⟩; have K9 := (K8.call g8).add d10; clear p0 p1 p2 p3; obtain ⟨_, _, _, ⟨p2, p3⟩, _⟩ := K9.facts; obtain ⟨f0, f1⟩ := K9.free (i := 3) rfl)
        | fail)
      have KA := K9.put 3 rfl (decide (x < 0)) B1 m1 e1
      simp only [List.set] at KA
      clear p2 p3 f0 f1 K8 K9 ip ix0
      generalize ((w8.setCell ⟨w.heap.size + 1 + 1 + 1, 0, none⟩ (.bool (decide (x < 0)))).setCell ⟨w.heap.size + 1 + 1 + 1, 1, none⟩ (.slice B1 m1 e1)) = WA at KA ⊢
      have Kd := KA.drew
      clear KA
      obtain ⟨y1, y2⟩ := Kd.ne 2 3 rfl rfl (by decide)
      obtain ⟨y3, y4⟩ := Kd.ne 2 4 rfl rfl (by decide)
      obtain ⟨y5, y6⟩ := Kd.ne 2 5 rfl rfl (by decide)
      obtain ⟨y7, y8⟩ := Kd.ne 2 6 rfl rfl (by decide)
      obtain ⟨_, _, _, ⟨p0, p1⟩, ⟨p2, p3⟩, ⟨p4, p5⟩, ⟨p6, p7⟩, _⟩ := Kd.facts
      obtain ⟨ix, _, _, ig, _, ib, ia, _⟩ := Kd.ints
      have en1 : ¬ w.heap.size + 1 = w.heap.size := by omega
      have en2 : ¬ w.heap.size + 1 + 1 = w.heap.size := by omega
      have en3 : ¬ w.heap.size + 1 + 1 + 1 = w.heap.size := by omega
      obtain ⟨y', HY'⟩ : ∃ v, Hid (dmR z b = v) := ⟨_, rfl⟩
      go_region_held3 (fun w' => w'.cell? ⟨w.heap.size + 1 + 1 + 1, 0, none⟩ = some (.bool (decide (x < 0))) ∧ w'.cell? ⟨w.heap.size + 1 + 1 + 1, 1, none⟩ = some (.slice B1 m1 e1) ∧ w'.cell? ⟨w.heap.size + 1 + 1, 0, none⟩ = some (.bool (decide (g < 0))) ∧ w'.cell? ⟨w.heap.size + 1 + 1, 1, none⟩ = some (.slice A4 n4 c4) ∧ w'.cell? ⟨w.heap.size + 1, 0, none⟩ = some (.bool (decide (b < 0))) ∧ w'.cell? ⟨w.heap.size + 1, 1, none⟩ = some (.slice A2 n2 c2) ∧ w'.cell? ⟨w.heap.size, 0, none⟩ = some (.bool (decide (a < 0))) ∧ w'.cell? ⟨w.heap.size, 1, none⟩ = some (.slice A1 n1 c1))
        (go_keep)
        (first
          | (go_at_call 88; (with_reducible refine (mul_at (ia.ci ka) (ix.ci kx)).mono ?_); rw [HT.out]; rintro e wa ⟨C1, l1, k1, rfl, d1, u1, v1, g1⟩; have L1 := (Kd.call g1).add (CanAt.mk_ d1 u1 v1); clear p0 p1 p2 p3 p4 p5 p6 p7; obtain ⟨_, _, _, ⟨p0, p1⟩, ⟨p2, p3⟩, ⟨p4, p5⟩, ⟨p6, p7⟩, _⟩ := L1.facts; obtain ⟨it, _, _, _, jg, _, jb, ja, _⟩ := L1.ints)
          | (go_at_call 87; (with_reducible refine (sub_at (jg.ci kg) (it.ci kt)).mono ?_); rw [HZ.out]; rintro e wb ⟨C2, l2, k2, rfl, d2, u2, v2, g2⟩; have L2 := (L1.call g2).add (CanAt.mk_ d2 u2 v2); clear p0 p1 p2 p3 p4 p5 p6 p7; obtain ⟨_, _, _, ⟨p0, p1⟩, ⟨p2, p3⟩, ⟨p4, p5⟩, ⟨p6, p7⟩, _⟩ := L2.facts; obtain ⟨iz, _, _, _, _, lg, _, lb, la, _⟩ := L2.ints)
          | (go_at_call 86; (with_reducible refine (divide_at (iz.ci kz) (lb.ci kb)).mono ?_); rw [HY.out, HY'.out]; rintro e wd ⟨C3, l3, k3, C4, l4, k4, rfl, d3, d4, g3⟩; have L3 := (L2.call g3).add d3; clear p0 p1 p2 p3 p4 p5 p6 p7; obtain ⟨_, _, ⟨p8, p9⟩, ⟨p0, p1⟩, ⟨p2, p3⟩, ⟨p4, p5⟩, ⟨p6, p7⟩, _⟩ := L3.facts; obtain ⟨f0, f1⟩ := L3.free (i := 2) rfl)
          | fail)
      have KE := L3.put 2 rfl (decide (y < 0)) C3 l3 k3
      simp only [List.set] at KE
      go_wp2_with fail
      generalize ((wd.setCell ⟨w.heap.size + 1 + 1 + 1 + 1, 0, none⟩ (.bool (decide (y < 0)))).setCell ⟨w.heap.size + 1 + 1 + 1 + 1, 1, none⟩ (.slice C3 l3 k3)) = WE at KE ⊢
      clear p0 p1 p2 p3 p4 p5 p6 p7 p8 p9 f0 f1
      obtain ⟨_, _, ⟨p0, p1⟩, ⟨p2, p3⟩, ⟨p4, p5⟩, _⟩ := KE.facts
      obtain ⟨f0, f1⟩ := KE.free (i := 2) rfl
      obtain ⟨f2, f3⟩ := KE.free (i := 3) rfl
      obtain ⟨f4, f5⟩ := KE.free (i := 4) rfl
      have KF := (((KE.put 4 rfl (decide (g < 0)) A4 n4 c4).put 3 rfl (decide (x < 0)) B1 m1 e1).put 2 rfl (decide (y < 0)) C3 l3 k3).drew
      simp only [List.set] at KF
      go_region
      all_goals
        go_wp2_with fail
      all_goals
        generalize (((((((WE.setCell ⟨w.heap.size + 1 + 1, 0, none⟩ (.bool (decide (g < 0)))).setCell ⟨w.heap.size + 1 + 1, 1, none⟩ (.slice A4 n4 c4)).setCell ⟨w.heap.size + 1 + 1 + 1, 0, none⟩ (.bool (decide (x < 0)))).setCell ⟨w.heap.size + 1 + 1 + 1, 1, none⟩ (.slice B1 m1 e1)).setCell ⟨w.heap.size + 1 + 1 + 1 + 1, 0, none⟩ (.bool (decide (y < 0)))).setCell ⟨w.heap.size + 1 + 1 + 1 + 1, 1, none⟩ (.slice C3 l3 k3))).drew = WF at KF ⊢
        obtain ⟨_, _, ⟨r4, r5⟩, ⟨r2, r3⟩, ⟨r0, r1⟩, _⟩ := KF.facts
        obtain ⟨iy, _, _, jx, _, _, jg, _⟩ := KF.ints
        refine bodyPost_ret (v := .tuple #[.agg #[.bool (decide (g < 0)), .slice A4 n4 c4], .agg #[.bool (decide (x < 0)), .slice B1 m1 e1], .agg #[.bool (decide (y < 0)), .slice C3 l3 k3]]) (by simp [results, Try.results16, go_sem, r0, r1, r2, r3, r4, r5]) rfl ?_
        exact ⟨g, x, y, A4, n4, c4, B1, m1, e1, C3, l3, k3, HE.out.1, zg.mono (by decide), zx.mono (by decide), zy.mono (by decide), rfl, jg.c, jx.c, iy.c, KF.below⟩
end Go.Proofs.Ytplmfdgdbolcaaa
