/-
  The program's divide, with a contract over integers in variables.
-/
import Derived.Test.YtehoafpnmfkniaaEucM
import Derived.Test.YtehoafpnmfkniaaSt
import Derived.RegionTactic
import Derived.BigRegion
set_option linter.unusedVariables false
set_option linter.unusedSimpArgs false
namespace Go.Proofs.Ytehoafpnmfkniaa
open Go.RowKit

/-- Two canonical integers are handed back; what was there is as it was. -/
def RetP (w : World) (q r : Int) (e : Ending) (w' : World) : Prop :=
  ∃ A n c A' n' c', e = .returned (.tuple #[.agg #[.bool (decide (q < 0)), .slice A n c], .agg #[.bool (decide (r < 0)), .slice A' n' c']]) ∧
    CanAt w' (decide (q < 0)) A n c q ∧ CanAt w' (decide (r < 0)) A' n' c' r ∧ Below w.heap.size w w'
theorem RetP.mk_ {w0 w : World} {l : List (Nat × TypeId × List Value)} {k : List (Bool × Option Addr × Nat × Nat × Int × Bool)} {A A' : Option Addr} {n c n' c' : Nat} {q r : Int}
    (h : St w0 w l ((decide (r < 0), A', n', c', r, true) :: (decide (q < 0), A, n, c, q, true) :: k)) :
    RetP w0 q r (.returned (.tuple #[.agg #[.bool (decide (q < 0)), .slice A n c], .agg #[.bool (decide (r < 0)), .slice A' n' c']])) w :=
  ⟨A, n, c, A', n', c', rfl, h.ints.2.1.c, h.ints.1.c, h.below⟩

set_option maxHeartbeats 2000000 in
set_option maxRecDepth 100000 in
theorem divide_at {w : World} {s s' : Bool} {A A' : Option Addr} {n c n' c' : Nat} {x y : Int} (h : IntAt w s A n c x) (h' : IntAt w s' A' n' c' y) :
    Calls Try.prog 92 #[.agg #[.bool s, .slice A n c], .agg #[.bool s', .slice A' n' c']] w (RetP w (dmQ x y) (dmR x y)) := by
  have H0 := (((((((St.start w).addI h).addI h').new 24 (Plains.two s A n c))).new 24 (Plains.two s' A' n' c')).new 24 (Plains.two false none 0 0)).new 24 (Plains.two false none 0 0)
  simp only [World.size_alloc] at H0
  have HH := Lib.hid H0
  clear H0
  obtain ⟨q, HQ⟩ : ∃ v, Hid (dmQ x y = v) := ⟨_, rfl⟩
  obtain ⟨r, HR⟩ : ∃ v, Hid (dmR x y = v) := ⟨_, rfl⟩
  rw [HQ.out, HR.out]
  go_enter Try.func92, Try.ntmps92
  go_wp2_with (go_at_call 18; have H := HH.out; clear HH; obtain ⟨i0, i1, _⟩ := H.ints; (with_reducible refine (divMod_at i1.i i0.i).mono ?_); rw [HQ.out, HR.out]; rintro e w1 ⟨A1, n1, c1, A2, n2, c2, rfl, d1, u1, v1, d2, u2, v2, g⟩; have K := (H.call g).add (CanAt.mk_ d1 u1 v1) |>.add (CanAt.mk_ d2 u2 v2); obtain ⟨f0, f1⟩ := K.free (i := 0) rfl; obtain ⟨f2, f3⟩ := K.free (i := 1) rfl; obtain ⟨⟨p0, p1⟩, ⟨p2, p3⟩, _⟩ := K.facts; clear i0 i1 H)
  have K2 := (K.put 1 rfl (decide (q < 0)) A1 n1 c1).put 0 rfl (decide (r < 0)) A2 n2 c2
  simp only [List.set] at K2
  clear K p0 p1 p2 p3 f0 f1 f2 f3 g d1 d2
  generalize (((w1.setCell ⟨w.heap.size + 1 + 1, 0, none⟩ (.bool (decide (q < 0)))).setCell ⟨w.heap.size + 1 + 1, 1, none⟩ (.slice A1 n1 c1)).setCell ⟨w.heap.size + 1 + 1 + 1, 0, none⟩ (.bool (decide (r < 0)))).setCell ⟨w.heap.size + 1 + 1 + 1, 1, none⟩ (.slice A2 n2 c2) = W at K2 ⊢
  obtain ⟨⟨p0, p1⟩, ⟨p2, p3⟩, _⟩ := K2.facts
  obtain ⟨f0, f1⟩ := K2.free (i := 0) rfl
  obtain ⟨f2, f3⟩ := K2.free (i := 1) rfl
  go_region
  all_goals
    have K3 := ((K2.put 1 rfl (decide (q < 0)) A1 n1 c1).put 0 rfl (decide (r < 0)) A2 n2 c2).drew
    simp only [List.set] at K3
    go_wp2
  all_goals
    generalize ((((W.setCell ⟨w.heap.size + 1 + 1, 0, none⟩ (.bool (decide (q < 0)))).setCell ⟨w.heap.size + 1 + 1, 1, none⟩ (.slice A1 n1 c1)).setCell ⟨w.heap.size + 1 + 1 + 1, 0, none⟩ (.bool (decide (r < 0)))).setCell ⟨w.heap.size + 1 + 1 + 1, 1, none⟩ (.slice A2 n2 c2)).drew = W3 at K3 ⊢
    obtain ⟨⟨r0, r1⟩, ⟨r2, r3⟩, _⟩ := K3.facts
    exact bodyPost_ret (v := .tuple #[.agg #[.bool (decide (q < 0)), .slice A1 n1 c1], .agg #[.bool (decide (r < 0)), .slice A2 n2 c2]]) (by simp [results, Try.results92, go_sem, r0, r1, r2, r3]) rfl (RetP.mk_ K3)
end Go.Proofs.Ytehoafpnmfkniaa
