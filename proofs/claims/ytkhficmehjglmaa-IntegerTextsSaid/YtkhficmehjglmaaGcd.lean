/-
  Lehmer's method: the greatest common divisor of two numbers.
  The program's greatest common divisor.
  The reference's greatest common divisor.
-/
import Derived.Test.YtkhficmehjglmaaLehm
import Derived.Test.YtkhficmehjglmaaLongB
import Derived.Deep.RegionHeld3
import Derived.Deep.DeepCutAuto
import Derived.Deep.LoopGhost
import Derived.Test.YtkhficmehjglmaaEgcd
import Derived.Test.YtkhficmehjglmaaRdm
import Derived.Deep.AppendLies
set_option linter.unusedVariables false
set_option linter.unusedSimpArgs false
namespace Go.Proofs.Ytkhficmehjglmaa
open Go.RowKit

/-- The two numbers of the loop. -/
def GdI (w wr : World) (G : Nat) (A : Option Addr) (n c : Nat) (A' : Option Addr) (n' c' X Y : Nat) : Prop :=
  Dgs wr wr.heap.size A n (digs X) ∧ Dgs wr wr.heap.size A' n' (digs Y) ∧ n ≤ c ∧ c ≤ maxLen ∧ n' ≤ c' ∧ c' ≤ maxLen ∧ n ≤ 1000000 ∧ Y ≤ X ∧ Nat.gcd X Y = G ∧ Below w.heap.size w wr

theorem FoP.next {X Y : Nat} {a b c d : Int} (h : FoP X Y a b c d) (hb : b ≠ 0) : (0 ≤ a * (X : Int) + b * (Y : Int) ∧ a * (X : Int) + b * (Y : Int) ≤ X) ∧ (0 ≤ c * (X : Int) + d * (Y : Int) ∧ c * (X : Int) + d * (Y : Int) ≤ X) ∧
    (a * (X : Int) + b * (Y : Int)).toNat ≤ X ∧ (c * (X : Int) + d * (Y : Int)).toNat ≤ (a * (X : Int) + b * (Y : Int)).toNat ∧ (c * (X : Int) + d * (Y : Int)).toNat < Y ∧ Nat.gcd (a * (X : Int) + b * (Y : Int)).toNat (c * (X : Int) + d * (Y : Int)).toNat = Nat.gcd X Y := by
  obtain ⟨-, -, h1, h2, h3, h4, h5, h6⟩ := h
  have h5 := h5 hb
  generalize a * (X : Int) + b * (Y : Int) = f at h2 h3 h6 ⊢
  generalize c * (X : Int) + d * (Y : Int) = s at h1 h2 h4 h5 h6 ⊢
  refine ⟨by omega, by omega, by omega, by omega, by omega, ?_⟩
  obtain ⟨f, rfl⟩ := Int.eq_ofNat_of_zero_le (show 0 ≤ f by omega)
  obtain ⟨s, rfl⟩ := Int.eq_ofNat_of_zero_le h1
  rw [Int.gcd_natCast_natCast, Int.gcd_natCast_natCast] at h6
  simpa using h6

theorem trim_at {w : World} {s : Bool} {A : Option Addr} {n c : Nat} {x : Int} (h : IntAt w s A n c x) : Calls Try.prog 31 #[.slice A n c] w (RetT w w.heap.size A x.natAbs n) := by
  obtain ⟨ds, h1, h2, h3, rfl, h5⟩ := h
  rw [zOf_natAbs]
  exact trim_ret A n c w.heap.size ds w h1 h2 h3
theorem IntAt.lim {w : World} {s : Bool} {A : Option Addr} {n c : Nat} {x : Int} (h : IntAt w s A n c x) : n ≤ 1000000 := by
  obtain ⟨ds, h1, h2, h3, rfl, h5⟩ := h
  exact h5
theorem newInt_at {w : World} {s : Bool} {A : Option Addr} {n c v : Nat} (h : Dgs w w.heap.size A n (digs v)) (hc : n ≤ c) (hm : c ≤ maxLen) : Calls Try.prog 18 #[.bool s, .slice A n c] w (RetZ w (zOf s v)) := by
  have := newInt_any s A n c (digs v) w h hc hm
  rwa [val_digs] at this
theorem RetZ.of_st {w0 w : World} {l : List (Nat × TypeId × List Value)} {k : List (Bool × Option Addr × Nat × Nat × Int × Bool)} {A : Option Addr} {n c : Nat} {z : Int}
    (h : St w0 w l ((decide (z < 0), A, n, c, z, true) :: k)) : RetZ w0 z (.returned (.agg #[.bool (decide (z < 0)), .slice A n c])) w :=
  have h1 := h.ints.1.c
  ⟨A, n, c, rfl, h1.2.1, h1.2.2.1, h1.2.2.2, h.below⟩

/-- A copy of digits is made by append. -/
theorem step_append_digs {w : World} {ops : Array Oper} {o : Oper} {a : Act} {K : Act → World → Prop} {Q : Exit → Act → World → Prop} {E : Prop} (hgd : o.guard = none) (s x : Operand)
    (ho : o.op = .call { callee := .builtin .append, args := #[s, x], argTypes := #[22, 22] }) (A : Option Addr) (n c v : Nat) (hs : a.eval s = .slice none 0 0) (hx : a.eval x = .slice A n c)
    (hd : Dgs w w.heap.size A n (digs v)) (hn : n ≤ 1000000)
    (h : ∀ A1 c1 w1, Dgs w1 w1.heap.size A1 n (digs v) → n ≤ c1 → c1 ≤ maxLen → Below w.heap.size w w1 → K (a.put o.dst (.slice A1 n c1)) w1) :
    if Region.wanted o (yielded ops a.tmps) = true then Oper.wp Try.prog o a w K Q else E := by
  obtain ⟨i0, hi, hz0, hz1, hz2⟩ := info_parts u32_info
  cases n with
  | zero =>
    have hw : Region.wanted o (yielded ops a.tmps) = true := by simp [Region.wanted, hgd]
    rw [if_pos hw]
    have hrun := run_append_nothing (P := Try.prog) (w := w) 22 o.type 48 i0 Try.underlying22 hi A c
    unfold Oper.wp
    simp [execOp, ho, resolve, invoke, builtin, hs, hx, hrun, Result.andThen]
    have : digs v = [] := List.eq_nil_of_length_eq_zero hd.len
    exact h none 0 w (by rw [this]; exact Dgs.none_) (Nat.le_refl _) (Nat.zero_le _) (Below.refl _ _)
  | succ k =>
    obtain ⟨b, off, rfl, hbb1, hcell⟩ := hd.at_ (Nat.succ_pos _)
    refine step_append_lies _ hgd s x 22 ho w.heap.size 48 i0 (.int .u32 0) 1 4 Try.underlying22 hi hz0 hz1 hz2 rfl (by omega) (.slice none 0 0) 0 [] hs (World.ownsRow_nil _ _ _ _) ⟨b, off, none⟩ (k + 1) c (dcells (digs v)) hx (by rw [dcells_length, hd.len]; omega) hd.news (dcells_one _) (Nat.succ_pos _) (by unfold maxLen; omega) (by omega) (Nat.le_refl _) _ rfl ?_
    intro g cap w1 hown hg hat hlt1
    simp only [Nat.zero_add, List.nil_append] at hown ⊢
    have hB1 : Below w.heap.size w w1 := (Below.refl _ _).grown hg (Nat.le_refl _) (fun k hk => by simp [Value.ownBlock] at hk)
    exact h _ _ _ (Dgs.of_own hown hd.dig) (World.ownsRow.le hown).1 (World.ownsRow.le hown).2 hB1
theorem rtrim_at {w : World} {s : Bool} {A : Option Addr} {n c : Nat} {x : Int} (h : IntAt w s A n c x) : Calls Try.prog 23 #[.slice A n c] w (RetR w w.heap.size A x.natAbs n c) := by
  obtain ⟨ds, h1, h2, h3, rfl, h5⟩ := h
  rw [zOf_natAbs]
  exact rtrim_ret A n c w.heap.size ds w h1 h2 h3

/-- The two numbers of the loop. -/
def GrI (w wr : World) (G : Nat) (A : Option Addr) (n c : Nat) (A' : Option Addr) (n' c' X Y : Nat) (s1 s2 : Bool) (A1 A2 : Option Addr) (n1 c1 n2 c2 : Nat) : Prop :=
  St w wr [vi (w.heap.size + 1 + 1) false none 0 0, vi (w.heap.size + 1) s2 A2 n2 c2, vi w.heap.size s1 A1 n1 c1] [(false, A, n, c, (X : Int), true), (false, A', n', c', (Y : Int), true)] ∧
    Nat.gcd X Y = G ∧ Sz (X : Int) 2000 ∧ Sz (Y : Int) 2000

theorem Sz.len2 {z : Int} {k : Nat} (h : Sz z k) (hk : k ≤ 100000 := by decide) : (digs z.natAbs).length ≤ 100000 := Nat.le_trans h.len hk

/-- The head of the loop. -/
def RxI (w wr : World) (h7 h8 h14 h15 h16 h17 : Nat) (a b g m p0 : Int) (A1 A2 A3 A5 : Option Addr) (n1 c1 n2 c2 n3 c3 n5 c5 : Nat) (k : Nat) : Prop :=
  ∃ (r p x y : Int) (Ar Ap Ax Ay : Option Addr) (nr cr np cp nx cx ny cy : Nat), k = p.natAbs ∧ Sol p0 m r p x y ∧
    St w wr [vi h17 (decide (y < 0)) Ay ny cy, vi h16 (decide (x < 0)) Ax nx cx, vi h15 (decide (p < 0)) Ap np cp, vi h14 (decide (r < 0)) Ar nr cr, vi h8 (decide (m < 0)) A5 n5 c5, vi h7 (decide (g < 0)) A3 n3 c3, vi (w.heap.size + 1 + 1 + 1 + 1) false none 0 0, vi (w.heap.size + 1 + 1 + 1) false none 0 0, vi (w.heap.size + 1 + 1) false none 0 0, vi (w.heap.size + 1) (decide (b < 0)) A2 n2 c2, vi w.heap.size (decide (a < 0)) A1 n1 c1]
      [((decide (y < 0)), Ay, ny, cy, y, true), ((decide (x < 0)), Ax, nx, cx, x, true), ((decide (p < 0)), Ap, np, cp, p, true), ((decide (r < 0)), Ar, nr, cr, r, true), ((decide (m < 0)), A5, n5, c5, m, true), ((decide (g < 0)), A3, n3, c3, g, true), ((decide (b < 0)), A2, n2, c2, b, true), ((decide (a < 0)), A1, n1, c1, a, true)]

/-- The quotients by the divisor. -/
theorem rx_start {a b g m p0 : Int} (hb : b ≠ 0) (hg : ((Int.gcd a b : Nat) : Int) = g) (hm : dmQ ((b.natAbs : Nat) : Int) g = m) (hp : dmQ a g = p0) :
    0 < g ∧ g ≤ ((b.natAbs : Nat) : Int) ∧ 0 < m ∧ m.natAbs ≤ b.natAbs ∧ a = g * p0 ∧ ((b.natAbs : Nat) : Int) = g * m ∧ p0.natAbs ≤ a.natAbs ∧ Int.gcd p0 m = 1 := by
  have hb0 : 0 < ((b.natAbs : Nat) : Int) := by omega
  obtain ⟨g', u, p, e1, e2, e3, e4, e5, e6, e7⟩ := eg_parts (a := a) hb0
  have hgg : g' = g := by rw [e1, gcd_abs]; exact hg
  subst hgg
  have hm' : m = p := by rw [← hm, ← e6]; unfold dmQ; rw [if_neg (by omega), if_pos e2]
  have hp' : p0 = u := by
    rw [← hp]; unfold dmQ; rw [if_neg (by omega), if_pos e2]
    conv => lhs; rw [e3]
    exact Int.mul_ediv_cancel_left _ (by omega)
  subst hm' hp'
  have h1 : g' * 1 ≤ g' * m := Int.mul_le_mul_of_nonneg_left (by omega) (by omega)
  have h2 : 1 * m ≤ g' * m := Int.mul_le_mul_of_nonneg_right (by omega) (by omega)
  refine ⟨e2, by omega, e5, by omega, e3, e4, ?_, e7⟩
  have := congrArg Int.natAbs e3
  rw [Int.natAbs_mul] at this
  rw [this]
  have h3 : 1 * p0.natAbs ≤ g'.natAbs * p0.natAbs := Nat.mul_le_mul_right _ (by omega)
  omega

theorem sit {α : Type} (l : List α) (i : Nat) (a : α) : l.toArray.setIfInBounds i a = (l.set i a).toArray := List.setIfInBounds_toArray ..
theorem scz {α : Type} (x : α) (l : List α) (a : α) : (x :: l).set 0 a = a :: l := List.set_cons_zero ..
theorem scs {α : Type} (x : α) (l : List α) (i : Nat) (a : α) : (x :: l).set (i + 1) a = x :: l.set i a := List.set_cons_succ ..
end Go.Proofs.Ytkhficmehjglmaa

