/-
  Sums, differences, products, signs and the order of integers.
  Sums of integers.
  Differences, signs, negatives and absolute values of integers.
  Integers in variables, handed from call to call.
-/
import Derived.Test.YtkhficmehjglmaaDig
import Derived.Test.YtkhficmehjglmaaDivM
import Derived.Test.YtkhficmehjglmaaCmpC
import Derived.Test.YtkhficmehjglmaaForm2
import Derived.Test.YtkhficmehjglmaaRows2
set_option linter.unusedVariables false
set_option linter.unusedSimpArgs false
namespace Go.Proofs.Ytkhficmehjglmaa
open Go.RowKit

/-- Two integers in variables of the call's own, and one more for the result. -/
def Three (w w' : World) (g : Nat) (a0 a1 b0 b1 c0 c1 : Value) : Prop :=
  w.heap.size ≤ g ∧ Own w' g 24 a0 a1 ∧ Own w' (g + 1) 24 b0 b1 ∧ Own w' (g + 1 + 1) 24 c0 c1 ∧ Below w.heap.size w w'
section
variable {w w' w'' : World} {g : Nat} {a0 a1 b0 b1 c0 c1 : Value}
theorem Three.call (h : Three w w' g a0 a1 b0 b1 c0 c1) (hb : Below w'.heap.size w' w'') : Three w w'' g a0 a1 b0 b1 c0 c1 := by
  obtain ⟨h0, h1, h2, h3, h5⟩ := h
  exact ⟨h0, h1.below hb, h2.below hb, h3.below hb, bcall h5 hb⟩
theorem Three.alike (h : Three w w' g a0 a1 b0 b1 c0 c1) (hb : ∀ B, Below B w' w'') : Three w w'' g a0 a1 b0 b1 c0 c1 := h.call (hb _)
theorem Three.setA (h : Three w w' g a0 a1 b0 b1 c0 c1) (u v : Value) : Three w ((w'.setCell ⟨g, 0, none⟩ u).setCell ⟨g, 1, none⟩ v) g u v b0 b1 c0 c1 := by
  obtain ⟨h0, h1, h2, h3, h5⟩ := h
  exact ⟨h0, h1.set2 u v, h2.far2 (by omega) u v, h3.far2 (by omega) u v, (h5.setCell h0 _).setCell h0 _⟩
theorem Three.setB (h : Three w w' g a0 a1 b0 b1 c0 c1) (u v : Value) : Three w ((w'.setCell ⟨g + 1, 0, none⟩ u).setCell ⟨g + 1, 1, none⟩ v) g a0 a1 u v c0 c1 := by
  obtain ⟨h0, h1, h2, h3, h5⟩ := h
  exact ⟨h0, h1.far2 (by omega) u v, h2.set2 u v, h3.far2 (by omega) u v, (h5.setCell (p := ⟨g + 1, 0, none⟩) (by show _ ≤ g + 1; omega) _).setCell (p := ⟨g + 1, 1, none⟩) (by show _ ≤ g + 1; omega) _⟩
theorem Three.new (w : World) (a0 a1 b0 b1 c0 c1 : Value) :
    Three w (((w.alloc (.cells #[a0, a1] 24)).alloc (.cells #[b0, b1] 24)).alloc (.cells #[c0, c1] 24)) w.heap.size a0 a1 b0 b1 c0 c1 := by
  refine ⟨Nat.le_refl _, ((Own.new _ _ _ _).alloc _).alloc _, ?_, ?_, ?_⟩
  · have := (Own.new (w.alloc (.cells #[a0, a1] 24)) 24 b0 b1).alloc (.cells #[c0, c1] 24); simpa using this
  · have := Own.new ((w.alloc (.cells #[a0, a1] 24)).alloc (.cells #[b0, b1] 24)) 24 c0 c1; simpa using this
  · exact (bnew2 _ _ _).alloc (by simp; omega) _
end

/-- Both integers are canonical, the variable of the result is as it was. -/
def Can3 (w wx : World) (x y : Int) : Prop :=
  ∃ A1 n1 c1 A2 n2 c2, Three w wx w.heap.size (.bool (decide (x < 0))) (.slice A1 n1 c1) (.bool (decide (y < 0))) (.slice A2 n2 c2) (.bool false) (.slice none 0 0) ∧
    Dgs wx wx.heap.size A1 n1 (digs x.natAbs) ∧ n1 ≤ c1 ∧ c1 ≤ maxLen ∧ Dgs wx wx.heap.size A2 n2 (digs y.natAbs) ∧ n2 ≤ c2 ∧ c2 ≤ maxLen

theorem digs_val_le {ds : List Nat} {n : Nat} (hd : Dig ds) (hl : ds.length = n) (hs : n ≤ 1000000) : (digs (val ds)).length ≤ 1000000 := by
  have h := val_lt hd
  rw [hl] at h
  have := digs_length_le h
  omega

theorem zOf_add_same (x y : Int) (h : decide (x < 0) = decide (y < 0)) : zOf (decide (x < 0)) (x.natAbs + y.natAbs) = x + y := by
  have h' : x < 0 ↔ y < 0 := by simpa using h
  unfold zOf; by_cases hx : x < 0 <;> simp [hx] <;> omega
theorem zOf_add_diff (x y : Int) (h : decide (x < 0) ≠ decide (y < 0)) (hle : y.natAbs ≤ x.natAbs) : zOf (decide (x < 0)) (x.natAbs - y.natAbs) = x + y := by
  have h' : ¬ (x < 0 ↔ y < 0) := by simpa using h
  unfold zOf; by_cases hx : x < 0 <;> simp [hx] <;> omega
theorem zOf_mul (x y : Int) : zOf (!(decide (x < 0) == decide (y < 0))) (x.natAbs * y.natAbs) = x * y := by
  rcases Int.lt_or_le x 0 with hx | hx <;> rcases Int.lt_or_le y 0 with hy | hy
  · have e1 : x = -(x.natAbs : Int) := by omega
    have e2 : y = -(y.natAbs : Int) := by omega
    have h1 : decide (x < 0) = true := by simp [hx]
    have h2 : decide (y < 0) = true := by simp [hy]
    rw [h1, h2]
    show (((x.natAbs * y.natAbs : Nat) : Int)) = x * y
    rw [Int.natCast_mul]
    conv => rhs; rw [e1, e2, Int.neg_mul_neg]
  · have e1 : x = -(x.natAbs : Int) := by omega
    have e2 : y = (y.natAbs : Int) := by omega
    have h1 : decide (x < 0) = true := by simp [hx]
    have h2 : decide (y < 0) = false := by simp; omega
    rw [h1, h2]
    show -(((x.natAbs * y.natAbs : Nat) : Int)) = x * y
    rw [Int.natCast_mul]
    conv => rhs; rw [e1, e2, Int.neg_mul]
  · have e1 : x = (x.natAbs : Int) := by omega
    have e2 : y = -(y.natAbs : Int) := by omega
    have h1 : decide (x < 0) = false := by simp; omega
    have h2 : decide (y < 0) = true := by simp [hy]
    rw [h1, h2]
    show -(((x.natAbs * y.natAbs : Nat) : Int)) = x * y
    rw [Int.natCast_mul]
    conv => rhs; rw [e1, e2, Int.mul_neg]
  · have e1 : x = (x.natAbs : Int) := by omega
    have e2 : y = (y.natAbs : Int) := by omega
    have h1 : decide (x < 0) = false := by simp; omega
    have h2 : decide (y < 0) = false := by simp; omega
    rw [h1, h2]
    show (((x.natAbs * y.natAbs : Nat) : Int)) = x * y
    rw [Int.natCast_mul, ← e1, ← e2]

theorem RetZ.end3 {w w5 : World} {a0 a1 b0 b1 : Value} {x1 : Bool} {s1 : Option Addr} {l1 k1 : Nat} {A : Option Addr} {n c : Nat} {z : Int} {neg : Bool}
    (F : Three w w5 w.heap.size a0 a1 b0 b1 (.bool x1) (.slice s1 l1 k1)) (hn : neg = decide (z < 0))
    (hd : Dgs w5 w5.heap.size A n (digs z.natAbs)) (hc : n ≤ c) (hm : c ≤ maxLen) (u v : Value) :
    RetZ w z (.returned (.agg #[.bool neg, .slice A n c])) ((w5.setCell ⟨w.heap.size + 1 + 1, 0, none⟩ u).setCell ⟨w.heap.size + 1 + 1, 1, none⟩ v) :=
  RetZ.store_ F.2.2.2.1 (by omega) hn hd hc hm F.2.2.2.2 u v

theorem zOf_not (b : Bool) (v : Nat) : zOf (!b) v = -zOf b v := by cases b <;> simp [zOf]

/-- The sign of a number. -/
def sgn (z : Int) : Int := cmpI z 0
/-- A number is handed back; what was there is as it was. -/
def RetN (w : World) (v : Int) (e : Ending) (w' : World) : Prop := e = .returned (.int .i64 v) ∧ Below w.heap.size w w'

/-- The integer value with this sign and slice denotes z, and has at most a million digits. -/
def IntAt (w : World) (neg : Bool) (A : Option Addr) (n c : Nat) (z : Int) : Prop :=
  ∃ ds, Dgs w w.heap.size A n ds ∧ n ≤ c ∧ c ≤ maxLen ∧ zOf neg (val ds) = z ∧ n ≤ 1000000
section
variable {w w' w'' : World} {neg neg' : Bool} {A A' : Option Addr} {n c n' c' : Nat} {z x y : Int}
theorem IntAt.call (h : IntAt w neg A n c z) (hb : Below w.heap.size w w') : IntAt w' neg A n c z := by
  obtain ⟨ds, h1, h2⟩ := h
  exact ⟨ds, (h1.below hb).more hb.size, h2⟩
theorem IntAt.of_ret (hd : Dgs w w.heap.size A n (digs z.natAbs)) (hc : n ≤ c) (hm : c ≤ maxLen) (hz : (digs z.natAbs).length ≤ 1000000) : IntAt w (decide (z < 0)) A n c z :=
  ⟨_, hd, hc, hm, by rw [val_digs, ← zOf_abs], by rw [← hd.len]; exact hz⟩

theorem IntAt.zero (hd : Dgs w w.heap.size A n (digs (0 : Int).natAbs)) (hc : n ≤ c) (hm : c ≤ maxLen) : IntAt w false A n c 0 := IntAt.of_ret hd hc hm (by simp [digs_zero])
/-- A canonical integer value. -/
def CanAt (w : World) (neg : Bool) (A : Option Addr) (n c : Nat) (z : Int) : Prop :=
  neg = decide (z < 0) ∧ Dgs w w.heap.size A n (digs z.natAbs) ∧ n ≤ c ∧ c ≤ maxLen
theorem CanAt.mk_ (hd : Dgs w w.heap.size A n (digs z.natAbs)) (hc : n ≤ c) (hm : c ≤ maxLen) : CanAt w (decide (z < 0)) A n c z := ⟨rfl, hd, hc, hm⟩
theorem CanAt.call (h : CanAt w neg A n c z) (hb : Below w.heap.size w w') : CanAt w' neg A n c z :=
  ⟨h.1, (h.2.1.below hb).more hb.size, h.2.2⟩
theorem CanAt.at_ (h : CanAt w neg A n c z) (hz : (digs z.natAbs).length ≤ 1000000) : IntAt w neg A n c z := by
  obtain ⟨rfl, h1, h2, h3⟩ := h
  exact IntAt.of_ret h1 h2 h3 hz
theorem same_at (h : CanAt w neg A n c x) (h' : CanAt w neg' A' n' c' y) (hxy : x = y) : Calls Try.prog 10 #[.agg #[.bool neg, .slice A n c], .agg #[.bool neg', .slice A' n' c']] w (RetT1 w) := by
  obtain ⟨rfl, h1, h2, h3⟩ := h
  subst hxy
  obtain ⟨rfl, h1', h2', h3'⟩ := h'
  exact same_true _ A A' n n' c c' _ w h1 h1' h2 h3 h2' h3'

/-- A canonical integer in a variable of the call's own. -/
def Box (w : World) (g : Nat) (neg : Bool) (A : Option Addr) (n c : Nat) (z : Int) : Prop := Own w g 24 (.bool neg) (.slice A n c) ∧ CanAt w neg A n c z
theorem Box.call {g : Nat} (h : Box w g neg A n c z) (hb : Below w.heap.size w w') : Box w' g neg A n c z := ⟨h.1.below hb, h.2.call hb⟩
theorem Box.drew {g : Nat} (h : Box w g neg A n c z) : Box w.drew g neg A n c z := h
theorem Box.can {g : Nat} (h : Box w g neg A n c z) : CanAt w neg A n c z := h.2
theorem Box.facts {g : Nat} (h : Box w g neg A n c z) : w.cell? ⟨g, 0, none⟩ = some (.bool neg) ∧ w.cell? ⟨g, 1, none⟩ = some (.slice A n c) := ⟨h.1.facts.1, h.1.facts.2.1⟩
theorem Box.lt {g : Nat} (h : Box w g neg A n c z) : g < w.heap.size := h.1.lt
theorem IntAt.alloc (h : IntAt w neg A n c z) (o : Obj) : IntAt (w.alloc o) neg A n c z := h.call (bnew w o)
theorem IntAt.store (h : IntAt w neg A n c z) {g : Nat} {t : TypeId} {x : Bool} {a : Option Addr} {l k : Nat} (ho : Own w g t (.bool x) (.slice a l k)) (u v : Value) : IntAt ((w.setCell ⟨g, 0, none⟩ u).setCell ⟨g, 1, none⟩ v) neg A n c z := by
  obtain ⟨ds, h1, h2⟩ := h
  exact ⟨ds, h1.storeS ho u v, h2⟩
theorem CanAt.store (h : CanAt w neg A n c z) {g : Nat} {t : TypeId} {x : Bool} {a : Option Addr} {l k : Nat} (ho : Own w g t (.bool x) (.slice a l k)) (u v : Value) : CanAt ((w.setCell ⟨g, 0, none⟩ u).setCell ⟨g, 1, none⟩ v) neg A n c z :=
  ⟨h.1, h.2.1.storeS ho u v, h.2.2⟩
theorem Box.store {p : Nat} (h : Box w p neg A n c z) {g : Nat} {t : TypeId} {x : Bool} {a : Option Addr} {l k : Nat} (ho : Own w g t (.bool x) (.slice a l k)) (hne : p ≠ g) (u v : Value) : Box ((w.setCell ⟨g, 0, none⟩ u).setCell ⟨g, 1, none⟩ v) p neg A n c z :=
  ⟨h.1.far2 hne u v, h.2.store ho u v⟩
theorem Box.stored {g : Nat} {x : Bool} {a : Option Addr} {l k : Nat} (ho : Own w g 24 (.bool x) (.slice a l k)) (hn : neg = decide (z < 0)) (hd : Dgs w w.heap.size A n (digs z.natAbs)) (hc : n ≤ c) (hm : c ≤ maxLen) :
    Box ((w.setCell ⟨g, 0, none⟩ (.bool neg)).setCell ⟨g, 1, none⟩ (.slice A n c)) g neg A n c z :=
  ⟨ho.set2 _ _, hn, hd.storeS ho _ _, hc, hm⟩
theorem Box.new (hn : neg = decide (z < 0)) (hd : Dgs w w.heap.size A n (digs z.natAbs)) (hc : n ≤ c) (hm : c ≤ maxLen) : Box (w.alloc (.cells #[.bool neg, .slice A n c] 24)) w.heap.size neg A n c z :=
  ⟨Own.new _ _ _ _, hn, (hd.alloc (Nat.le_refl _) _).more (by simp), hc, hm⟩

/-- The three arguments in the call's own variables. -/
def Env (w w' : World) (x1 x2 x3 : Bool) (A1 A2 A3 : Option Addr) (n1 c1 n2 c2 n3 c3 : Nat) (a b c : Int) : Prop :=
  Own w' w.heap.size 24 (.bool x1) (.slice A1 n1 c1) ∧ Own w' (w.heap.size + 1) 24 (.bool x2) (.slice A2 n2 c2) ∧ Own w' (w.heap.size + 1 + 1) 24 (.bool x3) (.slice A3 n3 c3) ∧
    IntAt w' x1 A1 n1 c1 a ∧ IntAt w' x2 A2 n2 c2 b ∧ IntAt w' x3 A3 n3 c3 c ∧ Below w.heap.size w w'
section
variable {x1 x2 x3 : Bool} {A1 A2 A3 : Option Addr} {n1 c1 n2 c2 n3 c3 : Nat} {a b cc : Int}
theorem Env.call (h : Env w w' x1 x2 x3 A1 A2 A3 n1 c1 n2 c2 n3 c3 a b cc) (hb : Below w'.heap.size w' w'') : Env w w'' x1 x2 x3 A1 A2 A3 n1 c1 n2 c2 n3 c3 a b cc := by
  obtain ⟨h1, h2, h3, h4, h5, h6, h7⟩ := h
  exact ⟨h1.below hb, h2.below hb, h3.below hb, h4.call hb, h5.call hb, h6.call hb, bcall h7 hb⟩
theorem Env.drew (h : Env w w' x1 x2 x3 A1 A2 A3 n1 c1 n2 c2 n3 c3 a b cc) : Env w w'.drew x1 x2 x3 A1 A2 A3 n1 c1 n2 c2 n3 c3 a b cc := by
  obtain ⟨h1, h2, h3, h4, h5, h6, h7⟩ := h
  exact ⟨h1, h2, h3, h4, h5, h6, h7.drew⟩
theorem Env.alloc (h : Env w w' x1 x2 x3 A1 A2 A3 n1 c1 n2 c2 n3 c3 a b cc) (o : Obj) : Env w (w'.alloc o) x1 x2 x3 A1 A2 A3 n1 c1 n2 c2 n3 c3 a b cc := h.call (bnew w' o)
theorem Env.ia (h : Env w w' x1 x2 x3 A1 A2 A3 n1 c1 n2 c2 n3 c3 a b cc) : IntAt w' x1 A1 n1 c1 a := h.2.2.2.1
theorem Env.ib (h : Env w w' x1 x2 x3 A1 A2 A3 n1 c1 n2 c2 n3 c3 a b cc) : IntAt w' x2 A2 n2 c2 b := h.2.2.2.2.1
theorem Env.ic (h : Env w w' x1 x2 x3 A1 A2 A3 n1 c1 n2 c2 n3 c3 a b cc) : IntAt w' x3 A3 n3 c3 cc := h.2.2.2.2.2.1
theorem Env.lt (h : Env w w' x1 x2 x3 A1 A2 A3 n1 c1 n2 c2 n3 c3 a b cc) : w.heap.size + 1 + 1 < w'.heap.size := h.2.2.1.lt
theorem Env.store (h : Env w w' x1 x2 x3 A1 A2 A3 n1 c1 n2 c2 n3 c3 a b cc) {g : Nat} {t : TypeId} {x : Bool} {l : Option Addr} {k m : Nat} (ho : Own w' g t (.bool x) (.slice l k m)) (hg : w.heap.size + 1 + 1 < g) (u v : Value) :
    Env w ((w'.setCell ⟨g, 0, none⟩ u).setCell ⟨g, 1, none⟩ v) x1 x2 x3 A1 A2 A3 n1 c1 n2 c2 n3 c3 a b cc := by
  obtain ⟨h1, h2, h3, h4, h5, h6, h7⟩ := h
  exact ⟨h1.far2 (by omega) u v, h2.far2 (by omega) u v, h3.far2 (by omega) u v, h4.store ho u v, h5.store ho u v, h6.store ho u v, (h7.setCell (p := ⟨g, 0, none⟩) (by show _ ≤ g; omega) _).setCell (p := ⟨g, 1, none⟩) (by show _ ≤ g; omega) _⟩
theorem Env.facts (h : Env w w' x1 x2 x3 A1 A2 A3 n1 c1 n2 c2 n3 c3 a b cc) :
    w'.cell? ⟨w.heap.size, 0, none⟩ = some (.bool x1) ∧ w'.cell? ⟨w.heap.size, 1, none⟩ = some (.slice A1 n1 c1) ∧ w'.cell? ⟨w.heap.size + 1, 0, none⟩ = some (.bool x2) ∧ w'.cell? ⟨w.heap.size + 1, 1, none⟩ = some (.slice A2 n2 c2) ∧
    w'.cell? ⟨w.heap.size + 1 + 1, 0, none⟩ = some (.bool x3) ∧ w'.cell? ⟨w.heap.size + 1 + 1, 1, none⟩ = some (.slice A3 n3 c3) := by
  obtain ⟨h1, h2, h3, _⟩ := h
  exact ⟨h1.facts.1, h1.facts.2.1, h2.facts.1, h2.facts.2.1, h3.facts.1, h3.facts.2.1⟩
end
end

/-- Fewer than so many digits. -/
def Sz (z : Int) (k : Nat) : Prop := z.natAbs < BB ^ k
theorem Sz.len {z : Int} {k : Nat} (h : Sz z k) : (digs z.natAbs).length ≤ k := digs_length_le h
theorem Sz.add {x y : Int} {k : Nat} (h : Sz x k) (h' : Sz y k) : Sz (x + y) (k + 1) := by
  unfold Sz at *
  have e : BB ^ (k + 1) = BB ^ k * 4294967296 := by rw [Nat.pow_succ, BB_eq]
  have hp : 0 < BB ^ k := Nat.pow_pos BB_pos
  rw [e]; omega
theorem Sz.mul {x y : Int} {k l : Nat} (h : Sz x k) (h' : Sz y l) : Sz (x * y) (k + l) := by
  unfold Sz at *
  rw [Int.natAbs_mul, Nat.pow_add]
  exact Nat.mul_lt_mul'' h h'
theorem Sz.mono {x : Int} {k l : Nat} (h : Sz x k) (hkl : k ≤ l) : Sz x l := Nat.lt_of_lt_of_le h (Nat.pow_le_pow_right BB_pos hkl)
theorem Sz.neg {x : Int} {k : Nat} (h : Sz x k) : Sz (-x) k := by unfold Sz at *; omega
theorem Sz.sub {x y : Int} {k : Nat} (h : Sz x k) (h' : Sz y k) : Sz (x - y) (k + 1) := by rw [Int.sub_eq_add_neg]; exact h.add h'.neg
theorem sz_of {w : World} {B n : Nat} {A : Option Addr} {ds : List Nat} (h : Dgs w B A n ds) (neg : Bool) : Sz (zOf neg (val ds)) n := by
  unfold Sz; rw [zOf_natAbs, ← h.len]; exact val_lt h.dig
end Go.Proofs.Ytkhficmehjglmaa

