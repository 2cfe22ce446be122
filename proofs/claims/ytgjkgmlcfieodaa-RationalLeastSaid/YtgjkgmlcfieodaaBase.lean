/-
  Numbers as lists of digits in base 2^32: the value of a list, the digits of a number, and that both agree.
  Digits in memory: a slice value that reads as a list of digits.
  Cutting off leading zero digits.
  Integers in memory, and how they are made canonical.
  A word as digits; integers from machine numbers.
  The reference's integers: cutting off leading zeros, and canonical integers.
-/
import Derived.WalkKit
import Derived.Test.YtgjkgmlcfieodaaChecked
import Derived.WalkLawsBesides
import Derived.Deep.LoopGhost
import Derived.Deep.OwnRows
import Derived.Deep.Cut
import Derived.Deep.Light
import Derived.Lib.Hide
import Derived.Deep.QuietTactic
import Derived.BigQuiet
import Derived.Deep.AppendLies
import Derived.OwnWalk
import Derived.Laws.AppendOwnNone
set_option linter.unusedVariables false
set_option linter.unusedSimpArgs false
namespace Go.Proofs.Ytgjkgmlcfieodaa
def BB : Nat := 4294967296
theorem BB_eq : BB = 4294967296 := rfl
theorem BB_pos : 0 < BB := by rw [BB_eq]; omega

/-- The value of a list of digits, the lowest first. -/
def val : List Nat → Nat
  | [] => 0
  | d :: r => d + BB * val r

/-- All are digits. -/
def Dig (ds : List Nat) : Prop := ∀ d ∈ ds, d < BB

/-- The digits of a number, the lowest first, none for 0. -/
def digs (n : Nat) : List Nat := if _h : n = 0 then [] else n % BB :: digs (n / BB)
termination_by n
decreasing_by exact Nat.div_lt_self (by omega) (by rw [BB_eq]; omega)

theorem digs_zero : digs 0 = [] := by unfold digs; simp
theorem digs_pos {n : Nat} (h : n ≠ 0) : digs n = n % BB :: digs (n / BB) := by rw [digs]; simp [h]

theorem Dig.nil : Dig [] := by intro d h; simp at h
theorem Dig.cons {d : Nat} {r : List Nat} (h : d < BB) (hr : Dig r) : Dig (d :: r) := by
  intro x hx; rcases List.mem_cons.1 hx with rfl | hx
  · exact h
  · exact hr x hx
theorem Dig.head {d : Nat} {r : List Nat} (h : Dig (d :: r)) : d < BB := h d (by simp)
theorem Dig.tail {d : Nat} {r : List Nat} (h : Dig (d :: r)) : Dig r := fun x hx => h x (by simp [hx])
theorem Dig.append {a b : List Nat} (ha : Dig a) (hb : Dig b) : Dig (a ++ b) := by
  intro x hx; rcases List.mem_append.1 hx with h | h
  · exact ha x h
  · exact hb x h
theorem Dig.take {a : List Nat} (h : Dig a) (n : Nat) : Dig (a.take n) := fun x hx => h x (List.mem_of_mem_take hx)
theorem Dig.drop {a : List Nat} (h : Dig a) (n : Nat) : Dig (a.drop n) := fun x hx => h x (List.mem_of_mem_drop hx)
theorem Dig.getD {a : List Nat} (h : Dig a) (i : Nat) : a.getD i 0 < BB := by
  by_cases hi : i < a.length
  · simp [List.getD, hi]; exact h _ (List.getElem_mem hi)
  · simp [List.getD, Nat.not_lt.1 hi, BB_pos]

theorem dig_digs (n : Nat) : Dig (digs n) := by
  induction n using Nat.strongRecOn with
  | _ n ih =>
    by_cases h : n = 0
    · subst h; rw [digs_zero]; exact Dig.nil
    · rw [digs_pos h]
      exact Dig.cons (Nat.mod_lt _ BB_pos) (ih _ (Nat.div_lt_self (by omega) (by rw [BB_eq]; omega)))

theorem val_digs (n : Nat) : val (digs n) = n := by
  induction n using Nat.strongRecOn with
  | _ n ih =>
    by_cases h : n = 0
    · subst h; rw [digs_zero]; rfl
    · rw [digs_pos h, val, ih _ (Nat.div_lt_self (by omega) (by rw [BB_eq]; omega))]
      exact Nat.mod_add_div n BB

theorem val_append (a b : List Nat) : val (a ++ b) = val a + BB ^ a.length * val b := by
  induction a with
  | nil => simp [val]
  | cons d r ih => simp only [List.cons_append, val, ih, List.length_cons, Nat.pow_succ]; rw [Nat.mul_add, ← Nat.mul_assoc, Nat.mul_comm BB (BB ^ _)]; omega

theorem val_lt {a : List Nat} (h : Dig a) : val a < BB ^ a.length := by
  induction a with
  | nil => simp [val]
  | cons d r ih =>
    have h1 := ih h.tail
    have h2 := h.head
    simp only [val, List.length_cons, Nat.pow_succ]
    have : BB * (val r + 1) ≤ BB * BB ^ r.length := Nat.mul_le_mul_left _ h1
    rw [Nat.mul_add] at this
    rw [Nat.mul_comm (BB ^ r.length)]
    omega

/-- How many digits are left when the leading zero digits are cut off. -/
def trimLen : List Nat → Nat
  | [] => 0
  | d :: r => if trimLen r = 0 ∧ d = 0 then 0 else trimLen r + 1

theorem trimLen_le (a : List Nat) : trimLen a ≤ a.length := by
  induction a with
  | nil => simp [trimLen]
  | cons d r ih => simp only [trimLen, List.length_cons]; split <;> omega

theorem val_zero_of_trimLen {a : List Nat} (h : trimLen a = 0) : val a = 0 := by
  induction a with
  | nil => rfl
  | cons d r ih =>
    simp only [trimLen] at h
    split at h
    · rename_i h'; rw [val, ih h'.1, h'.2]; simp
    · omega

theorem trimLen_pos_val {a : List Nat} (h : trimLen a ≠ 0) : val a ≠ 0 := by
  induction a with
  | nil => simp [trimLen] at h
  | cons d r ih =>
    simp only [trimLen] at h
    rw [val]
    by_cases h1 : trimLen r = 0
    · have : d ≠ 0 := by intro hd; simp [h1, hd] at h
      omega
    · have := ih h1
      have hp : 0 < BB * val r := Nat.mul_pos BB_pos (by omega)
      omega

/-- CUTTING OFF THE LEADING ZEROS GIVES THE DIGITS OF THE VALUE. -/
theorem take_trimLen {a : List Nat} (h : Dig a) : a.take (trimLen a) = digs (val a) := by
  induction a with
  | nil => simp [trimLen, val, digs_zero]
  | cons d r ih =>
    have h1 := ih h.tail
    have h2 := h.head
    by_cases h0 : trimLen r = 0 ∧ d = 0
    · simp only [trimLen, h0, and_self, if_true, List.take_zero]
      rw [val, val_zero_of_trimLen h0.1]; simp [digs_zero]
    · have hv : val (d :: r) ≠ 0 := by
        apply trimLen_pos_val; simp only [trimLen]; rw [if_neg h0]; omega
      simp only [trimLen]
      rw [if_neg h0, digs_pos hv, List.take_succ_cons, h1]
      simp only [val]
      rw [Nat.add_mul_mod_self_left, Nat.mod_eq_of_lt h2, Nat.add_mul_div_left _ _ BB_pos, Nat.div_eq_of_lt h2, Nat.zero_add]

theorem trimLen_length {a : List Nat} (h : Dig a) : trimLen a = (digs (val a)).length := by
  have := congrArg List.length (take_trimLen h)
  rw [List.length_take, Nat.min_eq_left (trimLen_le a)] at this
  exact this

theorem trimLen_digs (n : Nat) : trimLen (digs n) = (digs n).length := by
  rw [trimLen_length (dig_digs n), val_digs]

theorem digs_inj {a b : Nat} (h : digs a = digs b) : a = b := by rw [← val_digs a, ← val_digs b, h]

/-- What one step of the loop that cuts off leading zeros sees. -/
theorem trimLen_snoc_zero (a : List Nat) : trimLen (a ++ [0]) = trimLen a := by
  induction a with
  | nil => simp [trimLen]
  | cons d r ih => simp only [List.cons_append, trimLen, ih]
theorem trimLen_snoc_pos (a : List Nat) {d : Nat} (h : d ≠ 0) : trimLen (a ++ [d]) = a.length + 1 := by
  induction a with
  | nil => simp [trimLen, h]
  | cons e r ih => simp only [List.cons_append, trimLen, ih, List.length_cons]; rw [if_neg (by omega)]
theorem take_snoc {a : List Nat} {k : Nat} (h : k < a.length) : a.take (k + 1) = a.take k ++ [a.getD k 0] := by
  rw [List.take_succ_eq_append_getElem h]; simp [List.getD, h]

theorem trimLen_take_zero {a : List Nat} {k : Nat} (h : k < a.length) (hz : a.getD k 0 = 0) : trimLen (a.take (k + 1)) = trimLen (a.take k) := by
  rw [take_snoc h, hz, trimLen_snoc_zero]
theorem trimLen_take_pos {a : List Nat} {k : Nat} (h : k < a.length) (hz : a.getD k 0 ≠ 0) : trimLen (a.take (k + 1)) = k + 1 := by
  rw [take_snoc h, trimLen_snoc_pos _ hz, List.length_take, Nat.min_eq_left (by omega)]

theorem digs_length_le {n k : Nat} (h : n < BB ^ k) : (digs n).length ≤ k := by
  induction k generalizing n with
  | zero => have : n = 0 := by simp at h; exact h
            subst this; simp [digs_zero]
  | succ k ih =>
    by_cases h0 : n = 0
    · subst h0; simp [digs_zero]
    · rw [digs_pos h0, List.length_cons]
      have : n / BB < BB ^ k := by rw [Nat.div_lt_iff_lt_mul BB_pos]; rw [Nat.pow_succ] at h; exact h
      have := ih this; omega

theorem lt_pow_digs (n : Nat) : n < BB ^ (digs n).length := by
  have := val_lt (dig_digs n); rwa [val_digs] at this
open Go.RowKit

/-- The slice with address A and length n reads as the digits ds; it lies below block B. -/
def Dgs (w : World) (B : Nat) (A : Option Addr) (n : Nat) (ds : List Nat) : Prop :=
  ds.length = n ∧ Dig ds ∧ (0 < n → ∃ b off, A = some ⟨b, off, none⟩ ∧ b < B ∧ ∀ j, j < n → w.cell? ⟨b, off + j, none⟩ = some (.int .u32 (ds.getD j 0 : Nat)))

section
variable {w w' : World} {B B' n : Nat} {A : Option Addr} {ds : List Nat}
theorem Dgs.len (h : Dgs w B A n ds) : ds.length = n := h.1
theorem Dgs.dig (h : Dgs w B A n ds) : Dig ds := h.2.1
theorem Dgs.none_ : Dgs w B A 0 [] := ⟨rfl, Dig.nil, fun h => absurd h (Nat.lt_irrefl _)⟩
theorem Dgs.at_ (h : Dgs w B A n ds) (hn : 0 < n) : ∃ b off, A = some ⟨b, off, none⟩ ∧ b < B ∧ ∀ j, j < n → w.cell? ⟨b, off + j, none⟩ = some (.int .u32 (ds.getD j 0 : Nat)) := h.2.2 hn
theorem Dgs.keep (h : Dgs w B A n ds) (hk : ∀ p : Addr, p.block < B → w'.cell? p = w.cell? p) : Dgs w' B A n ds :=
  ⟨h.1, h.2.1, fun hn => by
    obtain ⟨b, off, e, hb, hc⟩ := h.2.2 hn
    exact ⟨b, off, e, hb, fun j hj => (hk _ hb).trans (hc j hj)⟩⟩
theorem Dgs.more (h : Dgs w B A n ds) (hB : B ≤ B') : Dgs w B' A n ds :=
  ⟨h.1, h.2.1, fun hn => by
    obtain ⟨b, off, e, hb, hc⟩ := h.2.2 hn
    exact ⟨b, off, e, by omega, hc⟩⟩
theorem Dgs.below (h : Dgs w B A n ds) (hb : Below B w w') : Dgs w' B A n ds := h.keep fun _ hp => hb.cell hp
theorem Dgs.alloc (h : Dgs w B A n ds) (hB : B ≤ w.heap.size) (o : Obj) : Dgs (w.alloc o) B A n ds := h.keep fun p hp => World.cell?_alloc_lt w o p (by omega)
theorem Dgs.take (h : Dgs w B A n ds) {k : Nat} (hk : k ≤ n) : Dgs w B A k (ds.take k) := by
  obtain ⟨h1, h2, h3⟩ := h
  refine ⟨by rw [List.length_take, h1]; omega, h2.take k, fun hn => ?_⟩
  obtain ⟨b, off, e, hb, hc⟩ := h3 (by omega)
  refine ⟨b, off, e, hb, fun j hj => ?_⟩
  rw [hc j (by omega)]
  have : (ds.take k).getD j 0 = ds.getD j 0 := by simp [List.getD, hj]
  rw [this]
end
set_option maxRecDepth 100000 in
theorem trim_any (A : Option Addr) (n c B : Nat) (ds : List Nat) (w : World) (h : Dgs w B A n ds) (hc : n ≤ c) (hm : c ≤ maxLen) :
    Calls Try.prog 69 #[.slice A n c] w fun e w' => e = .returned (.slice A (trimLen ds) (trimLen ds)) ∧ w = w' := by
  unfold maxLen at hm
  have hl := h.len
  go_enter Try.func69, Try.ntmps69
  go_wp2
  go_loop [3] (fun i => ∃ k : Nat, k ≤ n ∧ i = .int .i64 k ∧ trimLen (ds.take k) = trimLen ds) (fun i => (intOf i).toNat)
  case atStart => exact ⟨n, Nat.le_refl _, rfl, by rw [List.take_of_length_le (by omega)]⟩
  case round =>
    obtain ⟨k, hk, rfl, ht⟩ := hrel
    have HT := Lib.hid ht; clear ht
    by_cases hk0 : k = 0
    · subst hk0
      go_wp2
      go_ret
      have ht := HT.out
      simp [trimLen] at ht
      exact ⟨by rw [← ht]; rfl, rfl⟩
    · obtain ⟨b, off, rfl, _, hcell⟩ := h.at_ (by omega)
      obtain ⟨j, rfl⟩ : ∃ j, k = j + 1 := ⟨k - 1, by omega⟩
      have hx : w.cell? ⟨b, off + j, none⟩ = some (.int .u32 (ds.getD j 0 : Nat)) := hcell j (by omega)
      obtain ⟨x, HX⟩ : ∃ x, Hid (x = ds.getD j 0) := ⟨_, rfl⟩
      rw [← HX.out] at hx
      clear hcell
      by_cases hz : x = 0
      · subst hz
        go_wp2
        go_round
        case rel => exact ⟨j, by omega, rfl, by rw [← HT.out]; exact (trimLen_take_zero (by omega) HX.out.symm).symm⟩
        case measure => simp [intOf]
      · go_wp2
        go_ret
        have e : trimLen ds = j + 1 := by rw [← HT.out]; exact trimLen_take_pos (by omega) (by rw [← HX.out]; exact hz)
        exact ⟨by rw [e]; rfl, rfl⟩

/-- The integer with a sign and an absolute value. -/
def zOf (neg : Bool) (v : Nat) : Int := if neg then -(v : Int) else v
theorem zOf_natAbs (neg : Bool) (v : Nat) : (zOf neg v).natAbs = v := by unfold zOf; split <;> omega
theorem zOf_neg {neg : Bool} {v : Nat} (h : v ≠ 0) : decide (zOf neg v < 0) = neg := by
  unfold zOf; cases neg <;> simp <;> omega

/-- A canonical integer is handed back; what was there is as it was. -/
def RetZ (w : World) (z : Int) (e : Ending) (w' : World) : Prop :=
  ∃ A n c, e = .returned (.agg #[.bool (decide (z < 0)), .slice A n c]) ∧ Dgs w' w'.heap.size A n (digs z.natAbs) ∧ n ≤ c ∧ c ≤ maxLen ∧ Below w.heap.size w w'

theorem bcell {W w1 : World} (hb : Below W.heap.size W w1) : (∀ b o, b < W.heap.size → w1.cell? ⟨b, o, none⟩ = W.cell? ⟨b, o, none⟩) ∧ (∀ b o, b < W.heap.size → w1.frozen? ⟨b, o, none⟩ = W.frozen? ⟨b, o, none⟩) :=
  ⟨fun b o h => hb.cell (p := ⟨b, o, none⟩) h, fun b o h => hb.frozen (p := ⟨b, o, none⟩) h⟩

theorem digs_nil {v : Nat} (h : (digs v).length = 0) : v = 0 := by
  have := val_digs v
  rw [List.eq_nil_of_length_eq_zero h] at this
  exact this.symm

theorem RetZ.mk_ {w w' : World} {z : Int} {neg : Bool} {A : Option Addr} {n c : Nat} (hn : neg = decide (z < 0)) (hd : Dgs w' w'.heap.size A n (digs z.natAbs)) (hc : n ≤ c) (hm : c ≤ maxLen) (hb : Below w.heap.size w w') :
    RetZ w z (.returned (.agg #[.bool neg, .slice A n c])) w' := ⟨A, n, c, by rw [hn], hd, hc, hm, hb⟩

theorem bcall {w wk w' : World} (h : Below w.heap.size w wk) (hb : Below wk.heap.size wk w') : Below w.heap.size w w' := h.trans (hb.mono h.size)
theorem bnew (w : World) (o : Obj) : Below w.heap.size w (w.alloc o) := (Below.refl _ _).alloc (Nat.le_refl _) _
theorem bdrewN {B : Nat} {w w' : World} (h : Below B w w') (n : Nat) : Below B w (w'.drewN n) := ⟨h.os, h.tape, h.output, h.size, h.block⟩
theorem bnew2 (w : World) (o o' : Obj) : Below w.heap.size w ((w.alloc o).alloc o') := (bnew w o).alloc (by simp) _

/-- Block g is a variable of the call's own, of two cells. -/
def Own (w : World) (g : Nat) (t : TypeId) (v0 v1 : Value) : Prop := w.heap[g]? = some (.cells #[v0, v1] t (0, 0))
section
variable {w w' : World} {g : Nat} {t : TypeId} {v0 v1 : Value}
theorem Own.lt (h : Own w g t v0 v1) : g < w.heap.size := by
  rcases Nat.lt_or_ge g w.heap.size with hlt | hge
  · exact hlt
  · unfold Own at h; rw [Array.getElem?_eq_none hge] at h; cases h
theorem Own.new (w : World) (t : TypeId) (v0 v1 : Value) : Own (w.alloc (.cells #[v0, v1] t)) w.heap.size t v0 v1 := Go.Deep.blk_alloc_new _ _
theorem Own.below (h : Own w g t v0 v1) (hb : Below w.heap.size w w') : Own w' g t v0 v1 := (hb.block g h.lt).trans h
theorem Own.alloc (h : Own w g t v0 v1) (o : Obj) : Own (w.alloc o) g t v0 v1 := (Below.heap_alloc w o g h.lt).trans h
theorem Own.drew (h : Own w g t v0 v1) : Own w.drew g t v0 v1 := h
theorem Own.far (h : Own w g t v0 v1) {p : Addr} (hp : g ≠ p.block) (u : Value) : Own (w.setCell p u) g t v0 v1 := (Below.heap_setCell w p u g hp).trans h
theorem Own.set2 (h : Own w g t v0 v1) (a b : Value) : Own ((w.setCell ⟨g, 0, none⟩ a).setCell ⟨g, 1, none⟩ b) g t a b := by
  unfold Own at h ⊢
  simp [World.setCell, Array.getElem?_modify, h]
theorem Own.facts (h : Own w g t v0 v1) : w.cell? ⟨g, 0, none⟩ = some v0 ∧ w.cell? ⟨g, 1, none⟩ = some v1 ∧ w.frozen? ⟨g, 0, none⟩ = false ∧ w.frozen? ⟨g, 1, none⟩ = false := by
  unfold Own at h
  simp [World.cell?, World.frozen?, h]
end

/-- Digits lie in no variable that holds an integer. -/
theorem Dgs.off_own {w : World} {B n g : Nat} {A : Option Addr} {ds : List Nat} {t : TypeId} {x : Bool} {a : Option Addr} {l c : Nat} (h : Dgs w B A n ds) (ho : Own w g t (.bool x) (.slice a l c)) :
    0 < n → ∃ b off, A = some ⟨b, off, none⟩ ∧ b < B ∧ b ≠ g ∧ ∀ j, j < n → w.cell? ⟨b, off + j, none⟩ = some (.int .u32 (ds.getD j 0 : Nat)) := by
  intro hn
  obtain ⟨b, off, e, hb, hc⟩ := h.at_ hn
  refine ⟨b, off, e, hb, ?_, hc⟩
  rintro rfl
  have h0 := hc 0 hn
  unfold Own at ho
  simp only [World.cell?, ho] at h0
  match off, h0 with
  | 0, h0 => simp at h0
  | 1, h0 => simp at h0
  | k + 2, h0 => simp at h0

theorem Dgs.store {w : World} {B n g : Nat} {A : Option Addr} {ds : List Nat} {t : TypeId} {x : Bool} {a : Option Addr} {l c : Nat} (h : Dgs w B A n ds) (ho : Own w g t (.bool x) (.slice a l c)) (u v : Value) :
    Dgs ((w.setCell ⟨g, 0, none⟩ u).setCell ⟨g, 1, none⟩ v) B A n ds := by
  refine ⟨h.1, h.2.1, fun hn => ?_⟩
  obtain ⟨b, off, e, hb, hne, hc⟩ := h.off_own ho hn
  refine ⟨b, off, e, hb, fun j hj => ?_⟩
  rw [World.cell?_setCell_other _ _ _ _ (fun e => hne (congrArg Addr.block e).symm), World.cell?_setCell_other _ _ _ _ (fun e => hne (congrArg Addr.block e).symm)]
  exact hc j hj

theorem Dgs.storeS {w : World} {n g : Nat} {A : Option Addr} {ds : List Nat} {t : TypeId} {x : Bool} {a : Option Addr} {l c : Nat} (h : Dgs w w.heap.size A n ds) (ho : Own w g t (.bool x) (.slice a l c)) (u v : Value) :
    Dgs ((w.setCell ⟨g, 0, none⟩ u).setCell ⟨g, 1, none⟩ v) ((w.setCell ⟨g, 0, none⟩ u).setCell ⟨g, 1, none⟩ v).heap.size A n ds := by
  have := h.store ho u v
  simpa using this

theorem RetZ.store_ {w w2 : World} {z : Int} {t : TypeId} {g : Nat} {x : Bool} {a : Option Addr} {l c' : Nat} {A : Option Addr} {n c : Nat} {neg : Bool} (ho : Own w2 g t (.bool x) (.slice a l c')) (hg : w.heap.size ≤ g) (hn : neg = decide (z < 0))
    (hd : Dgs w2 w2.heap.size A n (digs z.natAbs)) (hc : n ≤ c) (hm : c ≤ maxLen) (hb : Below w.heap.size w w2) (u v : Value) :
    RetZ w z (.returned (.agg #[.bool neg, .slice A n c])) ((w2.setCell ⟨g, 0, none⟩ u).setCell ⟨g, 1, none⟩ v) :=
  RetZ.mk_ hn (by simpa using hd.store ho u v) hc hm ((hb.setCell hg _).setCell hg _)

set_option maxRecDepth 100000 in
theorem newInt_any (neg : Bool) (A : Option Addr) (n c : Nat) (ds : List Nat) (w : World) (h : Dgs w w.heap.size A n ds) (hc : n ≤ c) (hm : c ≤ maxLen) :
    Calls Try.prog 37 #[.bool neg, .slice A n c] w (RetZ w (zOf neg (val ds))) := by
  have htl := trimLen_length h.dig
  have hle := trimLen_le ds
  have hdl := h.len
  have hd2 : Dgs w w.heap.size A (trimLen ds) (digs (val ds)) := by
    rw [← take_trimLen h.dig]; exact h.take (by omega)
  obtain ⟨t, HT⟩ : ∃ t, Hid (t = trimLen ds) := ⟨_, rfl⟩
  rw [← HT.out] at hd2 hle
  have HTL : Hid (t = (digs (val ds)).length) := by rw [HT.out]; exact htl
  clear htl hdl
  by_cases hz : t = 0
  · subst hz
    have hv := digs_nil HTL.out.symm
    go_enter Try.func37, Try.ntmps37
    go_wp2_with (go_at_call 69; refine (trim_any A n c _ ds _ (h.alloc (Nat.le_refl _) _) hc hm).mono ?_; rw [← HT.out]; rintro e w' ⟨rfl, rfl⟩)
    refine bodyPost_ret (v := .agg #[.bool false, .slice none 0 0]) (by simp [results, Try.results37, go_sem]) rfl (RetZ.mk_ ?_ ?_ (Nat.le_refl _) (Nat.zero_le _) ((Below.refl _ _).alloc (Nat.le_refl _) _))
    · rw [hv]; cases neg <;> rfl
    · rw [hv]; cases neg <;> (simp [zOf, digs_zero]; exact Dgs.none_)
  · have HV : Hid (val ds ≠ 0) := by
      intro hv
      have := HTL.out
      rw [hv, digs_zero] at this
      exact hz this
    have hz' : ((t : Int) == 0) = false := by simp; omega
    go_enter Try.func37, Try.ntmps37
    go_wp2_with (go_at_call 69; refine (trim_any A n c _ ds _ (h.alloc (Nat.le_refl _) _) hc hm).mono ?_; rw [← HT.out]; rintro e w' ⟨rfl, rfl⟩)
    refine bodyPost_ret (v := .agg #[.bool neg, .slice A t t]) (by simp [results, Try.results37, go_sem]) rfl (RetZ.mk_ ?_ ?_ (Nat.le_refl _) (by have := h.len; omega) ((Below.refl _ _).alloc (Nat.le_refl _) _))
    · exact (zOf_neg HV.out).symm
    · rw [zOf_natAbs]; exact (hd2.alloc (Nat.le_refl _) _).more (by simp)

/-- Digits are handed back; what was there is as it was. -/
def RetD (w : World) (v : Nat) (e : Ending) (w' : World) : Prop :=
  ∃ A n c, e = .returned (.slice A n c) ∧ Dgs w' w'.heap.size A n (digs v) ∧ n ≤ c ∧ c ≤ maxLen ∧ Below w.heap.size w w'

theorem RetD.mk_ {w w' : World} {v : Nat} {A : Option Addr} {n c : Nat} (hd : Dgs w' w'.heap.size A n (digs v)) (hc : n ≤ c) (hm : c ≤ maxLen) (hb : Below w.heap.size w w') :
    RetD w v (.returned (.slice A n c)) w' := ⟨A, n, c, rfl, hd, hc, hm, hb⟩

/-- The digits after the leading zeros are cut off, in the world as it is. -/
def RetT (w : World) (B : Nat) (A : Option Addr) (v n : Nat) (e : Ending) (w' : World) : Prop :=
  ∃ t, e = .returned (.slice A t t) ∧ Dgs w B A t (digs v) ∧ t ≤ n ∧ w = w'

theorem trim_ret (A : Option Addr) (n c B : Nat) (ds : List Nat) (w : World) (h : Dgs w B A n ds) (hc : n ≤ c) (hm : c ≤ maxLen) :
    Calls Try.prog 69 #[.slice A n c] w (RetT w B A (val ds) n) :=
  (trim_any A n c B ds w h hc hm).mono fun e w' ⟨he, hw⟩ => ⟨trimLen ds, he, by rw [← take_trimLen h.dig]; exact h.take (by rw [← h.len]; exact trimLen_le ds), by rw [← h.len]; exact trimLen_le ds, hw⟩

theorem Dgs.of_row {w : World} {b n : Nat} {f : Nat → Value} {ds : List Nat} (h : w.rowIs b 69 n f) (hl : ds.length = n) (hd : Dig ds) (hf : ∀ i, i < n → f i = .int .u32 (ds.getD i 0 : Nat)) : Dgs w w.heap.size (some ⟨b, 0, none⟩) n ds :=
  ⟨hl, hd, fun _ => ⟨b, 0, rfl, h.lt, fun j hj => by rw [Nat.zero_add, h.cell hj, hf j hj]⟩⟩

theorem dgs_two (w : World) (a b : Int) (x y : Nat) (ha : a = x) (hb : b = y) (hx : x < BB) (hy : y < BB) :
    Dgs (w.alloc (.cells #[.int .u32 a, .int .u32 b] 69)) (w.heap.size + 1) (some ⟨w.heap.size, 0, none⟩) 2 [x, y] := by
  subst ha hb
  have h := World.rowIs_alloc w #[.int .u32 x, .int .u32 y] 69 (fun i => .int .u32 (([x, y] : List Nat).getD i 0 : Nat)) (fun i hi => by
    match i, hi with
    | 0, _ => rfl
    | 1, _ => rfl)
  have := Dgs.of_row h (ds := [x, y]) rfl (Dig.cons hx (Dig.cons hy Dig.nil)) (fun _ _ => rfl)
  simpa using this

theorem val_two (x : Nat) : val [x % BB, x / BB] = x := by
  simp only [val, Nat.mul_zero, Nat.add_zero]; exact Nat.mod_add_div x BB

set_option maxRecDepth 100000 in
theorem fromWord_any (x : Nat) (hx : x < 18446744073709551616) (w : World) :
    Calls Try.prog 38 #[.int .u64 x] w (RetD w x) := by
  have hd := dgs_two w (x % 4294967296 : Int) (x / 4294967296 : Int) (x % BB) (x / BB) (by rw [BB_eq]; omega) (by rw [BB_eq]; omega) (Nat.mod_lt _ BB_pos) (by rw [BB_eq]; omega)
  go_enter Try.func38, Try.ntmps38
  go_wp2_with (go_at_call 69; refine (trim_ret _ _ _ _ _ _ hd (Nat.le_refl _) (by unfold maxLen; omega)).mono ?_; rintro e w' ⟨t, rfl, hd', ht, rfl⟩)
  go_ret
  rw [val_two] at hd'
  exact RetD.mk_ (hd'.more (by simp)) (Nat.le_refl _) (by unfold maxLen; omega) ((Below.refl _ _).alloc (Nat.le_refl _) _)

theorem neg_wrap (m : Nat) (h : m ≤ 9223372036854775808) : IntKind.u64.wrap (-IntKind.u64.wrap (-(m : Int))) = m := by
  rw [IntKind.wrap_u64, IntKind.wrap_u64]; omega

theorem zOf_true (m : Nat) : zOf true m = -(m : Int) := rfl
theorem zOf_false (m : Nat) : zOf false m = (m : Int) := rfl

set_option maxRecDepth 100000 in
theorem fromInt64_any (n : Int) (h1 : -9223372036854775808 ≤ n) (h2 : n ≤ 9223372036854775807) (w : World) :
    Calls Try.prog 12 #[.int .i64 n] w (RetZ w n) := by
  by_cases hn : n < 0
  · obtain ⟨m, rfl⟩ : ∃ m : Nat, n = -(m : Int) := ⟨n.natAbs, by omega⟩
    have e1 := neg_wrap m (by omega)
    have hm0 : ¬ (0 ≤ -(m : Int)) := by omega
    go_enter Try.func12, Try.ntmps12
    go_wp2_with (first
      | (go_at_call 38; refine (fromWord_any m (by omega) _).mono ?_; rintro e w1 ⟨A1, n1, c1, rfl, hd1, hn1, hc1, hb1⟩)
      | (go_at_call 37; refine (newInt_any _ _ _ _ _ _ hd1 hn1 hc1).mono ?_; rintro e w2 ⟨A2, n2, c2, rfl, hd2, hn2, hc2, hb2⟩; have O2 := ((Own.new _ _ _ _).below hb1).below hb2; obtain ⟨q0, q1, q2, q3⟩ := O2.facts))
    rw [val_digs, zOf_true] at hd2
    refine bodyPost_ret (v := .agg #[.bool (decide (-(m : Int) < 0)), .slice A2 n2 c2]) (by simp [results, Try.results12, go_sem, q0, q1, q2, q3, val_digs, zOf_true]) rfl
      (RetZ.store_ O2 (Nat.le_refl _) rfl hd2 hn2 hc2 (bcall (bnew _ _) (bcall hb1 hb2)) _ _)
  · obtain ⟨m, rfl⟩ : ∃ m : Nat, n = (m : Int) := ⟨n.natAbs, by omega⟩
    go_enter Try.func12, Try.ntmps12
    go_wp2_with (first
      | (go_at_call 38; refine (fromWord_any m (by omega) _).mono ?_; rintro e w1 ⟨A1, n1, c1, rfl, hd1, hn1, hc1, hb1⟩)
      | (go_at_call 37; refine (newInt_any _ _ _ _ _ _ hd1 hn1 hc1).mono ?_; rintro e w2 ⟨A2, n2, c2, rfl, hd2, hn2, hc2, hb2⟩; have O2 := ((Own.new _ _ _ _).below hb1).below hb2; obtain ⟨q0, q1, q2, q3⟩ := O2.facts))
    rw [val_digs, zOf_false] at hd2
    refine bodyPost_ret (v := .agg #[.bool (decide ((m : Int) < 0)), .slice A2 n2 c2]) (by simp [results, Try.results12, go_sem, q0, q1, q2, q3, val_digs, zOf_false]) rfl
      (RetZ.store_ O2 (Nat.le_refl _) rfl hd2 hn2 hc2 (bcall (bnew _ _) (bcall hb1 hb2)) _ _)

set_option maxRecDepth 100000 in
theorem rtrim_any (A : Option Addr) (n c B : Nat) (ds : List Nat) (w : World) (h : Dgs w B A n ds) (hc : n ≤ c) (hm : c ≤ maxLen) :
    Calls Try.prog 79 #[.slice A n c] w fun e w' => e = .returned (.slice A (trimLen ds) c) ∧ w = w' := by
  unfold maxLen at hm
  have hl := h.len
  go_enter Try.func79, Try.ntmps79
  go_wp2
  go_loop [3] (fun i => ∃ k : Nat, k ≤ n ∧ i = .int .i64 k ∧ trimLen (ds.take k) = trimLen ds) (fun i => (intOf i).toNat)
  case atStart => exact ⟨n, Nat.le_refl _, rfl, by rw [List.take_of_length_le (by omega)]⟩
  case round =>
    obtain ⟨k, hk, rfl, ht⟩ := hrel
    have HT := Lib.hid ht; clear ht
    by_cases hk0 : k = 0
    · subst hk0
      go_wp2
      go_ret
      have ht := HT.out
      simp [trimLen] at ht
      exact ⟨by rw [← ht]; rfl, rfl⟩
    · obtain ⟨b, off, rfl, _, hcell⟩ := h.at_ (by omega)
      obtain ⟨j, rfl⟩ : ∃ j, k = j + 1 := ⟨k - 1, by omega⟩
      have hx : w.cell? ⟨b, off + j, none⟩ = some (.int .u32 (ds.getD j 0 : Nat)) := hcell j (by omega)
      obtain ⟨x, HX⟩ : ∃ x, Hid (x = ds.getD j 0) := ⟨_, rfl⟩
      rw [← HX.out] at hx
      clear hcell
      by_cases hz : x = 0
      · subst hz
        go_wp2
        go_round
        case rel => exact ⟨j, by omega, rfl, by rw [← HT.out]; exact (trimLen_take_zero (by omega) HX.out.symm).symm⟩
        case measure => simp [intOf]
      · go_wp2
        go_ret
        have e : trimLen ds = j + 1 := by rw [← HT.out]; exact trimLen_take_pos (by omega) (by rw [← HX.out]; exact hz)
        exact ⟨by rw [e]; rfl, rfl⟩

/-- The digits after the leading zeros are cut off, the capacity left as it is. -/
def RetR (w : World) (B : Nat) (A : Option Addr) (v n c : Nat) (e : Ending) (w' : World) : Prop :=
  ∃ t, e = .returned (.slice A t c) ∧ Dgs w B A t (digs v) ∧ t ≤ n ∧ w = w'

theorem rtrim_ret (A : Option Addr) (n c B : Nat) (ds : List Nat) (w : World) (h : Dgs w B A n ds) (hc : n ≤ c) (hm : c ≤ maxLen) :
    Calls Try.prog 79 #[.slice A n c] w (RetR w B A (val ds) n c) :=
  (rtrim_any A n c B ds w h hc hm).mono fun e w' ⟨he, hw⟩ => ⟨trimLen ds, he, by rw [← take_trimLen h.dig]; exact h.take (by rw [← h.len]; exact trimLen_le ds), by rw [← h.len]; exact trimLen_le ds, hw⟩

theorem u32_info : (Try.prog.info? 69).map (fun i => (i.zero, i.size, i.bytes)) = some (some (.int .u32 0), 1, 4) := by kernel_rfl

/-- Cells that read as digits. -/
def dcells (ds : List Nat) : List Value := ds.map fun d => Value.int .u32 (d : Nat)
theorem dcells_get {ds : List Nat} {j : Nat} {u : Value} (h : (dcells ds)[j]? = some u) : j < ds.length ∧ u = .int .u32 (ds.getD j 0 : Nat) := by
  unfold dcells at h
  rw [List.getElem?_map] at h
  rcases hj : ds[j]? with _ | d
  · rw [hj] at h; cases h
  · rw [hj] at h
    have hlt := (List.getElem?_eq_some_iff.1 hj).1
    simp only [Option.map_some, Option.some.injEq] at h
    exact ⟨hlt, by rw [← h]; simp [List.getD, hj]⟩
theorem dcells_one (ds : List Nat) : ∀ u ∈ dcells ds, u.oneCell' = true := by
  intro u hu
  obtain ⟨_, _, rfl⟩ := List.mem_map.1 hu
  rfl
theorem dcells_length (ds : List Nat) : (dcells ds).length = ds.length := by simp [dcells]

theorem World.ownsRow.le {w : World} {base : Nat} {e : TypeId} {size : Nat} {A : Option Addr} {n c : Nat} {xs : List Value} (h : World.ownsRow w base e size (.slice A n c) n xs) : n ≤ c ∧ c ≤ maxLen := by
  rcases h.2 with ⟨hv, hn⟩ | ⟨g, cap, cur, hv, _, _, h1, h2, _⟩
  · injection hv with _ _ hc; subst hn hc; exact ⟨Nat.le_refl _, by unfold maxLen; omega⟩
  · injection hv with _ _ hc; subst hc; exact ⟨h1, h2⟩

/-- What the call owns reads as digits. -/
theorem Dgs.of_own {w : World} {base n : Nat} {A : Option Addr} {c : Nat} {ds : List Nat} (h : World.ownsRow w base 69 1 (.slice A n c) n (dcells ds)) (hd : Dig ds) : Dgs w w.heap.size A n ds := by
  have hl : ds.length = n := by have := h.1; rw [dcells_length] at this; omega
  refine ⟨hl, hd, fun hn => ?_⟩
  obtain ⟨g, cap, hv, _, hlt⟩ := World.ownsRow.form h hn
  have hA : A = some ⟨g, 0, none⟩ := by injection hv
  subst hA
  refine ⟨g, 0, rfl, hlt, fun j hj => ?_⟩
  have := World.ownsRow.cells h (g := g) rfl j (.int .u32 (ds.getD j 0 : Nat)) (by unfold dcells; simp [List.getD, show j < ds.length by omega])
  rw [Addr.add_lit] at this
  exact this

theorem Own.grown {w w' : World} {g : Nat} {t : TypeId} {v0 v1 : Value} {row : Option Nat} (h : Own w g t v0 v1) (hb : w.grownBy w' row) (hg : some g ≠ row) : Own w' g t v0 v1 := (hb.block g h.lt hg).trans h

theorem Dgs.news {w : World} {B n b off : Nat} {ds : List Nat} (h : Dgs w B (some ⟨b, off, none⟩) n ds) : ∀ j u, (dcells ds)[j]? = some u → w.cell? ((⟨b, off, none⟩ : Addr).add j) = some u := by
  intro j u hu
  obtain ⟨hj, rfl⟩ := dcells_get hu
  obtain ⟨b', off', e, _, hc⟩ := h.at_ (by rw [← h.len]; omega)
  injection e with e
  injection e with e1 e2
  subst e1 e2
  rw [Addr.add_lit]
  exact hc j (by rw [← h.len]; exact hj)

theorem digs_pos_len {v : Nat} (h : v ≠ 0) : 0 < (digs v).length := by
  rcases Nat.eq_zero_or_pos (digs v).length with h0 | h0
  · exact absurd (digs_nil h0) h
  · exact h0

set_option maxRecDepth 100000 in
theorem make_any (neg : Bool) (A : Option Addr) (n c : Nat) (ds : List Nat) (w : World) (h : Dgs w w.heap.size A n ds) (hc : n ≤ c) (hm : c ≤ maxLen) (hs : n ≤ 1000000) :
    Calls Try.prog 78 #[.bool neg, .slice A n c] w (RetZ w (zOf neg (val ds))) := by
  obtain ⟨i0, hi, hz0, hz1, hz2⟩ := info_parts u32_info
  by_cases hv : val ds = 0
  · go_enter Try.func78, Try.ntmps78
    go_wp2_with (go_at_call 79; refine (rtrim_ret A n c _ ds _ (h.alloc (Nat.le_refl _) _) hc hm).mono ?_; rintro e w' ⟨t, rfl, hd, ht, rfl⟩; obtain rfl : t = 0 := by (have := hd.len; rw [hv, digs_zero] at this; exact this.symm))
    refine bodyPost_ret (v := .agg #[.bool false, .slice none 0 0]) (by simp [results, Try.results78, go_sem]) rfl (RetZ.mk_ ?_ ?_ (Nat.le_refl _) (Nat.zero_le _) (bnew _ _))
    · rw [hv]; cases neg <;> rfl
    · rw [hv]; cases neg <;> (simp [zOf, digs_zero]; exact Dgs.none_)
  · have HP := digs_pos_len hv
    obtain ⟨N, HN⟩ : ∃ N, Hid (N = val ds) := ⟨_, rfl⟩
    have HV := Lib.hid hv
    rw [← HN.out] at HP
    clear hv
    go_enter Try.func78, Try.ntmps78
    go_wp2_with (first
      | (go_at_call 79; refine (rtrim_ret A n c _ ds _ (h.alloc (Nat.le_refl _) _) hc hm).mono ?_; rintro e w' ⟨t, rfl, hd, ht, rfl⟩; rw [← HN.out] at hd; obtain ⟨k, rfl⟩ : ∃ k, t = k + 1 := ⟨t - 1, by have := hd.len; omega⟩; obtain ⟨b, off, rfl, hbb, hcell⟩ := hd.at_ (Nat.succ_pos _); clear hcell)
      | (at_builtin; refine wpList_append_lies _ rfl _ _ 22 rfl w.heap.size 69 i0 (.int .u32 0) 1 4 Try.underlying22 hi hz0 hz1 hz2 rfl (by omega) (.slice none 0 0) 0 [] (by rfl) (World.ownsRow_nil _ _ _ _) ⟨b, off, none⟩ (k + 1) c (dcells (digs N)) (by rfl) (by rw [dcells_length, hd.len]; omega) hd.news (dcells_one _) (Nat.succ_pos _) (by unfold maxLen; omega) (by omega) (by simp) _ rfl ?_; intro g cap w1 hown hg hat hlt; simp only [Nat.zero_add, List.nil_append] at hown; have O1 := (Own.new w 24 (.bool false) (.slice none 0 0)).grown hg (by simp [Value.ownBlock]); obtain ⟨q0, q1, q2, q3⟩ := O1.facts))
    have hd1 := Dgs.of_own hown hd.dig
    refine bodyPost_ret (v := .agg #[.bool neg, .slice (some ⟨g, 0, none⟩) (k + 1) cap]) (by simp [results, Try.results78, go_sem, q0, q1, q2, q3]) rfl
      (RetZ.store_ O1 (Nat.le_refl _) (zOf_neg HV.out).symm (by rw [zOf_natAbs, ← HN.out]; exact hd1) ?_ ?_ ((bnew _ _).grown hg (by simp) (fun k hk => by simp [Value.ownBlock] at hk)) _ _)
    · exact (World.ownsRow.le hown).1
    · exact (World.ownsRow.le hown).2
end Go.Proofs.Ytgjkgmlcfieodaa

