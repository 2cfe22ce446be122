/-
  Lists of canonical fractions and of canonical entries in memory; what At, FromDense and ToDense answer.
-/
import Derived.Test.YtjbmaoplcbhgfaaGreatVecA
set_option linter.unusedVariables false
set_option linter.unusedSimpArgs false
namespace Go.Proofs.YtjbmaoplcbhgfaaGreat
open Go.RowKit

/-- A canonical fraction. -/
def FE.C (w : World) (e : FE) : Prop := CanAt w e.s e.A e.n e.c e.a ∧ CanAt w e.t e.B e.m e.d e.b
theorem FE.C.call {w w' : World} {e : FE} (h : FE.C w e) (hb : Below w.heap.size w w') : FE.C w' e := ⟨h.1.call hb, h.2.call hb⟩
theorem FE.C.setV {w : World} {e : FE} {g : Nat} {t : TypeId} {vs : List Value} (h : FE.C w e) (ho : OwnL w g t vs) (hp : Plains vs) (j : Nat) (u : Value) : FE.C (w.setCell ⟨g, j, none⟩ u) e :=
  ⟨((Ent.mk_ h.1).setV ho hp j u).c, ((Ent.mk_ h.2).setV ho hp j u).c⟩
theorem FE.At.setV {w : World} {e : FE} {g : Nat} {t : TypeId} {vs : List Value} (h : FE.At w e) (ho : OwnL w g t vs) (hp : Plains vs) (j : Nat) (u : Value) : FE.At (w.setCell ⟨g, j, none⟩ u) e :=
  ⟨((Ent.mkI h.1).setV ho hp j u).i, ((Ent.mkI h.2).setV ho hp j u).i⟩
theorem FE.C.at_ {w : World} {e : FE} {K : Nat} (h : FE.C w e) (hS : FE.S K e) (hK : K ≤ 1000000 := by decide) : FE.At w e := ⟨h.1.at_ (hS.1.ok hK), h.2.at_ (hS.2.ok hK)⟩
/-- What an entry reads as. -/
def FE.v (e : FE) : Int × Int := (e.a, e.b)
def VE.v (x : VE) : Int × Int × Int := (x.k, x.e.a, x.e.b)
/-- A slice that reads as a list of canonical fractions; as a canonical vector. -/
def FC (w : World) (A : Option Addr) (l : List FE) : Prop :=
  (∀ e ∈ l, FE.C w e) ∧ (0 < l.length → ∃ g o, A = some ⟨g, o, none⟩ ∧ g < w.heap.size ∧ ∀ k e, l[k]? = some e → FE.In w g (o + k * 4) e)
def VC (w : World) (A : Option Addr) (l : List VE) : Prop :=
  (∀ x ∈ l, FE.C w x.e) ∧ (0 < l.length → ∃ g o, A = some ⟨g, o, none⟩ ∧ g < w.heap.size ∧ ∀ k x, l[k]? = some x → VE.In w g (o + k * 5) x)
theorem FC.call {w w' : World} {A : Option Addr} {l : List FE} (h : FC w A l) (hb : Below w.heap.size w w') : FC w' A l := by
  refine ⟨fun e he => (h.1 e he).call hb, fun hl => ?_⟩
  obtain ⟨g, o, e1, e2, e4⟩ := h.2 hl
  exact ⟨g, o, e1, Nat.lt_of_lt_of_le e2 hb.size, fun k e hk => (e4 k e hk).call e2 hb⟩
theorem VC.call {w w' : World} {A : Option Addr} {l : List VE} (h : VC w A l) (hb : Below w.heap.size w w') : VC w' A l := by
  refine ⟨fun e he => (h.1 e he).call hb, fun hl => ?_⟩
  obtain ⟨g, o, e1, e2, e4⟩ := h.2 hl
  exact ⟨g, o, e1, Nat.lt_of_lt_of_le e2 hb.size, fun k e hk => (e4 k e hk).call e2 hb⟩
theorem FC.fl {w : World} {A : Option Addr} {l : List FE} {K : Nat} (h : FC w A l) (hS : ∀ e ∈ l, FE.S K e) (hK : K ≤ 1000000 := by decide) : FL w A l := ⟨fun e he => (h.1 e he).at_ (hS e he) hK, h.2⟩
theorem VC.vl {w : World} {A : Option Addr} {l : List VE} {K : Nat} (h : VC w A l) (hS : ∀ x ∈ l, FE.S K x.e) (hK : K ≤ 1000000 := by decide) : VL w A l := ⟨fun e he => (h.1 e he).at_ (hS e he) hK, h.2⟩
/-- A canonical vector, a list of canonical fractions are returned, with an error. -/
def RetV (w : World) (vals : List (Int × Int × Int)) (er : Int) (e : Ending) (w' : World) : Prop :=
  ∃ A c l, e = .returned (.tuple #[.slice A l.length c, .int .i64 er]) ∧ l.map VE.v = vals ∧ VC w' A l ∧ Below w.heap.size w w'
def RetFL (w : World) (vals : List (Int × Int)) (er : Int) (e : Ending) (w' : World) : Prop :=
  ∃ A c l, e = .returned (.tuple #[.slice A l.length c, .int .i64 er]) ∧ l.map FE.v = vals ∧ FC w' A l ∧ Below w.heap.size w w'

/-- The cells of entries. -/
def VE.cells (x : VE) : List Value := .int .i64 x.k :: x.e.cells
def flatE (l : List VE) : List Value := l.flatMap VE.cells
theorem flatE_snoc (l : List VE) (x : VE) : flatE (l ++ [x]) = flatE l ++ x.cells := by unfold flatE; simp
theorem flatE_get (l : List VE) (k i : Nat) (x : VE) (h : l[k]? = some x) (hi : i < 5) : (flatE l)[k * 5 + i]? = x.cells[i]? := by
  induction l generalizing k with
  | nil => simp at h
  | cons f l ih =>
    unfold flatE at *
    rw [List.flatMap_cons]
    have h4 : f.cells.length = 5 := rfl
    cases k with
    | zero =>
      simp only [List.getElem?_cons_zero, Option.some.injEq] at h
      subst h
      rw [List.getElem?_append_left (by rw [h4]; omega), Nat.zero_mul, Nat.zero_add]
    | succ k =>
      rw [List.getElem?_cons_succ] at h
      rw [List.getElem?_append_right (by rw [h4]; omega), h4, show (k + 1) * 5 + i - 5 = k * 5 + i by omega]
      exact ih k h
/-- An owned row of entries reads as their list. -/
theorem own_VE {B : Nat} {wr : World} {v : Value} {l : List VE} (hown : wr.ownsRow B 49 5 v l.length (flatE l)) :
    ∃ A c, v = .slice A l.length c ∧ (0 < l.length → ∃ g o, A = some ⟨g, o, none⟩ ∧ g < wr.heap.size ∧ ∀ k x, l[k]? = some x → VE.In wr g (o + k * 5) x) := by
  rcases Nat.eq_zero_or_pos l.length with h0 | h0
  · rcases hown.2 with ⟨rfl, _⟩ | ⟨g, cap, cur, rfl, _⟩
    · exact ⟨none, 0, by rw [h0], fun h => by omega⟩
    · exact ⟨_, cap, rfl, fun h => by omega⟩
  · rcases hown.2 with ⟨_, hz⟩ | ⟨g, cap, cur, rfl, hg, hb, _⟩
    · omega
    · refine ⟨_, cap, rfl, fun _ => ⟨g, 0, rfl, ?_, fun k e hk => ?_⟩⟩
      · rcases Nat.lt_or_ge g wr.heap.size with h | h
        · exact h
        · rw [Array.getElem?_eq_none h] at hb; cases hb
      · have hkl : k < l.length := by
          rcases Nat.lt_or_ge k l.length with h | h
          · exact h
          · rw [List.getElem?_eq_none h] at hk; cases hk
        have hc : ∀ i, i < 5 → wr.cell? ⟨g, k * 5 + i, none⟩ = e.cells[i]? := fun i hi => (hown.cellAt (k * 5 + i) (by omega)).trans (flatE_get l k i e hk hi)
        have c0 := hc 0 (by omega)
        have c1 := hc 1 (by omega)
        have c2 := hc 2 (by omega)
        have c3 := hc 3 (by omega)
        have c4 := hc 4 (by omega)
        rw [Nat.zero_add]
        exact ⟨c0, c1, c2, c3, c4⟩
theorem own_VC {B : Nat} {wr : World} {v : Value} {l : List VE} (hown : wr.ownsRow B 49 5 v l.length (flatE l)) (hall : ∀ x ∈ l, FE.C wr x.e) :
    ∃ A c, v = .slice A l.length c ∧ VC wr A l := by
  obtain ⟨A, c, e, h⟩ := own_VE hown
  exact ⟨A, c, e, hall, h⟩
theorem cell_five_new (w : World) (a b c d f : Value) (t : TypeId) : ∀ j u, [a, b, c, d, f][j]? = some u → (w.alloc (.cells #[a, b, c, d, f] t)).cell? ((⟨w.heap.size, 0, none⟩ : Addr).add j) = some u := by
  intro j u hj
  have hh := Go.Deep.blk_alloc_new w (.cells #[a, b, c, d, f] t)
  match j, hj with
  | 0, hj => simp at hj; subst hj; simp [Addr.add]
  | 1, hj => simp at hj; subst hj; simp [Addr.add]
  | 2, hj => simp at hj; subst hj; simp [Addr.add]
  | 3, hj => simp at hj; subst hj; simp [Addr.add]
  | 4, hj => simp at hj; subst hj; simp [Addr.add]
  | (j + 5), hj => simp at hj
theorem entry_info : (Tryz.prog.info? 49).map (fun i => (i.zero, i.size, i.bytes)) = some (some (.agg #[.int .i64 0, .bool false, .slice none 0 0, .bool false, .slice none 0 0]), 5, 72) := by kernel_rfl

/-- What At answers. -/
def atV : List VE → Int → Int × Int
  | [], _ => (0, 1)
  | x :: l, i => if x.k = i then (rn x.e.a x.e.b, rd x.e.a x.e.b) else atV l i
/-- What FromDense answers. -/
def fdV : Int → List FE → List (Int × Int × Int)
  | _, [] => []
  | i, e :: l => (if sgn e.a * sgn e.b = 0 then [] else [(i, rn e.a e.b, rd e.a e.b)]) ++ fdV (i + 1) l
theorem fdV_snoc (i : Int) (l : List FE) (e : FE) : fdV i (l ++ [e]) = fdV i l ++ (if sgn e.a * sgn e.b = 0 then [] else [(i + l.length, rn e.a e.b, rd e.a e.b)]) := by
  induction l generalizing i with
  | nil => simp [fdV]
  | cons f l ih =>
    rw [List.cons_append]
    unfold fdV
    rw [ih, List.append_assoc, List.length_cons]
    have : i + 1 + (l.length : Int) = i + ((l.length + 1 : Nat) : Int) := by omega
    rw [this]
theorem fdV_take {l : List FE} {k : Nat} {e : FE} (h : l[k]? = some e) : fdV 0 (l.take (k + 1)) = fdV 0 (l.take k) ++ (if sgn e.a * sgn e.b = 0 then [] else [((k : Int), rn e.a e.b, rd e.a e.b)]) := by
  obtain ⟨hk, rfl⟩ := List.getElem?_eq_some_iff.1 h
  have hts : l.take (k + 1) = l.take k ++ [l[k]] := by rw [List.take_add_one, h]; rfl
  rw [hts, fdV_snoc, List.length_take, Nat.min_eq_left (by omega), Int.zero_add]
theorem rn_zero_sgn (a b : Int) : rn a b = 0 ↔ sgn a * sgn b = 0 := by
  have h := sgn_rn a b
  constructor
  · intro h0; rw [h0] at h; rw [← h]; rfl
  · intro h0
    rw [h0] at h
    unfold sgn cmpI at h
    split at h
    · cases h
    · split at h
      · cases h
      · omega
end Go.Proofs.YtjbmaoplcbhgfaaGreat

