/-
  Continued fractions; a row of integers that a call builds.
-/
import Derived.Test.YtgjkgmlcfieodaaTfA
import Derived.Test.YtgjkgmlcfieodaaOwnP
import Derived.Test.YtgjkgmlcfieodaaFrcC
set_option linter.unusedVariables false
set_option linter.unusedSimpArgs false
namespace Go.Proofs.Ytgjkgmlcfieodaa

/-- The value of a continued fraction. -/
def cfrac : List Int → Int × Int
  | [] => (1, 0)
  | t :: l => (t * (cfrac l).1 + (cfrac l).2, (cfrac l).1)
/-- The terms of the simplest fraction. -/
def terms : Nat → Int → Int → Int → Int → List Int
  | 0, _, _, _, _ => []
  | k + 1, a, b, c, d => if cei a b * d ≤ c then [cei a b] else (a / b) :: terms k d (c % d) b (a % b)
theorem terms_stop {k : Nat} {a b c d : Int} (h : cei a b * d ≤ c) : terms (k + 1) a b c d = [cei a b] := by unfold terms; rw [if_pos h]
theorem terms_go {k : Nat} {a b c d : Int} (h : ¬ cei a b * d ≤ c) : terms (k + 1) a b c d = (a / b) :: terms k d (c % d) b (a % b) := by
  rw [terms.eq_def]; simp only; rw [if_neg h]
theorem terms_val : ∀ (k : Nat) (a b c d : Int), Pos4 a b c d → b + d ≤ k → cfrac (terms k a b c d) = simpl k a b c d
  | 0, a, b, c, d, h, hk => by have := h.pb; have := h.pd; omega
  | k + 1, a, b, c, d, h, hk => by
    unfold simpl
    by_cases hm : cei a b * d ≤ c
    · rw [if_pos hm, terms_stop hm]; simp [cfrac]
    · rw [if_neg hm, terms_go hm]
      obtain ⟨f1, f2, f3, f4, f5, _⟩ := floors h hm
      have ih := terms_val k d (c % d) b (a % b) (h.step hm) (by omega)
      unfold cfrac
      rw [ih]
theorem half_mod {b r : Int} (h0 : 0 < r) (h1 : r < b) : 2 * (b % r) < b := by
  have e := Int.mul_ediv_add_emod b r
  have u0 := Int.emod_nonneg b (show r ≠ 0 by omega)
  have u1 := Int.emod_lt_of_pos b h0
  have hq : 1 ≤ b / r := Int.le_ediv_of_mul_le h0 (by omega)
  have := Int.mul_le_mul_of_nonneg_left hq (show (0 : Int) ≤ r by omega)
  omega
theorem terms_len : ∀ (j k : Nat) (a b c d : Int), Pos4 a b c d → b < 2 ^ j → (terms k a b c d).length ≤ 2 * j
  | 0, k, a, b, c, d, h, hb => by have := h.pb; simp at hb; omega
  | j + 1, k, a, b, c, d, h, hb => by
    match k with
    | 0 => simp [terms]
    | k + 1 =>
      by_cases hm : cei a b * d ≤ c
      · rw [terms_stop hm]; simp only [List.length_singleton]; omega
      · rw [terms_go hm]
        obtain ⟨f1, f2, f3, f4, f5, _⟩ := floors h hm
        have h2 := h.step hm
        match k with
        | 0 => simp only [terms, List.length_singleton]; omega
        | k + 1 =>
          by_cases hm2 : cei d (c % d) * (a % b) ≤ b
          · rw [terms_stop hm2]; simp only [List.length_cons, List.length_nil]; omega
          · rw [terms_go hm2]
            have h3 := half_mod f2 f3
            have h4 : b % (a % b) < 2 ^ j := by rw [Int.pow_succ] at hb; omega
            have := terms_len j k _ _ _ _ (h2.step hm2) h4
            simp only [List.length_cons]
            omega
theorem terms_nn : ∀ (k : Nat) (a b c d : Int), Pos4 a b c d → ∀ t ∈ terms k a b c d, 0 ≤ t
  | 0, a, b, c, d, h => by intro t ht; simp [terms] at ht
  | k + 1, a, b, c, d, h => by
    intro t ht
    by_cases hm : cei a b * d ≤ c
    · rw [terms_stop hm] at ht
      rw [List.mem_singleton.1 ht]
      have := cei_pos h.pa h.pb
      omega
    · rw [terms_go hm] at ht
      obtain ⟨f1, f2, f3, f4, f5, f6, _⟩ := floors h hm
      rcases List.mem_cons.1 ht with rfl | ht
      · exact f6
      · exact terms_nn k _ _ _ _ (h.step hm) t ht
theorem cf_nn : ∀ (l : List Int), (∀ t ∈ l, 0 ≤ t) → 0 ≤ (cfrac l).1 ∧ 0 ≤ (cfrac l).2
  | [], _ => ⟨by decide, by decide⟩
  | t :: l, h => by
    have ih := cf_nn l fun u hu => h u (by simp [hu])
    have := Int.mul_nonneg (h t (by simp)) ih.1
    exact ⟨by show 0 ≤ t * (cfrac l).1 + (cfrac l).2; omega, ih.1⟩
/-- What lies behind is no greater than the whole. -/
theorem cf_drop : ∀ (k : Nat) (l : List Int) (M : Int), (∀ t ∈ l, 0 ≤ t) → 1 ≤ M → (cfrac l).1 ≤ M → (cfrac l).2 ≤ M → (cfrac (l.drop k)).1 ≤ M ∧ (cfrac (l.drop k)).2 ≤ M
  | 0, l, M, _, _, h1, h2 => by simpa using ⟨h1, h2⟩
  | k + 1, [], M, _, hM, _, _ => by simp [cfrac]; omega
  | k + 1, t :: l, M, h, hM, h1, h2 => by
    have hl : ∀ u ∈ l, 0 ≤ u := fun u hu => h u (by simp [hu])
    have nn := cf_nn l hl
    have h3 := Int.mul_nonneg (h t (by simp)) nn.1
    have h1' : t * (cfrac l).1 + (cfrac l).2 ≤ M := h1
    have h2' : (cfrac l).1 ≤ M := h2
    rw [List.drop_succ_cons]
    exact cf_drop k l M hl hM h2' (by omega)
/-- A term is no greater than the whole. -/
theorem cf_term {l : List Int} {k : Nat} {t M : Int} (h : ∀ t ∈ l, 0 ≤ t) (hM : 1 ≤ M) (h1 : (cfrac l).1 ≤ M) (h2 : (cfrac l).2 ≤ M) (hk : l[k]? = some t) : cfrac (l.drop k) = (t * (cfrac (l.drop (k + 1))).1 + (cfrac (l.drop (k + 1))).2, (cfrac (l.drop (k + 1))).1) := by
  have hlt : k < l.length := by
    rcases Nat.lt_or_ge k l.length with h | h
    · exact h
    · rw [List.getElem?_eq_none h] at hk; cases hk
  rw [List.drop_eq_getElem_cons hlt]
  have : l[k] = t := by rw [List.getElem?_eq_getElem hlt] at hk; exact Option.some.inj hk
  rw [this]; rfl

section
open Go.RowKit
/-- An integer in a list: its cells and its value. -/
structure TE where
  (s : Bool) (A : Option Addr) (n c : Nat) (z : Int)
def TE.At (w : World) (e : TE) : Prop := CanAt w e.s e.A e.n e.c e.z
def TE.cells (e : TE) : List Value := [.bool e.s, .slice e.A e.n e.c]
def TE.In (w : World) (g o : Nat) (e : TE) : Prop := w.cell? ⟨g, o, none⟩ = some (.bool e.s) ∧ w.cell? ⟨g, o + 1, none⟩ = some (.slice e.A e.n e.c)
def flatT : List TE → List Value
  | [] => []
  | e :: l => e.cells ++ flatT l
theorem flatT_snoc : ∀ (l : List TE) (e : TE), flatT (l ++ [e]) = flatT l ++ e.cells
  | [], e => by simp [flatT]
  | a :: l, e => by show a.cells ++ flatT (l ++ [e]) = _; rw [flatT_snoc l e, flatT, List.append_assoc]
theorem flatT_get : ∀ (l : List TE) (k i : Nat) (e : TE), l[k]? = some e → i < 2 → (flatT l)[k * 2 + i]? = e.cells[i]?
  | [], k, i, e, h, _ => by simp at h
  | a :: l, 0, i, e, h, hi => by
    simp only [List.getElem?_cons_zero, Option.some.injEq] at h
    subst h
    rw [flatT, List.getElem?_append_left (by simp [TE.cells]; omega)]
    simp
  | a :: l, k + 1, i, e, h, hi => by
    rw [List.getElem?_cons_succ] at h
    have ih := flatT_get l k i e h hi
    rw [flatT, List.getElem?_append_right (by simp [TE.cells]; omega)]
    rw [← ih]
    congr 1
    simp [TE.cells]; omega
/-- A slice that reads as a list of integers. -/
def TL (w : World) (A : Option Addr) (l : List TE) : Prop :=
  (∀ e ∈ l, TE.At w e) ∧ (0 < l.length → ∃ g o, A = some ⟨g, o, none⟩ ∧ g < w.heap.size ∧ ∀ k e, l[k]? = some e → TE.In w g (o + k * 2) e)
theorem TE.In.call {w w' : World} {g o : Nat} {e : TE} (h : TE.In w g o e) (hg : g < w.heap.size) (hb : Below w.heap.size w w') : TE.In w' g o e := by
  have hc := (bcell hb).1
  exact ⟨(hc g _ hg).trans h.1, (hc g _ hg).trans h.2⟩
theorem TL.call {w w' : World} {A : Option Addr} {l : List TE} (h : TL w A l) (hb : Below w.heap.size w w') : TL w' A l := by
  refine ⟨fun e he => CanAt.call (h.1 e he) hb, fun hl => ?_⟩
  obtain ⟨g, o, e1, e2, e4⟩ := h.2 hl
  exact ⟨g, o, e1, Nat.lt_of_lt_of_le e2 hb.size, fun k e hk => (e4 k e hk).call e2 hb⟩
/-- A list of integers that a call builds. -/
def TG (w0 w : World) (v : Value) (l : List TE) : Prop :=
  PRow w w0.heap.size 24 2 v l.length (flatT l) ∧ (∀ e ∈ l, TE.At w e) ∧ Below w0.heap.size w0 w
theorem TG.call {w0 w w' : World} {v : Value} {l : List TE} (h : TG w0 w v l) (hb : Below w.heap.size w w') : TG w0 w' v l :=
  ⟨h.1.call hb, fun x hx => CanAt.call (h.2.1 x hx) hb, bcall h.2.2 hb⟩
theorem TG.nil {w0 w : World} (h : Below w0.heap.size w0 w) : TG w0 w (.slice none 0 0) [] := ⟨PRow.nil _ _ _ _, fun x hx => (by cases hx), h⟩
theorem TG.snoc {w0 w w' : World} {v v' : Value} {l : List TE} {x : TE} (h : TG w0 w v l) (hx : TE.At w x) (hp : PRow w' w0.heap.size 24 2 v' (l.length + 1) (flatT l ++ [.bool x.s, .slice x.A x.n x.c]))
    (hg : w.grownBy w' v.ownBlock) : TG w0 w' v' (l ++ [x]) := by
  refine ⟨?_, fun y hy => ?_, Below.grown h.2.2 hg h.2.2.size (fun j hj => (h.1.1.lt _ hj).1)⟩
  · rw [flatT_snoc, List.length_append]
    exact hp
  · rcases List.mem_append.1 hy with hy | hy
    · exact CanAt.grown (h.2.1 y hy) h.1 hg
    · rw [List.mem_singleton.1 hy]; exact CanAt.grown hx h.1 hg
theorem TG.tl {w0 w : World} {v : Value} {l : List TE} (h : TG w0 w v l) : ∃ A c, v = .slice A l.length c ∧ TL w A l := by
  obtain ⟨hown, hall, _⟩ := h
  have hown := hown.1
  rcases Nat.eq_zero_or_pos l.length with h0 | h0
  · rcases hown.2 with ⟨rfl, _⟩ | ⟨g, cap, cur, rfl, _⟩
    · exact ⟨none, 0, by rw [h0], hall, fun h => by omega⟩
    · exact ⟨_, cap, rfl, hall, fun h => by omega⟩
  · rcases hown.2 with ⟨_, hz⟩ | ⟨g, cap, cur, rfl, hg, hb, _⟩
    · omega
    · refine ⟨_, cap, rfl, hall, fun _ => ⟨g, 0, rfl, ?_, fun k e hk => ?_⟩⟩
      · rcases Nat.lt_or_ge g w.heap.size with h | h
        · exact h
        · rw [Array.getElem?_eq_none h] at hb; cases hb
      · have hkl : k < l.length := by
          rcases Nat.lt_or_ge k l.length with h | h
          · exact h
          · rw [List.getElem?_eq_none h] at hk; cases hk
        have hc : ∀ i, i < 2 → w.cell? ⟨g, k * 2 + i, none⟩ = e.cells[i]? := fun i hi => (hown.cellAt (k * 2 + i) (by omega)).trans (flatT_get l k i e hk hi)
        have c0 := hc 0 (by omega)
        have c1 := hc 1 (by omega)
        rw [Nat.zero_add]
        exact ⟨c0, c1⟩
theorem int_plain (s : Bool) (A : Option Addr) (n c : Nat) : Plains [.bool s, .slice A n c] := Plains.two s A n c
theorem cell_two_new (w : World) (a b : Value) (t : TypeId) : ∀ j u, [a, b][j]? = some u → (w.alloc (.cells #[a, b] t)).cell? ((⟨w.heap.size, 0, none⟩ : Addr).add j) = some u := by
  intro j u hj
  have hh := Go.Deep.blk_alloc_new w (.cells #[a, b] t)
  match j, hj with
  | 0, hj => simp at hj; subst hj; simp [Addr.add]
  | 1, hj => simp at hj; subst hj; simp [Addr.add]
  | j + 2, hj => simp at hj
end
end Go.Proofs.Ytgjkgmlcfieodaa

