/-
  Sparse vectors of rational numbers: the reference's ways to the dot product and to a + k b; mathematics.
-/
import Derived.Test.YtjbmaoplcbhgfaaGreatSpLW
import Derived.Test.YtjbmaoplcbhgfaaGreatSpEW
set_option linter.unusedVariables false
set_option linter.unusedSimpArgs false
namespace Go.Proofs.YtjbmaoplcbhgfaaGreat
open Go.RowKit

/-- Valid vectors with the same elements are the same. -/
theorem okQ_ext {n : Int} : ∀ {l m : QV} {b : Int}, okQ n b l → okQ n b m → (∀ i, atQ l i = atQ m i) → l = m := by
  intro l
  induction l with
  | nil =>
    intro m b _ hm h
    cases m with
    | nil => rfl
    | cons y m =>
      have := h y.1
      unfold atQ at this
      rw [if_pos rfl] at this
      exact absurd this.symm hm.2.2.2.1
  | cons x l ih =>
    intro m b hl hm h
    cases m with
    | nil =>
      have := h x.1
      unfold atQ at this
      rw [if_pos rfl] at this
      exact absurd this hl.2.2.2.1
    | cons y m =>
      have e1 : ∀ i, atQ (x :: l) i = if x.1 = i then x.2 else atQ l i := fun _ => rfl
      have e2 : ∀ i, atQ (y :: m) i = if y.1 = i then y.2 else atQ m i := fun _ => rfl
      have hxy : x.1 = y.1 := by
        rcases Int.lt_trichotomy x.1 y.1 with hlt | he | hgt
        · have h1 := h x.1
          have h2 : atQ (y :: m) x.1 = 0 := okQ.far (n := n) (b := x.1) (l := y :: m) ⟨hlt, hm.2⟩ (by omega)
          rw [h2, e1, if_pos rfl] at h1
          exact absurd h1 hl.2.2.2.1
        · exact he
        · have h1 := h y.1
          have h2 : atQ (x :: l) y.1 = 0 := okQ.far (n := n) (b := y.1) (l := x :: l) ⟨hgt, hl.2⟩ (by omega)
          rw [h2, e2, if_pos rfl] at h1
          exact absurd h1.symm hm.2.2.2.1
      have hq : x.2 = y.2 := by
        have h1 := h x.1
        rw [e1, e2, if_pos rfl, if_pos hxy.symm] at h1
        exact h1
      have hm2 : okQ n x.1 m := by rw [hxy]; exact hm.2.2.2.2
      have ht := ih hl.2.2.2.2 hm2 fun i => by
        by_cases hi : x.1 = i
        · rw [hl.2.2.2.2.far (by omega), hm2.far (by omega)]
        · have h1 := h i
          rw [e1, e2, if_neg hi, if_neg (by omega)] at h1
          exact h1
      rw [ht, show x = y from Prod.ext hxy hq]
theorem okQ_take {n b : Int} {l : QV} (h : okQ n b l) (k : Nat) : okQ n b (l.take k) := by
  induction l generalizing b k with
  | nil => cases k <;> exact trivial
  | cons x l ih =>
    cases k with
    | zero => exact trivial
    | succ k => exact ⟨h.1, h.2.1, h.2.2.1, h.2.2.2.1, ih h.2.2.2.2 k⟩
/-- The next entry of a valid vector is new. -/
theorem atQ_take {n b : Int} {l : QV} (h : okQ n b l) {k : Nat} {x : Int × Rat} (hx : l[k]? = some x) (i : Int) : atQ (l.take (k + 1)) i = if x.1 = i then x.2 else atQ (l.take k) i := by
  induction l generalizing b k with
  | nil => cases hx
  | cons y l ih =>
    cases k with
    | zero =>
      simp only [List.getElem?_cons_zero, Option.some.injEq] at hx
      subst hx
      rfl
    | succ k =>
      rw [List.getElem?_cons_succ] at hx
      rw [List.take_succ_cons, List.take_succ_cons]
      have := ih h.2.2.2.2 hx
      have hm := (h.2.2.2.2.gt x (List.mem_of_getElem? hx)).1
      show (if y.1 = i then y.2 else atQ (l.take (k + 1)) i) = if x.1 = i then x.2 else (if y.1 = i then y.2 else atQ (l.take k) i)
      rw [this]
      by_cases h1 : y.1 = i
      · rw [if_pos h1, if_pos h1, if_neg (by omega)]
      · rw [if_neg h1, if_neg h1]
theorem atQ_take_new {n b : Int} {l : QV} (h : okQ n b l) {k : Nat} {x : Int × Rat} (hx : l[k]? = some x) : atQ (l.take k) x.1 = 0 := by
  induction l generalizing b k with
  | nil => cases hx
  | cons y l ih =>
    cases k with
    | zero => rfl
    | succ k =>
      rw [List.getElem?_cons_succ] at hx
      rw [List.take_succ_cons]
      have hm := (h.2.2.2.2.gt x (List.mem_of_getElem? hx)).1
      show (if y.1 = x.1 then y.2 else atQ (l.take k) x.1) = 0
      rw [if_neg (by omega)]
      exact ih h.2.2.2.2 hx
/-- The dot product grows by the product of the next entry. -/
theorem dotQ_take {n : Nat} {b : Int} {l m : QV} (h : okQ n b l) {k : Nat} {x : Int × Rat} (hx : l[k]? = some x) : dotQ n (l.take (k + 1)) m = dotQ n (l.take k) m + x.2 * atQ m x.1 := by
  have hg := h.gt x (List.mem_of_getElem? hx)
  obtain ⟨j, hj⟩ : ∃ j : Nat, x.1 = j := ⟨x.1.toNat, by omega⟩
  have key : dotQ n (l.take (k + 1)) m = rs n (fun i => atQ (l.take k) i * atQ m i) + 1 * rs n (fun i => if i = j then x.2 * atQ m x.1 else 0) := by
    refine rs_lin n _ _ _ 1 fun i => ?_
    rw [atQ_take h hx]
    by_cases hi : i = j
    · subst hi
      have h0 := atQ_take_new h hx
      rw [hj] at h0
      rw [if_pos hj, if_pos rfl, h0, hj]
      grind
    · rw [if_neg (by omega), if_neg hi]
      grind
  rw [key, rs_one n _ j (by omega) (fun i _ hi => if_neg hi), if_pos rfl]
  unfold dotQ
  grind
theorem dotQ_nil (n : Nat) (m : QV) : dotQ n [] m = 0 := rs_zero n _ fun i _ => by show (0 : Rat) * _ = 0; grind

/-! ### A dense list becomes a vector -/
def nd2 (q : Rat) : Int × Int := (q.num, (q.den : Int))
def lQ (N : Nat) (f : Nat → Rat) : QV := (List.range N).flatMap fun (i : Nat) => nz (i : Int) (f i)
theorem lQ_succ (N : Nat) (f : Nat → Rat) : lQ (N + 1) f = lQ N f ++ nz N (f N) := by
  unfold lQ
  rw [List.range_succ, List.flatMap_append]
  simp
theorem lQ_keys (N : Nat) (f : Nat → Rat) : ∀ x ∈ lQ N f, 0 ≤ x.1 ∧ x.1 < N := by
  intro x hx
  unfold lQ at hx
  obtain ⟨i, hi, h⟩ := List.mem_flatMap.1 hx
  have := List.mem_range.1 hi
  unfold nz at h
  split at h
  · cases h
  · rw [List.mem_singleton.1 h]
    show (0 : Int) ≤ (i : Int) ∧ (i : Int) < N
    omega
theorem okQ_snoc {n b : Int} {l : QV} {i : Int} {q : Rat} (h : okQ n b l) (hk : ∀ x ∈ l, x.1 < i) (hb : b < i) (h0 : 0 ≤ i) (hn : i < n) : okQ n b (l ++ nz i q) := by
  induction l generalizing b with
  | nil =>
    rw [List.nil_append]
    unfold nz
    split
    · exact trivial
    · rename_i hq
      exact ⟨hb, h0, hn, hq, trivial⟩
  | cons x l ih => exact ⟨h.1, h.2.1, h.2.2.1, h.2.2.2.1, ih h.2.2.2.2 (fun y hy => hk y (by simp [hy])) (hk x (by simp))⟩
theorem atQ_append {l m : QV} {i : Int} (h : atQ l i = 0 → ∀ x ∈ l, x.1 ≠ i) : atQ (l ++ m) i = if atQ l i = 0 then atQ m i else atQ l i := by
  induction l with
  | nil => rw [List.nil_append]; exact (if_pos (rfl : atQ [] i = 0)).symm
  | cons x l ih =>
    have e1 : ∀ i, atQ (x :: l) i = if x.1 = i then x.2 else atQ l i := fun _ => rfl
    have e2 : ∀ i, atQ (x :: l ++ m) i = if x.1 = i then x.2 else atQ (l ++ m) i := fun _ => rfl
    rw [e2, e1]
    by_cases hx : x.1 = i
    · rw [if_pos hx, if_pos hx]
      by_cases h0 : x.2 = 0
      · exact absurd hx (h (by rw [e1, if_pos hx]; exact h0) x (by simp))
      · rw [if_neg h0]
    · rw [if_neg hx, if_neg hx]
      exact ih fun h0 y hy => h (by rw [e1, if_neg hx]; exact h0) y (by simp [hy])
theorem lQ_at (N : Nat) (f : Nat → Rat) (i : Nat) (hi : i < N) : atQ (lQ N f) i = f i := by
  induction N with
  | zero => omega
  | succ N ih =>
    have hfar : ∀ (M : Nat), M ≤ i → atQ (lQ M f) i = 0 := fun M hM => atQ_far fun x hx => by have := (lQ_keys M f x hx).2; omega
    rw [lQ_succ]
    by_cases h : i = N
    · subst h
      have h0 := hfar i (Nat.le_refl _)
      rw [atQ_append (fun _ x hx => by have := (lQ_keys i f x hx).2; omega), if_pos h0]
      unfold nz
      split
      · rename_i hq; rw [hq]; rfl
      · show (if (i : Int) = i then f i else 0) = f i
        rw [if_pos rfl]
    · have hnz : atQ (nz (N : Int) (f N)) i = 0 := by
        unfold nz
        split
        · rfl
        · show (if (N : Int) = i then f N else 0) = 0
          rw [if_neg (by omega)]
      have ih' := ih (by omega)
      by_cases h0 : f i = 0
      · rw [h0]
        have hz : ∀ (l m : QV), atQ l i = 0 → atQ m i = 0 → atQ (l ++ m) i = 0 := by
          intro l m h1 h2
          induction l with
          | nil => exact h2
          | cons x l ihl =>
            have e1 : atQ (x :: l) i = if x.1 = (i : Int) then x.2 else atQ l i := rfl
            have e2 : atQ (x :: l ++ m) i = if x.1 = (i : Int) then x.2 else atQ (l ++ m) i := rfl
            rw [e1] at h1
            rw [e2]
            split
            · rename_i hx; rw [if_pos hx] at h1; exact h1
            · rename_i hx; rw [if_neg hx] at h1; exact ihl h1
        exact hz _ _ (ih'.trans h0) hnz
      · rw [atQ_append (fun h1 => absurd (ih'.symm.trans h1) h0), if_neg (by rw [ih']; exact h0)]
        exact ih'
theorem lQ_ok (N : Nat) (f : Nat → Rat) : okQ N (-1) (lQ N f) := by
  have : ∀ (M : Nat), M ≤ N → okQ N (-1) (lQ M f) := by
    intro M
    induction M with
    | zero => intro _; exact (trivial : okQ (N : Int) (-1) [])
    | succ M ih =>
      intro hM
      rw [lQ_succ]
      exact okQ_snoc (ih (by omega)) (fun x hx => (lQ_keys M f x hx).2) (by omega) (by omega) (by omega)
  exact this N (Nat.le_refl _)
theorem fdP_append (i : Int) (l m : List (Int × Int)) : fdP i (l ++ m) = fdP i l ++ fdP (i + l.length) m := by
  induction l generalizing i with
  | nil => rw [List.nil_append, List.length_nil]; show _ = [] ++ fdP (i + 0) m; rw [Int.add_zero, List.nil_append]
  | cons p l ih =>
    have e1 : ∀ (l : List (Int × Int)), fdP i (p :: l) = (if sgn p.1 * sgn p.2 = 0 then [] else [(i, rn p.1 p.2, rd p.1 p.2)]) ++ fdP (i + 1) l := fun _ => rfl
    have : i + 1 + (l.length : Int) = i + ((l.length + 1 : Nat) : Int) := by omega
    rw [List.cons_append, e1, e1, ih, List.append_assoc, List.length_cons, this]
theorem fdP_lQ (N : Nat) (f : Nat → Rat) : fdP 0 ((List.range N).map fun i => nd2 (f i)) = (lQ N f).map nd := by
  induction N with
  | zero => rfl
  | succ N ih =>
    rw [List.range_succ, List.map_append, fdP_append, ih, lQ_succ, List.map_append]
    congr 1
    rw [List.length_map, List.length_range, Int.zero_add]
    show (if sgn (f N).num * sgn ((f N).den : Int) = 0 then [] else [((N : Int), rn (f N).num (f N).den, rd (f N).num (f N).den)]) ++ [] = _
    rw [List.append_nil, nz_nd, (rn_q _ _).1, (rn_q _ _).2, qv_nd]
    by_cases h : f N = 0
    · rw [if_pos ((sgn_nd _).2 h), if_pos (Rat.num_eq_zero.2 h)]
    · rw [if_neg (fun h' => h ((sgn_nd _).1 h')), if_neg (fun h' => h (Rat.num_eq_zero.1 h'))]
/-- The reference's dense way to a + k b gives the same vector as the program's merge. -/
theorem dense_add {N : Nat} {k : Rat} {a b : QV} {r : Nat} (ha : okQ N (-1) a) (hb : okQ N (-1) b) (hr : a.length + b.length ≤ r) : lQ N (fun i => atQ a i + k * atQ b i) = addQ k r a b := by
  refine okQ_ext (lQ_ok N _) (addQ_ok r a b (-1) ha hb) fun i => ?_
  rw [addQ_at r a b (-1) ha hb hr]
  by_cases hi : 0 ≤ i ∧ i < N
  · obtain ⟨j, rfl⟩ : ∃ j : Nat, i = j := ⟨i.toNat, by omega⟩
    exact lQ_at N _ j (by omega)
  · have h0 : ∀ l : QV, okQ N (-1) l → atQ l i = 0 := fun l hl => atQ_far fun x hx => by have := hl.gt x hx; omega
    rw [h0 a ha, h0 b hb, h0 _ (lQ_ok N _)]
    grind
end Go.Proofs.YtjbmaoplcbhgfaaGreat

