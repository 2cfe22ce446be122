/-
  The program's and the reference's ToDense.
-/
import Derived.Test.YtjbmaoplcbhgfaaGreatSpB
import Derived.Laws.MakeOwn
set_option linter.unusedVariables false
set_option linter.unusedSimpArgs false
namespace Go.Proofs.YtjbmaoplcbhgfaaGreat
open Go.RowKit

/-! ### What is valid -/
theorem vrest_zero {n : Int} {b : Int} {l : List VE} (h : vrest n b l = 0) : ∀ x ∈ l, b < x.k ∧ 0 ≤ x.k ∧ x.k < n ∧ sgn x.e.a * sgn x.e.b ≠ 0 := by
  induction l generalizing b with
  | nil => intro x hx; cases hx
  | cons y l ih =>
    unfold vrest at h
    split at h
    · cases h
    · split at h
      · cases h
      · split at h
        · cases h
        · rename_i h1 h2 h3
          intro x hx
          rcases List.mem_cons.1 hx with rfl | hx
          · exact ⟨by omega, by omega, by omega, h3⟩
          · have := ih h x hx
            exact ⟨by omega, this.2⟩
theorem vrest_tail {n : Int} {b : Int} {x : VE} {l : List VE} (h : vrest n b (x :: l) = 0) : vrest n x.k l = 0 := by
  unfold vrest at h
  split at h
  · cases h
  · split at h
    · cases h
    · split at h
      · cases h
      · exact h
theorem valid_zero {n : Int} {l : List VE} (h : valid l n = 0) : 0 ≤ n ∧ n ≤ 4096 ∧ vrest n (-1) l = 0 := by
  unfold valid at h
  split at h
  · cases h
  · exact ⟨by omega, by omega, h⟩

/-! ### Entries laid into a dense list -/
def zeroFE : FE := ⟨false, none, 0, 0, false, none, 0, 0, 0, 0⟩
def getE : List VE → Int → FE → FE
  | [], _, d => d
  | x :: l, i, d => if x.k = i then x.e else getE l i d
def putE (D : List FE) (l : List VE) : List FE := l.foldl (fun D x => D.set x.k.toNat x.e) D
theorem putE_len (D : List FE) (l : List VE) : (putE D l).length = D.length := by
  unfold putE
  induction l generalizing D with
  | nil => rfl
  | cons x l ih => rw [List.foldl_cons, ih, List.length_set]
theorem putE_take {D : List FE} {l : List VE} {k : Nat} {x : VE} (h : l[k]? = some x) : putE D (l.take (k + 1)) = (putE D (l.take k)).set x.k.toNat x.e := by
  have hts : l.take (k + 1) = l.take k ++ [x] := by rw [List.take_add_one, h]; rfl
  unfold putE
  rw [hts, List.foldl_append]
  rfl
theorem getE_none {l : List VE} {i : Int} {d : FE} (h : ∀ x ∈ l, x.k ≠ i) : getE l i d = d := by
  induction l with
  | nil => rfl
  | cons x l ih =>
    unfold getE
    rw [if_neg (h x (by simp))]
    exact ih fun y hy => h y (by simp [hy])
theorem putE_get {n b : Int} {l : List VE} (h : vrest n b l = 0) (D : List FE) (j : Nat) (d : FE) (hd : D[j]? = some d) : (putE D l)[j]? = some (getE l j d) := by
  induction l generalizing b D d with
  | nil => exact hd
  | cons x l ih =>
    have hx := vrest_zero h x (by simp)
    have ht := vrest_tail h
    have hlt : j < D.length := (List.getElem?_eq_some_iff.1 hd).1
    show (putE (D.set x.k.toNat x.e) l)[j]? = _
    unfold getE
    by_cases e : x.k = j
    · rw [if_pos e, ih ht (D.set x.k.toNat x.e) x.e (by rw [show x.k.toNat = j by omega, List.getElem?_set_self hlt])]
      rw [getE_none]
      intro y hy
      have := (vrest_zero ht y hy).1
      omega
    · rw [if_neg e]
      exact ih ht _ d (by rw [List.getElem?_set_ne (by omega)]; exact hd)
theorem atV_get (l : List VE) (i : Int) : atV l i = (rn (getE l i zeroFE).a (getE l i zeroFE).b, rd (getE l i zeroFE).a (getE l i zeroFE).b) := by
  induction l with
  | nil => show ((0 : Int), (1 : Int)) = (rn 0 0, rd 0 0); rw [(r_zero 0).1, (r_zero 0).2]
  | cons x l ih =>
    unfold atV getE
    split
    · rfl
    · exact ih
theorem getE_mem (l : List VE) (i : Int) (d : FE) : getE l i d = d ∨ ∃ x ∈ l, getE l i d = x.e := by
  induction l with
  | nil => exact .inl rfl
  | cons x l ih =>
    unfold getE
    split
    · exact .inr ⟨x, by simp, rfl⟩
    · rcases ih with h | ⟨y, hy, h⟩
      · exact .inl h
      · exact .inr ⟨y, by simp [hy], h⟩
/-- What ToDense answers. -/
def dnV (l : List VE) (n : Nat) : List (Int × Int) := (List.range n).map fun (i : Nat) => atV l (i : Int)

/-! ### Cells of a row of fractions -/
theorem flatF_plain (D : List FE) : Plains (flatF D) := by
  refine Plains.of fun v hv => ?_
  unfold flatF at hv
  obtain ⟨e, _, he⟩ := List.mem_flatMap.1 hv
  unfold FE.cells at he
  simp only [List.mem_cons, List.not_mem_nil, or_false] at he
  rcases he with rfl | rfl | rfl | rfl
  · exact Plain.bool _
  · exact Plain.slice _ _ _
  · exact Plain.bool _
  · exact Plain.slice _ _ _
theorem set_app (s t : List Value) (i : Nat) (u : Value) : (s ++ t).set (s.length + i) u = s ++ t.set i u := by
  rw [List.set_append, if_neg (by omega)]
  congr 2
  omega
theorem flatF_set (D : List FE) (j : Nat) (e : FE) (hj : j < D.length) :
    (((((flatF D).set (j * 4) (.bool e.s)).set (j * 4 + 1) (.slice e.A e.n e.c)).set (j * 4 + 2) (.bool e.t)).set (j * 4 + 3) (.slice e.B e.m e.d)) = flatF (D.set j e) := by
  induction D generalizing j with
  | nil => simp at hj
  | cons x D ih =>
    cases j with
    | zero => rfl
    | succ j =>
      have hlt : j < D.length := by simpa using hj
      have := ih j hlt
      unfold flatF at *
      rw [List.set_cons_succ, List.flatMap_cons, List.flatMap_cons, ← this]
      have h4 : x.cells.length = 4 := rfl
      rw [show (j + 1) * 4 = x.cells.length + (j * 4 + 0) by rw [h4]; omega]
      rw [show (x.cells.length + (j * 4 + 0) + 1) = x.cells.length + (j * 4 + 1) by omega, show (x.cells.length + (j * 4 + 0) + 2) = x.cells.length + (j * 4 + 2) by omega, show (x.cells.length + (j * 4 + 0) + 3) = x.cells.length + (j * 4 + 3) by omega]
      simp only [set_app, Nat.add_zero]
theorem St.putF {w0 w : World} {l : List (Nat × TypeId × List Value)} {k : List (Bool × Option Addr × Nat × Nat × Int × Bool)} {g : Nat} {t : TypeId} {D : List FE} (h : St w0 w ((g, t, flatF D) :: l) k) (j : Nat) (hj : j < D.length) (e : FE) :
    St w0 ((((w.setCell ⟨g, j * 4, none⟩ (.bool e.s)).setCell ⟨g, j * 4 + 1, none⟩ (.slice e.A e.n e.c)).setCell ⟨g, j * 4 + 2, none⟩ (.bool e.t)).setCell ⟨g, j * 4 + 3, none⟩ (.slice e.B e.m e.d)) ((g, t, flatF (D.set j e)) :: l) k := by
  have h1 := h.set (i := 0) rfl (j * 4) (Plain.bool e.s)
  have h2 := h1.set (i := 0) rfl (j * 4 + 1) (Plain.slice e.A e.n e.c)
  have h3 := h2.set (i := 0) rfl (j * 4 + 2) (Plain.bool e.t)
  have h4 := h3.set (i := 0) rfl (j * 4 + 3) (Plain.slice e.B e.m e.d)
  simp only [List.set_cons_zero, flatF_set D j e hj] at h4
  exact h4
theorem FE.C.putF {w : World} {x : FE} {g : Nat} {t : TypeId} {vs : List Value} (h : FE.C w x) (ho : OwnL w g t vs) (hp : Plains vs) (j : Nat) (e : FE) :
    FE.C ((((w.setCell ⟨g, j * 4, none⟩ (.bool e.s)).setCell ⟨g, j * 4 + 1, none⟩ (.slice e.A e.n e.c)).setCell ⟨g, j * 4 + 2, none⟩ (.bool e.t)).setCell ⟨g, j * 4 + 3, none⟩ (.slice e.B e.m e.d)) x := by
  have h1 := h.setV ho hp (j * 4) (.bool e.s)
  have o1 := ho.set (j * 4) (.bool e.s)
  have p1 := hp.set (Plain.bool e.s) (j * 4)
  have h2 := h1.setV o1 p1 (j * 4 + 1) (.slice e.A e.n e.c)
  have o2 := o1.set (j * 4 + 1) (.slice e.A e.n e.c)
  have p2 := p1.set (Plain.slice e.A e.n e.c) (j * 4 + 1)
  have h3 := h2.setV o2 p2 (j * 4 + 2) (.bool e.t)
  have o3 := o2.set (j * 4 + 2) (.bool e.t)
  have p3 := p2.set (Plain.bool e.t) (j * 4 + 2)
  exact h3.setV o3 p3 (j * 4 + 3) (.slice e.B e.m e.d)
theorem flatF_in {w : World} {g : Nat} {t : TypeId} {D : List FE} (h : OwnL w g t (flatF D)) (k : Nat) (e : FE) (hk : D[k]? = some e) : FE.In w g (0 + k * 4) e := by
  have hc : ∀ i, i < 4 → w.cell? ⟨g, k * 4 + i, none⟩ = e.cells[i]? := fun i hi => by
    have h1 := flat_get D k i e hk hi
    match i, hi with
    | 0, _ => exact (h.cell (h1.trans rfl)).trans rfl
    | 1, _ => exact (h.cell (h1.trans rfl)).trans rfl
    | 2, _ => exact (h.cell (h1.trans rfl)).trans rfl
    | 3, _ => exact (h.cell (h1.trans rfl)).trans rfl
  have c0 := hc 0 (by omega)
  have c1 := hc 1 (by omega)
  have c2 := hc 2 (by omega)
  have c3 := hc 3 (by omega)
  rw [Nat.zero_add]
  exact ⟨c0, c1, c2, c3⟩
theorem made_flat (n : Nat) : madeCells #[.bool false, .slice none 0 0, .bool false, .slice none 0 0] (n * 4) = (flatF (List.replicate n zeroFE)).toArray := by
  apply Array.ext'
  apply List.ext_getElem?
  intro i
  unfold madeCells
  by_cases hi : i < n * 4
  · have h1 : (List.replicate n zeroFE)[i / 4]? = some zeroFE := by rw [List.getElem?_replicate, if_pos (by omega)]
    have h2 := flat_get (List.replicate n zeroFE) (i / 4) (i % 4) zeroFE h1 (Nat.mod_lt _ (by decide))
    rw [show i / 4 * 4 + i % 4 = i by omega] at h2
    show _ = (flatF (List.replicate n zeroFE))[i]?
    rw [h2]
    simp only [Array.toList_map, Array.toList_range, List.getElem?_map, List.getElem?_range hi, Option.map_some]
    have : i % 4 = 0 ∨ i % 4 = 1 ∨ i % 4 = 2 ∨ i % 4 = 3 := by omega
    rcases this with h | h | h | h <;> simp [h, FE.cells, zeroFE]
  · rw [List.getElem?_eq_none (by simp; omega)]
    show none = (flatF (List.replicate n zeroFE))[i]?
    rw [List.getElem?_eq_none (by rw [flat_len, List.length_replicate]; omega)]
theorem make_n (W : World) (n : Nat) (hn : n ≤ 4096) : (Instr.makeSlice 50 (.int .i64 (n : Int)) (.int .i64 (n : Int))).run Tryz.prog W = .ok (.slice (some ⟨W.heap.size, 0, none⟩) n n) (W.alloc (.cells (flatF (List.replicate n zeroFE)).toArray 28)) := by
  obtain ⟨i0, hi, hz0, hz1, hz2⟩ := info_parts frac_info
  have := run_make (P := Tryz.prog) W 50 28 i0 _ Tryz.underlying50 hi hz0 .i64 .i64 n n (by omega) (Int.le_refl _) (by rw [hz2]; omega) (by omega)
  rw [hz1, Int.toNat_natCast] at this
  rw [this, ← made_flat]
  rfl
end Go.Proofs.YtjbmaoplcbhgfaaGreat

