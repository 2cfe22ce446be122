/-
  A loop over a function, the round walked in one: the assignments to the loop's variables (they may lay blocks) and the body.
-/
import Derived.Test.YtiohakpbgmignaaZaF
set_option linter.unusedVariables false
set_option linter.unusedSimpArgs false
namespace Go.Proofs.Ytiohakpbgmignaa
open Go.RowKit

/-- A world in which one block that is no cells was turned. -/
def Turned (B : Nat) (Y Z : World) : Prop := ∃ (l : Nat) (o o' : Obj), B ≤ l ∧ Y.heap[l]? = some o ∧ o.isCells = false ∧ Z = Y.putObj l o'
theorem Turned.size {B : Nat} {Y Z : World} (h : Turned B Y Z) : Z.heap.size = Y.heap.size := by
  obtain ⟨l, o, o', _, _, _, rfl⟩ := h; simp [World.putObj]
theorem Turned.heap {B : Nat} {Y Z : World} (h : Turned B Y Z) {k : Nat} {ob : Obj} (hk : Y.heap[k]? = some ob) (hc : ob.isCells = true) : Z.heap[k]? = some ob := by
  obtain ⟨l, o, o', _, h1, h2, rfl⟩ := h
  refine (World.putObj_heap_other (fun e => ?_)).trans hk
  subst e; rw [hk] at h1; cases h1; rw [hc] at h2; cases h2
theorem Turned.cell {B : Nat} {Y Z : World} (h : Turned B Y Z) {k i : Nat} {v : Value} (hc : Y.cell? ⟨k, i, none⟩ = some v) : Z.cell? ⟨k, i, none⟩ = some v := by
  obtain ⟨o, h1, h2⟩ := cells_of_cell hc
  exact (World.cell?_of_block ((h.heap h1 h2).trans h1.symm)).trans hc
theorem Turned.below {B N : Nat} {Y Z : World} (h : Turned B Y Z) (hN : N ≤ B) (hY : N ≤ Y.heap.size) : Below N Y Z := by
  obtain ⟨l, o, o', hl, _, _, rfl⟩ := h
  exact (Below.refl N Y).grown (grownBy_putObj' Y l o') hY (fun k e => by cases e; omega)
theorem range_d {P : Program} {α : Type} {g : Operand} {ps : Array Tmp} {assign body : Code} {Q : Exit → Act → World → Prop} {a : Act} {w : World}
    {gf : Nat} {lb : Array Value} (hg : a.eval g = .func (.func gf) #[] lb) (eg : ∀ args w, (callFunc gf args).run P w = .ok (.enter gf args) w)
    {encs : α → Array Value} {M : Nat → Obj → Prop} {Ok S : List α → Prop} {w0 : World} (hseq : IterC P gf lb encs M Ok S w0)
    (hb0 : Below w0.heap.size w0 w) (hps : ∀ x, (encs x).size = ps.size)
    (I Ix : List α → World → Prop) (hI : OwnFrom w.heap.size I) (hIx : OwnFrom w.heap.size Ix) (h0 : I [] w)
    (hrd : ∀ (l : Nat) (pre : List α) (x : α) (W : World), Ok (pre ++ [x]) → I pre W →
      assign.wpIn (Fence.wide.inRound l) 0 P (Exit.then (fun a' Y => KeepsFrom w.heap.size W Y ∧ KeepsC M W Y ∧ I pre Y ∧ ∀ Z, I pre Z → Turned w.heap.size Y Z → body.wpIn (Fence.wide.inRound l) 0 P (endC w.heap.size M I Ix (pre ++ [x]) Z) a' Z) (fun _ _ _ => False)) { tmps := (ps.zip (encs x)).foldl (fun t (q, v) => t.setIfInBounds q v) a.tmps, defers := [] } W)
    (hdone : ∀ (D : Nat) (xs : List α) (W : World), w.heap.size ≤ D → S xs → I xs W → W.heap[D]? = some (.deferred (some [])) → Q .normal { a with defers := { target := .collected D, args := #[] } :: a.defers } W)
    (hstop : ∀ (D : Nat) (pre : List α) (W : World), w.heap.size ≤ D → Ok pre → Ix pre W → W.heap[D]? = some (.deferred (some [])) → Code.ret.wpIn Fence.wide 0 P Q { a with defers := { target := .collected D, args := #[] } :: a.defers } W) :
    (Code.rangeFunc g ps assign body).wpIn Fence.wide 0 P Q a w := by
  refine wpIn_rangeFunc ?_
  intro fn hfn
  have hround : Fence.wide.round = none := rfl
  rw [hround]
  let rec_ : LoopState → Option Code → Loop := fun st pe => { state := st, pending := pe, fn, tmps := a.tmps, params := ps, assign, body, defers := w.heap.size }
  obtain ⟨rc, hrc⟩ : ∃ rc, rc = rec_ := ⟨_, rfl⟩
  obtain ⟨L, hL⟩ : ∃ L, L = w.heap.size + 1 := ⟨_, rfl⟩
  obtain ⟨V, hV⟩ : ∃ V, V = (w.alloc (.deferred (some []))).alloc (.loop (rc .ready none)) := ⟨_, rfl⟩
  have v0 : V.heap.size = w.heap.size + 2 := by rw [hV]; simp
  have v1 : V.heap[L]? = some (.loop (rc .ready none)) := by
    have h := World.alloc_heap_new (w.alloc (.deferred (some []))) (.loop (rc .ready none))
    rw [World.size_alloc] at h
    rw [hV, hL]; exact h
  have v2 : V.heap[w.heap.size]? = some (.deferred (some [])) := by
    rw [hV]; exact (Below.heap_alloc _ _ _ (by simp)).trans (World.alloc_heap_new w _)
  have v3 : I [] V := by rw [hV]; exact hI.alloc _ (hI.alloc _ h0)
  have v4 : Below w0.heap.size w0 V := by
    rw [hV]; exact hb0.trans ((((Below.refl _ w).alloc (Nat.le_refl _) _).alloc (by simp) _).mono hb0.size)
  have only : ∀ {A B : World} {row : Option Nat}, (∀ r, row = some r → V.heap.size ≤ r ∧ ∃ o : Obj, A.heap[r]? = some o ∧ o.isCells = false) → (∀ r, row = some r → w.heap.size ≤ r ∧ ∃ o : Obj, A.heap[r]? = some o ∧ o.isCells = false) := fun h r e => ⟨by have := (h r e).1; omega, (h r e).2⟩
  have kept : ∀ {A B : World} {row : Option Nat} {k : Nat} {o : Obj}, A.grownBy B row → (∀ r, row = some r → V.heap.size ≤ r ∧ ∃ o : Obj, A.heap[r]? = some o ∧ o.isCells = false) → k < V.heap.size → A.heap[k]? = some o → B.heap[k]? = some o := fun hg' hr hk ho =>
    (hg'.block _ (Array.getElem?_eq_some_iff.1 ho).1 (fun e => by have := (hr _ e.symm).1; omega)).trans ho
  refine ⟨L, [{ target := .collected w.heap.size, args := #[] }], V, { target := .fn (.func gf) lb, args := #[.func (.yield L) #[] #[]] }, V, gf,
    #[.func (.yield L) #[] #[]] ++ lb, V, ?_, ?_, ?_, ?_, fun h => (by cases h), ?_⟩
  · rw [hV, hrc, hL]; exact run_enterLoop_outer _ _ _ _ _
  · simp only [resolve, hg]
    simp [go_sem]
  · intro f' _; trivial
  · simp [invoke, go_sem, eg]
  · refine (hseq L
      (fun pre W => I pre W ∧ W.heap[L]? = some (.loop (rc .ready none)) ∧ W.heap[w.heap.size]? = some (.deferred (some [])))
      (fun pre W => Ix pre W ∧ W.heap[L]? = some (.loop (rc .done (some .ret))) ∧ W.heap[w.heap.size]? = some (.deferred (some [])))
      V v4
      (fun s A B row hs hg' hr => ⟨hI s A B row hs.1 hg' (only (B := B) hr), kept hg' hr (by omega) hs.2.1, kept hg' hr (by omega) hs.2.2⟩)
      (fun s A B row hs hg' hr => ⟨hIx s A B row hs.1 hg' (only (B := B) hr), kept hg' hr (by omega) hs.2.1, kept hg' hr (by omega) hs.2.2⟩)
      ?_ ⟨v3, v1, v2⟩).mono ?_
    · rintro pre x W hok ⟨i0, i1, i2⟩
      have hy := run_yield (P := P) (args := encs x) i1 (by rw [hrc]; exact hps x)
      rw [hrc] at hy
      refine ⟨fn, _, assign, body, hy, roundIn_of_wpIn hfn (wpIn_mono (hrd _ pre x W hok i0) ?_)⟩
      clear hy
      intro e a' Y hA
      cases e with
      | ret => exact hA.elim
      | exit id => exact hA.elim
      | goto t => exact hA.elim
      | panic ch => exact hA.elim
      | outgrown => exact hA.elim
      | normal =>
      obtain ⟨hk1, hc1, hi1, hbd⟩ := hA
      have y1 := hk1.same _ _ (by omega) i1 rfl
      have y2 := hk1.same _ _ (Nat.le_refl _) i2 rfl
      have hlt : L < Y.heap.size := (Array.getElem?_eq_some_iff.1 y1).1
      refine ⟨_, run_beginRound y1 (by rw [hrc]), ?_⟩
      obtain ⟨bz, hbz⟩ : ∃ bz, bz = { rc .ready none with state := .busy } := ⟨_, rfl⟩
      rw [← hbz]
      have j1 : (Y.putObj L (.loop bz)).heap[L]? = some (.loop bz) := World.putObj_heap_same hlt
      have j2 : (Y.putObj L (.loop bz)).heap[w.heap.size]? = some (.deferred (some [])) := (World.putObj_heap_other (by omega)).trans y2
      have fin : ∀ (jump : Option Code) (X : World), KeepsFrom w.heap.size (Y.putObj L (.loop bz)) X →
          (Instr.endRound L jump).run P X = .ok (.bool jump.isNone) (X.putObj L (.loop (rc (if jump.isNone then .ready else .done) jump))) ∧
          X.heap[L]? = some (.loop bz) ∧
          (X.putObj L (.loop (rc (if jump.isNone then .ready else .done) jump))).heap[L]? = some (.loop (rc (if jump.isNone then .ready else .done) jump)) ∧
          (X.putObj L (.loop (rc (if jump.isNone then .ready else .done) jump))).heap[w.heap.size]? = some (.deferred (some [])) ∧
          KeepsFrom V.heap.size W (X.putObj L (.loop (rc (if jump.isNone then .ready else .done) jump))) := fun jump X hk => by
        have k1 := hk.same _ _ (by omega) j1 rfl
        have k2 := run_endRound (P := P) jump k1
        rw [hbz, hrc] at k2
        rw [hrc]
        refine ⟨k2, k1, World.putObj_heap_same (Array.getElem?_eq_some_iff.1 k1).1, (World.putObj_heap_other (by omega)).trans (hk.same _ _ (Nat.le_refl _) j2 rfl), ?_⟩
        exact (keepsFrom_more hk1 (by omega)).trans ((keepsFrom_put _ _ (by omega)).trans ((keepsFrom_more hk (by omega)).trans (keepsFrom_put _ _ (by omega))))
      refine wpIn_mono (hbd _ (hI.putObj _ hi1 (by omega) y1 rfl) ⟨L, _, _, by omega, y1, rfl, rfl⟩) ?_
      intro e a3 X hp
      cases e with
      | normal =>
        obtain ⟨p1, p2, p3⟩ := hp
        obtain ⟨f1, f2, f3, f4, f5⟩ := fin none X p1
        exact ⟨_, _, f1, .inl ⟨rfl, ⟨hI.putObj _ p3 (by omega) f2 rfl, f3, f4⟩, hc1.trans ((KeepsC.put M _ y1 rfl).trans (p2.trans (KeepsC.put M _ f2 rfl))), f5⟩⟩
      | ret =>
        obtain ⟨p1, p3⟩ := hp
        obtain ⟨f1, f2, f3, f4, f5⟩ := fin (some .ret) X p1
        exact ⟨_, _, f1, .inr ⟨rfl, ⟨hIx.putObj _ p3 (by omega) f2 rfl, f3, f4⟩, f5⟩⟩
      | exit id => exact hp.elim
      | goto t => exact hp.elim
      | panic ch => exact hp.elim
      | outgrown => exact hp.elim
    · rintro e X ⟨⟨v, rfl⟩, (⟨xs, hS, i0, i1, i2⟩ | ⟨pre, hok, i0, i1, i2⟩)⟩
      · exact ⟨none, _, by have h := run_endLoop (P := P) i1 (by rw [hrc]; simp [rec_]); rw [hrc] at h; exact h, hdone _ xs _ (Nat.le_refl _) hS (hI.putObj _ i0 (by omega) i1 rfl) ((World.putObj_heap_other (by omega)).trans i2)⟩
      · exact ⟨some .ret, _, by have h := run_endLoop (P := P) i1 (by rw [hrc]; simp [rec_]); rw [hrc] at h; exact h, hstop _ pre _ (Nat.le_refl _) hok (hIx.putObj _ i0 (by omega) i1 rfl) ((World.putObj_heap_other (by omega)).trans i2)⟩
end Go.Proofs.Ytiohakpbgmignaa

