/-
  A loop over a function whose iterator writes nothing but new blocks; its body may itself call an outer loop's yield. The iterator's contract speaks of what has come so far (Ok) and of all that comes (S).
-/
import Derived.Test.YtiohakpbgmignaaZaA
set_option linter.unusedVariables false
set_option linter.unusedSimpArgs false
namespace Go.Proofs.Ytiohakpbgmignaa
open Go.RowKit

/-- What a round keeps: all cells that are not the caller's own. -/
def KeepsC (M : Nat → Obj → Prop) (W W' : World) : Prop := ∀ (k : Nat) (o : Obj), ¬ M k o → W.heap[k]? = some o → o.isCells = true → W'.heap[k]? = some o
theorem KeepsC.refl (M : Nat → Obj → Prop) (W : World) : KeepsC M W W := fun _ _ _ h _ => h
theorem KeepsC.trans {M : Nat → Obj → Prop} {A B C : World} (h : KeepsC M A B) (g : KeepsC M B C) : KeepsC M A C := fun k o hM hk ho => g k o hM (h k o hM hk ho) ho
theorem KeepsC.weak {M N : Nat → Obj → Prop} {A B : World} (h : KeepsC M A B) (hMN : ∀ k o, M k o → N k o) : KeepsC N A B := fun k o hM hk ho => h k o (fun e => hM (hMN k o e)) hk ho
theorem KeepsC.of_grownBy {M : Nat → Obj → Prop} {A B : World} {row : Option Nat} (hg : A.grownBy B row) (hr : ∀ k, row = some k → ∀ o : Obj, A.heap[k]? = some o → M k o ∨ o.isCells = false) : KeepsC M A B := fun k o hM hk ho => by
  refine (hg.block k (Array.getElem?_eq_some_iff.1 hk).1 (fun e => ?_)).trans hk
  rcases hr k e.symm o hk with h | h
  · exact hM h
  · rw [ho] at h; cases h
theorem KeepsC.put (M : Nat → Obj → Prop) {W : World} {l : Nat} {o : Obj} (o' : Obj) (hl : W.heap[l]? = some o) (ho : o.isCells = false) : KeepsC M W (W.putObj l o') :=
  KeepsC.of_grownBy (grownBy_putObj' W l o') (fun k e o2 h2 => by cases e; rw [hl] at h2; cases h2; exact .inr ho)
theorem KeepsC.alloc (M : Nat → Obj → Prop) (W : World) (o : Obj) : KeepsC M W (W.alloc o) := KeepsC.of_grownBy (World.grownBy_alloc W o none) (fun k e => by cases e)
theorem KeepsC.of_below {M : Nat → Obj → Prop} {A B : World} {N : Nat} (hb : Below N A B) (hN : A.heap.size ≤ N) : KeepsC M A B := fun k o _ hk _ => (hb.block k (by have := (Array.getElem?_eq_some_iff.1 hk).1; omega)).trans hk
/-- A cell that a round keeps. -/
theorem KeepsC.cell {M : Nat → Obj → Prop} {A B : World} (h : KeepsC M A B) {k i : Nat} (hM : ∀ o, ¬ M k o) {v : Value} (hc : A.cell? ⟨k, i, none⟩ = some v) : B.cell? ⟨k, i, none⟩ = some v := by
  obtain ⟨o, h1, h2⟩ := cells_of_cell hc
  exact (World.cell?_of_block ((h k o (hM o) h1 h2).trans h1.symm)).trans hc
theorem OwnFrom.more {β : Type} {B B' : Nat} {I : β → World → Prop} (h : OwnFrom B I) (hB : B ≤ B') : OwnFrom B' I := fun s A C row hs hg hr => h s A C row hs hg (fun r e => ⟨Nat.le_trans hB (hr r e).1, (hr r e).2⟩)
theorem keepsFrom_more {B B' : Nat} {A C : World} (h : KeepsFrom B A C) (hB : B ≤ B') : KeepsFrom B' A C := ⟨h.size, fun k o hk => h.same k o (Nat.le_trans hB hk)⟩
theorem grownBy_drew' (W : World) : W.grownBy W.drew none := ⟨rfl, rfl, rfl, Nat.le_refl _, fun _ _ _ => rfl⟩
theorem OwnFrom.drew {β : Type} {B : Nat} {I : β → World → Prop} (h : OwnFrom B I) {s : β} {W : World} (hs : I s W) : I s W.drew := h s W _ none hs (grownBy_drew' W) (fun r e => by cases e)
theorem keepsFrom_put {B l : Nat} (W : World) (o : Obj) (h : l < B) : KeepsFrom B W (W.putObj l o) := KeepsFrom.of_grownBy (grownBy_putObj' W l o) (fun j e => by cases e; exact h)

def IterC {α : Type} (P : Program) (g : Nat) (lb : Array Value) (encs : α → Array Value) (M : Nat → Obj → Prop) (Ok S : List α → Prop) (w : World) : Prop :=
  ∀ (l : Nat) (J Jx : List α → World → Prop) (W : World), Below w.heap.size w W → OwnFrom W.heap.size J → OwnFrom W.heap.size Jx →
    (∀ pre x W1, Ok (pre ++ [x]) → J pre W1 → YieldAt Fence.wide 0 P l (encs x) W1 fun e W' =>
      (e = .returned (.bool true) ∧ J (pre ++ [x]) W' ∧ KeepsC M W1 W' ∧ KeepsFrom W.heap.size W1 W') ∨ (e = .returned (.bool false) ∧ Jx (pre ++ [x]) W' ∧ KeepsFrom W.heap.size W1 W')) →
    J [] W →
    CallsIn Fence.wide 0 P g (#[.func (.yield l) #[] #[]] ++ lb) W fun e W' => (∃ v, e = .returned v) ∧ ((∃ xs, S xs ∧ J xs W') ∨ (∃ pre, Ok pre ∧ Jx pre W'))

/-- How a round's body may be left: it goes on, or it leaves by 'return'. -/
def endC {α : Type} (B : Nat) (M : Nat → Obj → Prop) (I Ix : List α → World → Prop) (xs : List α) (W : World) : Exit → Act → World → Prop
  | .normal, _, W' => KeepsFrom B W W' ∧ KeepsC M W W' ∧ I xs W'
  | .ret, _, W' => KeepsFrom B W W' ∧ Ix xs W'
  | _, _, _ => False

theorem range_c {P : Program} {α : Type} {g : Operand} {ps : Array Tmp} {assign body : Code} {Q : Exit → Act → World → Prop} {a : Act} {w : World}
    {gf : Nat} {lb : Array Value} (hg : a.eval g = .func (.func gf) #[] lb) (eg : ∀ args w, (callFunc gf args).run P w = .ok (.enter gf args) w)
    {encs : α → Array Value} {M : Nat → Obj → Prop} {Ok S : List α → Prop} {w0 : World} (hseq : IterC P gf lb encs M Ok S w0)
    (hb0 : Below w0.heap.size w0 w) (hps : ∀ x, (encs x).size = ps.size)
    (I Ix : List α → World → Prop) (hI : OwnFrom w.heap.size I) (hIx : OwnFrom w.heap.size Ix) (h0 : I [] w)
    (Ax : α → Act → World → Prop) (hAx : ∀ x a', OwnFrom w.heap.size (fun (_ : Unit) W => Ax x a' W))
    (hassign : ∀ (l : Nat) (pre : List α) (x : α) (W : World) (K : Act → World → Prop), Ok (pre ++ [x]) → I pre W → (∀ a' W', KeepsFrom w.heap.size W W' → KeepsC M W W' → I pre W' → Ax x a' W' → K a' W') →
      assign.wpIn (Fence.wide.inRound l) 0 P (Exit.then K (fun _ _ _ => False)) { tmps := (ps.zip (encs x)).foldl (fun t (q, v) => t.setIfInBounds q v) a.tmps, defers := [] } W)
    (hbody : ∀ (l : Nat) (pre : List α) (x : α) (a' : Act) (W : World), Ok (pre ++ [x]) → I pre W → Ax x a' W → body.wpIn (Fence.wide.inRound l) 0 P (endC w.heap.size M I Ix (pre ++ [x]) W) a' W)
    (hdone : ∀ (D : Nat) (xs : List α) (W : World), w.heap.size ≤ D → S xs → I xs W → W.heap[D]? = some (.deferred (some [])) → Q .normal { a with defers := { target := .collected D, args := #[] } :: a.defers } W)
    (hstop : ∀ (D : Nat) (pre : List α) (W : World), w.heap.size ≤ D → Ok pre → Ix pre W → W.heap[D]? = some (.deferred (some [])) → Code.ret.wpIn Fence.wide 0 P Q { a with defers := { target := .collected D, args := #[] } :: a.defers } W) :
    (Code.rangeFunc g ps assign body).wpIn Fence.wide 0 P Q a w := by
  refine wpIn_rangeFunc ?_
  intro fn hfn
  have hround : Fence.wide.round = none := rfl
  rw [hround]
  let rec_ : LoopState → Option Code → Loop := fun st pe => { state := st, pending := pe, fn, tmps := a.tmps, params := ps, assign, body, defers := w.heap.size }
  obtain ⟨rc, hrc⟩ : ∃ rc, rc = rec_ := ⟨_, rfl⟩
  obtain ⟨L, hL⟩ : ∃ L, L = w.heap.size + 1 := ⟨_, rfl⟩
  obtain ⟨V, hV⟩ : ∃ V, V = (w.alloc (.deferred (some []))).alloc (.loop (rc .ready none)) := ⟨_, rfl⟩
  have v0 : V.heap.size = w.heap.size + 2 := by rw [hV]; simp
  have v1 : V.heap[L]? = some (.loop (rc .ready none)) := by
    have h := World.alloc_heap_new (w.alloc (.deferred (some []))) (.loop (rc .ready none))
    rw [World.size_alloc] at h
    rw [hV, hL]; exact h
  have v2 : V.heap[w.heap.size]? = some (.deferred (some [])) := by
    rw [hV]; exact (Below.heap_alloc _ _ _ (by simp)).trans (World.alloc_heap_new w _)
  have v3 : I [] V := by rw [hV]; exact hI.alloc _ (hI.alloc _ h0)
  have v4 : Below w0.heap.size w0 V := by
    rw [hV]; exact hb0.trans ((((Below.refl _ w).alloc (Nat.le_refl _) _).alloc (by simp) _).mono hb0.size)
  have only : ∀ {A B : World} {row : Option Nat}, (∀ r, row = some r → V.heap.size ≤ r ∧ ∃ o : Obj, A.heap[r]? = some o ∧ o.isCells = false) → (∀ r, row = some r → w.heap.size ≤ r ∧ ∃ o : Obj, A.heap[r]? = some o ∧ o.isCells = false) := fun h r e => ⟨by have := (h r e).1; omega, (h r e).2⟩
  have kept : ∀ {A B : World} {row : Option Nat} {k : Nat} {o : Obj}, A.grownBy B row → (∀ r, row = some r → V.heap.size ≤ r ∧ ∃ o : Obj, A.heap[r]? = some o ∧ o.isCells = false) → k < V.heap.size → A.heap[k]? = some o → B.heap[k]? = some o := fun hg' hr hk ho =>
    (hg'.block _ (Array.getElem?_eq_some_iff.1 ho).1 (fun e => by have := (hr _ e.symm).1; omega)).trans ho
  refine ⟨L, [{ target := .collected w.heap.size, args := #[] }], V, { target := .fn (.func gf) lb, args := #[.func (.yield L) #[] #[]] }, V, gf,
    #[.func (.yield L) #[] #[]] ++ lb, V, ?_, ?_, ?_, ?_, fun h => (by cases h), ?_⟩
  · rw [hV, hrc, hL]; exact run_enterLoop_outer _ _ _ _ _
  · simp only [resolve, hg]
    simp [go_sem]
  · intro f' _; trivial
  · simp [invoke, go_sem, eg]
  · refine (hseq L
      (fun pre W => I pre W ∧ W.heap[L]? = some (.loop (rc .ready none)) ∧ W.heap[w.heap.size]? = some (.deferred (some [])))
      (fun pre W => Ix pre W ∧ W.heap[L]? = some (.loop (rc .done (some .ret))) ∧ W.heap[w.heap.size]? = some (.deferred (some [])))
      V v4
      (fun s A B row hs hg' hr => ⟨hI s A B row hs.1 hg' (only (B := B) hr), kept hg' hr (by omega) hs.2.1, kept hg' hr (by omega) hs.2.2⟩)
      (fun s A B row hs hg' hr => ⟨hIx s A B row hs.1 hg' (only (B := B) hr), kept hg' hr (by omega) hs.2.1, kept hg' hr (by omega) hs.2.2⟩)
      ?_ ⟨v3, v1, v2⟩).mono ?_
    · rintro pre x W hok ⟨i0, i1, i2⟩
      have hy := run_yield (P := P) (args := encs x) i1 (by rw [hrc]; exact hps x)
      rw [hrc] at hy
      refine ⟨fn, _, assign, body, hy, roundIn_of_wpIn hfn (hassign _ pre x W _ hok i0 ?_)⟩
      clear hy
      intro a' Y hk1 hc1 hi1 hax
      have y1 := hk1.same _ _ (by omega) i1 rfl
      have y2 := hk1.same _ _ (Nat.le_refl _) i2 rfl
      have hlt : L < Y.heap.size := (Array.getElem?_eq_some_iff.1 y1).1
      refine ⟨_, run_beginRound y1 (by rw [hrc]), ?_⟩
      obtain ⟨bz, hbz⟩ : ∃ bz, bz = { rc .ready none with state := .busy } := ⟨_, rfl⟩
      rw [← hbz]
      have j1 : (Y.putObj L (.loop bz)).heap[L]? = some (.loop bz) := World.putObj_heap_same hlt
      have j2 : (Y.putObj L (.loop bz)).heap[w.heap.size]? = some (.deferred (some [])) := (World.putObj_heap_other (by omega)).trans y2
      have fin : ∀ (jump : Option Code) (X : World), KeepsFrom w.heap.size (Y.putObj L (.loop bz)) X →
          (Instr.endRound L jump).run P X = .ok (.bool jump.isNone) (X.putObj L (.loop (rc (if jump.isNone then .ready else .done) jump))) ∧
          X.heap[L]? = some (.loop bz) ∧
          (X.putObj L (.loop (rc (if jump.isNone then .ready else .done) jump))).heap[L]? = some (.loop (rc (if jump.isNone then .ready else .done) jump)) ∧
          (X.putObj L (.loop (rc (if jump.isNone then .ready else .done) jump))).heap[w.heap.size]? = some (.deferred (some [])) ∧
          KeepsFrom V.heap.size W (X.putObj L (.loop (rc (if jump.isNone then .ready else .done) jump))) := fun jump X hk => by
        have k1 := hk.same _ _ (by omega) j1 rfl
        have k2 := run_endRound (P := P) jump k1
        rw [hbz, hrc] at k2
        rw [hrc]
        refine ⟨k2, k1, World.putObj_heap_same (Array.getElem?_eq_some_iff.1 k1).1, (World.putObj_heap_other (by omega)).trans (hk.same _ _ (Nat.le_refl _) j2 rfl), ?_⟩
        exact (keepsFrom_more hk1 (by omega)).trans ((keepsFrom_put _ _ (by omega)).trans ((keepsFrom_more hk (by omega)).trans (keepsFrom_put _ _ (by omega))))
      refine wpIn_mono (hbody _ pre x a' _ hok (hI.putObj _ hi1 (by omega) y1 rfl) ((hAx x a').putObj (s := ()) _ hax (by omega) y1 rfl)) ?_
      intro e a3 X hp
      cases e with
      | normal =>
        obtain ⟨p1, p2, p3⟩ := hp
        obtain ⟨f1, f2, f3, f4, f5⟩ := fin none X p1
        exact ⟨_, _, f1, .inl ⟨rfl, ⟨hI.putObj _ p3 (by omega) f2 rfl, f3, f4⟩, hc1.trans ((KeepsC.put M _ y1 rfl).trans (p2.trans (KeepsC.put M _ f2 rfl))), f5⟩⟩
      | ret =>
        obtain ⟨p1, p3⟩ := hp
        obtain ⟨f1, f2, f3, f4, f5⟩ := fin (some .ret) X p1
        exact ⟨_, _, f1, .inr ⟨rfl, ⟨hIx.putObj _ p3 (by omega) f2 rfl, f3, f4⟩, f5⟩⟩
      | exit id => exact hp.elim
      | goto t => exact hp.elim
      | panic ch => exact hp.elim
      | outgrown => exact hp.elim
    · rintro e X ⟨⟨v, rfl⟩, (⟨xs, hS, i0, i1, i2⟩ | ⟨pre, hok, i0, i1, i2⟩)⟩
      · exact ⟨none, _, by have h := run_endLoop (P := P) i1 (by rw [hrc]; simp [rec_]); rw [hrc] at h; exact h, hdone _ xs _ (Nat.le_refl _) hS (hI.putObj _ i0 (by omega) i1 rfl) ((World.putObj_heap_other (by omega)).trans i2)⟩
      · exact ⟨some .ret, _, by have h := run_endLoop (P := P) i1 (by rw [hrc]; simp [rec_]); rw [hrc] at h; exact h, hstop _ pre _ (Nat.le_refl _) hok (hIx.putObj _ i0 (by omega) i1 rfl) ((World.putObj_heap_other (by omega)).trans i2)⟩
end Go.Proofs.Ytiohakpbgmignaa

