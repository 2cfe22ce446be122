/-
  A loop over a function whose iterator keeps its own state in one block of memory (a captured variable): the caller's law. Holds for every such iterator whose contract is IterB.
-/
import Derived.RangeFuncNested
import Derived.RangeFuncBound
import Derived.RangeFuncCalls
import Derived.RangeFuncLeaves
namespace Go.Proofs.Ytiohakpbgmignaa
open Go.RowKit

/-- What an invariant doesn't mind: new blocks, and whatever becomes of block b. -/
def Minds {α : Type} (b : Nat) (J : α → World → Prop) : Prop :=
  ∀ s A B row, J s A → A.grownBy B row → (∀ r, row = some r → r = b) → J s B
/-- What the caller's invariant doesn't mind: besides, a turn of what is no cells, from block B on. -/
def MindsFrom {α : Type} (B b : Nat) (J : α → World → Prop) : Prop :=
  ∀ s X Y row, J s X → X.grownBy Y row → (∀ r, row = some r → r = b ∨ (B ≤ r ∧ ∃ o : Obj, X.heap[r]? = some o ∧ o.isCells = false)) → J s Y
theorem MindsFrom.put {α : Type} {B b : Nat} {J : α → World → Prop} (h : MindsFrom B b J) {s : α} {W : World} {l : Nat} {o : Obj} (o' : Obj) (hs : J s W) (hB : B ≤ l) (hl : W.heap[l]? = some o) (ho : o.isCells = false) : J s (W.putObj l o') :=
  h s W _ (some l) hs (grownBy_putObj' W l o') (fun r e => by cases e; exact .inr ⟨hB, o, hl, ho⟩)
theorem MindsFrom.alloc {α : Type} {B b : Nat} {J : α → World → Prop} (h : MindsFrom B b J) {s : α} {W : World} (o : Obj) (hs : J s W) : J s (W.alloc o) :=
  h s W _ none hs (World.grownBy_alloc W o none) (fun r e => by cases e)

/-- How a round's body may be left: it goes on, or it leaves by 'return'. -/
def roundEnd {α : Type} (B : Nat) (Kp : World → World → Prop) (I Ix : List α → World → Prop) (xs : List α) (W : World) : Exit → Act → World → Prop
  | .normal, _, W' => KeepsFrom B W W' ∧ Kp W W' ∧ I xs W'
  | .ret, _, W' => KeepsFrom B W W' ∧ Ix xs W'
  | _, _, _ => False

/-- The contract of an iterator that gives ys and writes block b alone (and new ones). Kp: what a round that goes on keeps. -/
def IterB {α β : Type} (P : Program) (g b : Nat) (lb : Array Value) (encs : β → α → Array Value) (R : World → β → α → Prop) (Kp : World → World → Prop) (ys : List α) (w : World) : Prop :=
  ∀ (l : Nat) (J Jx : List α → World → Prop) (W : World), Below w.heap.size w W → Minds b J → Minds b Jx →
    (∀ pre x post p W1, ys = pre ++ x :: post → R W1 p x → J pre W1 → YieldAt Fence.wide 0 P l (encs p x) W1 fun e W' =>
      (e = .returned (.bool true) ∧ J (pre ++ [x]) W' ∧ Kp W1 W') ∨ (e = .returned (.bool false) ∧ Jx (pre ++ [x]) W')) →
    J [] W →
    CallsIn Fence.wide 0 P g (#[.func (.yield l) #[] #[]] ++ lb) W fun e W' => (∃ v, e = .returned v) ∧
      (J ys W' ∨ ∃ pre x post, ys = pre ++ x :: post ∧ Jx (pre ++ [x]) W')

theorem range_box {P : Program} {α β : Type} {g : Operand} {ps : Array Tmp} {assign body : Code} {Q : Exit → Act → World → Prop} {a : Act} {w : World}
    {gf b : Nat} {lb : Array Value} (hg : a.eval g = .func (.func gf) #[] lb) (eg : ∀ args w, (callFunc gf args).run P w = .ok (.enter gf args) w)
    {encs : β → α → Array Value} {R : World → β → α → Prop} {Kp : World → World → Prop} {ys : List α} {w0 : World} (hseq : IterB P gf b lb encs R Kp ys w0) (hb : b < w.heap.size)
    (hKt : ∀ {A B C : World}, Kp A B → Kp B C → Kp A C) (hKb : ∀ (W : World) (l : Nat) (o o' : Obj), w.heap.size ≤ l → W.heap[l]? = some o → o.isCells = false → Kp W (W.putObj l o'))
    (hb0 : Below w0.heap.size w0 w) (hps : ∀ p x, (encs p x).size = ps.size)
    (hR : ∀ (p : β) (x : α) (W : World) (l : Nat) (o o' : Obj), w.heap.size ≤ l → W.heap[l]? = some o → o.isCells = false → R W p x → R (W.putObj l o') p x)
    (I Ix : List α → World → Prop) (hI : MindsFrom w.heap.size b I) (hIx : MindsFrom w.heap.size b Ix) (h0 : I [] w) (a₁ : β → α → Act)
    (hassign : ∀ (l : Nat) (p : β) (x : α) (W : World) (K : Act → World → Prop), K (a₁ p x) W →
      assign.wpIn (Fence.wide.inRound l) 0 P (Exit.then K (fun _ _ _ => False)) { tmps := (ps.zip (encs p x)).foldl (fun t (q, v) => t.setIfInBounds q v) a.tmps, defers := [] } W)
    (hbody : ∀ (l : Nat) (pre : List α) (p : β) (x : α) (post : List α) (W : World), ys = pre ++ x :: post → R W p x → I pre W → body.wpIn (Fence.wide.inRound l) 0 P (roundEnd w.heap.size Kp I Ix (pre ++ [x]) W) (a₁ p x) W)
    (hdone : ∀ (D : Nat) (W : World), w.heap.size ≤ D → I ys W → W.heap[D]? = some (.deferred (some [])) → Q .normal { a with defers := { target := .collected D, args := #[] } :: a.defers } W)
    (hstop : ∀ (D : Nat) (pre : List α) (x : α) (post : List α) (W : World), w.heap.size ≤ D → ys = pre ++ x :: post → Ix (pre ++ [x]) W → W.heap[D]? = some (.deferred (some [])) → Code.ret.wpIn Fence.wide 0 P Q { a with defers := { target := .collected D, args := #[] } :: a.defers } W) :
    (Code.rangeFunc g ps assign body).wpIn Fence.wide 0 P Q a w := by
  refine wpIn_rangeFunc ?_
  intro fn hfn
  have hround : Fence.wide.round = none := rfl
  rw [hround]
  let rec_ : LoopState → Option Code → Loop := fun st pe => { state := st, pending := pe, fn, tmps := a.tmps, params := ps, assign, body, defers := w.heap.size }
  obtain ⟨rc, hrc⟩ : ∃ rc, rc = rec_ := ⟨_, rfl⟩
  obtain ⟨L, hL⟩ : ∃ L, L = w.heap.size + 1 := ⟨_, rfl⟩
  obtain ⟨V, hV⟩ : ∃ V, V = (w.alloc (.deferred (some []))).alloc (.loop (rc .ready none)) := ⟨_, rfl⟩
  have v1 : V.heap[L]? = some (.loop (rc .ready none)) := by
    have h := World.alloc_heap_new (w.alloc (.deferred (some []))) (.loop (rc .ready none))
    rw [World.size_alloc] at h
    rw [hV, hL]; exact h
  have v2 : V.heap[w.heap.size]? = some (.deferred (some [])) := by
    rw [hV]; exact (Below.heap_alloc _ _ _ (by simp)).trans (World.alloc_heap_new w _)
  have v3 : I [] V := by rw [hV]; exact hI.alloc _ (hI.alloc _ h0)
  have v4 : Below w0.heap.size w0 V := by
    rw [hV]; exact hb0.trans ((((Below.refl _ w).alloc (Nat.le_refl _) _).alloc (by simp) _).mono hb0.size)
  have only : ∀ {A B : World} {row : Option Nat}, (∀ r, row = some r → r = b) → (∀ r, row = some r → r = b ∨ (w.heap.size ≤ r ∧ ∃ o : Obj, A.heap[r]? = some o ∧ o.isCells = false)) := fun h r e => .inl (h r e)
  have kept : ∀ {A B : World} {row : Option Nat} {k : Nat} {o : Obj}, A.grownBy B row → (∀ r, row = some r → r = b) → w.heap.size ≤ k → A.heap[k]? = some o → B.heap[k]? = some o := fun hg' hr hk ho =>
    (hg'.block _ (Array.getElem?_eq_some_iff.1 ho).1 (fun e => by have := hr _ e.symm; omega)).trans ho
  refine ⟨L, [{ target := .collected w.heap.size, args := #[] }], V, { target := .fn (.func gf) lb, args := #[.func (.yield L) #[] #[]] }, V, gf,
    #[.func (.yield L) #[] #[]] ++ lb, V, ?_, ?_, ?_, ?_, fun h => (by cases h), ?_⟩
  · rw [hV, hrc, hL]; exact run_enterLoop_outer _ _ _ _ _
  · simp only [resolve, hg]
    simp [go_sem]
  · intro f' _; trivial
  · simp [invoke, go_sem, eg]
  · refine (hseq L
      (fun pre W => I pre W ∧ W.heap[L]? = some (.loop (rc .ready none)) ∧ W.heap[w.heap.size]? = some (.deferred (some [])))
      (fun pre W => Ix pre W ∧ W.heap[L]? = some (.loop (rc .done (some .ret))) ∧ W.heap[w.heap.size]? = some (.deferred (some [])))
      V v4
      (fun s A B row hs hg' hr => ⟨hI s A B row hs.1 hg' (only (B := B) hr), kept hg' hr (by omega) hs.2.1, kept hg' hr (Nat.le_refl _) hs.2.2⟩)
      (fun s A B row hs hg' hr => ⟨hIx s A B row hs.1 hg' (only (B := B) hr), kept hg' hr (by omega) hs.2.1, kept hg' hr (Nat.le_refl _) hs.2.2⟩)
      ?_ ⟨v3, v1, v2⟩).mono ?_
    · rintro pre x post p W hys hr ⟨i0, i1, i2⟩
      have hlt : L < W.heap.size := (Array.getElem?_eq_some_iff.1 i1).1
      have hy := run_yield (P := P) (args := encs p x) i1 (by rw [hrc]; exact hps p x)
      rw [hrc] at hy
      refine ⟨fn, _, assign, body, hy, roundIn_of_wpIn hfn (hassign _ p x W _ ⟨_, run_beginRound i1 (by rw [hrc]), ?_⟩)⟩
      obtain ⟨bz, hbz⟩ : ∃ bz, bz = { rc .ready none with state := .busy } := ⟨_, rfl⟩
      rw [← hbz]
      have j1 : (W.putObj L (.loop bz)).heap[L]? = some (.loop bz) := World.putObj_heap_same hlt
      have j2 : (W.putObj L (.loop bz)).heap[w.heap.size]? = some (.deferred (some [])) := (World.putObj_heap_other (by omega)).trans i2
      have j3 : Kp W (W.putObj L (.loop bz)) := hKb _ _ _ _ (by omega) i1 rfl
      have fin : ∀ (jump : Option Code) (X : World), KeepsFrom w.heap.size (W.putObj L (.loop bz)) X →
          (Instr.endRound L jump).run P X = .ok (.bool jump.isNone) (X.putObj L (.loop (rc (if jump.isNone then .ready else .done) jump))) ∧
          X.heap[L]? = some (.loop bz) ∧
          (X.putObj L (.loop (rc (if jump.isNone then .ready else .done) jump))).heap[L]? = some (.loop (rc (if jump.isNone then .ready else .done) jump)) ∧
          (X.putObj L (.loop (rc (if jump.isNone then .ready else .done) jump))).heap[w.heap.size]? = some (.deferred (some [])) := fun jump X hk => by
        have k1 := hk.same _ _ (by omega) j1 rfl
        have k2 := run_endRound (P := P) jump k1
        rw [hbz, hrc] at k2
        rw [hrc]
        exact ⟨k2, k1, World.putObj_heap_same (Array.getElem?_eq_some_iff.1 k1).1, (World.putObj_heap_other (by omega)).trans (hk.same _ _ (Nat.le_refl _) j2 rfl)⟩
      refine wpIn_mono (hbody _ pre p x post _ hys (hR p x W L _ _ (by omega) i1 rfl hr) (hI.put _ i0 (by omega) i1 rfl)) ?_
      intro e a3 X hp
      cases e with
      | normal =>
        obtain ⟨p1, p2, p3⟩ := hp
        obtain ⟨f1, f2, f3, f4⟩ := fin none X p1
        exact ⟨_, _, f1, .inl ⟨rfl, ⟨hI.put _ p3 (by omega) f2 rfl, f3, f4⟩, hKt (hKt j3 p2) (hKb _ _ _ _ (by omega) f2 rfl)⟩⟩
      | ret =>
        obtain ⟨p1, p3⟩ := hp
        obtain ⟨f1, f2, f3, f4⟩ := fin (some .ret) X p1
        exact ⟨_, _, f1, .inr ⟨rfl, hIx.put _ p3 (by omega) f2 rfl, f3, f4⟩⟩
      | exit id => exact hp.elim
      | goto t => exact hp.elim
      | panic ch => exact hp.elim
      | outgrown => exact hp.elim
    · rintro e X ⟨⟨v, rfl⟩, (⟨i0, i1, i2⟩ | ⟨pre, x, post, hys, i0, i1, i2⟩)⟩
      · exact ⟨none, _, by have h := run_endLoop (P := P) i1 (by rw [hrc]; simp [rec_]); rw [hrc] at h; exact h, hdone _ _ (Nat.le_refl _) (hI.put _ i0 (by omega) i1 rfl) ((World.putObj_heap_other (by omega)).trans i2)⟩
      · exact ⟨some .ret, _, by have h := run_endLoop (P := P) i1 (by rw [hrc]; simp [rec_]); rw [hrc] at h; exact h, hstop _ pre x post _ (Nat.le_refl _) hys (hIx.put _ i0 (by omega) i1 rfl) ((World.putObj_heap_other (by omega)).trans i2)⟩
end Go.Proofs.Ytiohakpbgmignaa

