/-
  The program's Fields: the parts of a line that are no blanks, up to a comment; the line of any bytes.
-/
import Derived.Test.YtiohakpbgmignaaTbD
set_option linter.unusedVariables false
set_option linter.unusedSimpArgs false
namespace Go.Proofs.Ytiohakpbgmignaa
open Go.RowKit Go.Shelf
attribute [local go_sem] Oper.semAt_some

theorem str_info : (Try.prog.info? 9).map (fun i => (i.zero, i.size, i.bytes)) = some (some (.string ⟨#[]⟩), 1, 16) := by kernel_rfl
def strV (l : List UInt8) : Value := .string ⟨l.toArray⟩
/-- What is not empty. -/
def ne_ (ps : List (List UInt8)) : List (List UInt8) := ps.filter fun p => decide (0 < p.length)
theorem ne_hit (pre : List (List UInt8)) {x : List UInt8} (h : 0 < x.length) : ne_ (pre ++ [x]) = ne_ pre ++ [x] := by simp [ne_, List.filter_append, h]
theorem ne_miss (pre : List (List UInt8)) {x : List UInt8} (h : ¬ 0 < x.length) : ne_ (pre ++ [x]) = ne_ pre := by simp [ne_, List.filter_append, h]
theorem ne_len (pre : List (List UInt8)) : (ne_ pre).length ≤ pre.length := List.length_filter_le _ _
def fieldsV (l : List UInt8) : List (List UInt8) := ne_ (pieces 32 (bef 35 l))
theorem pieces_len (b : UInt8) : ∀ l, (pieces b l).length ≤ l.length + 1
  | [] => by simp [pieces]
  | c :: l => by
    have ih := pieces_len b l
    unfold pieces
    split
    · simp only [List.length_cons]; omega
    · split
      · simp
      · rename_i p ps hp
        rw [hp] at ih
        simp only [List.length_cons] at ih ⊢; omega

theorem ownsRow_less {W : World} {base base' : Nat} {e : TypeId} {size : Nat} {v : Value} {k : Nat} {xs : List Value} (h : W.ownsRow base e size v k xs) (hb : base' ≤ base) : W.ownsRow base' e size v k xs := by
  refine ⟨h.1, ?_⟩
  rcases h.2 with h | ⟨g, cap, cur, h1, h2, h3⟩
  · exact .inl h
  · exact .inr ⟨g, cap, cur, h1, by omega, h3⟩
theorem ownsRow_block {W : World} {base : Nat} {e : TypeId} {size : Nat} {v : Value} {k : Nat} {xs : List Value} (h : W.ownsRow base e size v k xs) : ∀ g, v.ownBlock = some g → base ≤ g ∧ ∃ o : Obj, W.heap[g]? = some o ∧ o.isCells = true := by
  intro g hg
  rcases h.2 with ⟨rfl, _⟩ | ⟨g', cap, cur, rfl, h2, h3, _⟩
  · simp [Value.ownBlock] at hg
  · obtain rfl : g' = g := by simpa [Value.ownBlock] using hg
    exact ⟨h2, _, h3, rfl⟩
theorem below_drewN {B : Nat} {a w : World} (h : Below B a w) (q : Nat) : Below B a (w.drewN q) := ⟨h.os, h.tape, h.output, by simpa using h.size, fun k hk => by have := h.block k hk; simpa using this⟩
theorem boxes5 (W : World) (t1 t2 t3 t4 t5 : TypeId) (v1 v2 v3 v4 v5 : Value) (WL : World) (hWL : WL = ((((W.alloc (.cells #[v1] t1)).alloc (.cells #[v2] t2)).alloc (.cells #[v3] t3)).alloc (.cells #[v4] t4)).alloc (.cells #[v5] t5)) :
    Boxed WL W.heap.size t1 v1 ∧ Boxed WL (W.heap.size + 1) t2 v2 ∧ Boxed WL (W.heap.size + 2) t3 v3 ∧ Boxed WL (W.heap.size + 3) t4 v4 ∧ Boxed WL (W.heap.size + 4) t5 v5 ∧ WL.heap.size = W.heap.size + 5 ∧ Below W.heap.size W WL := by
  subst hWL
  refine ⟨((((Boxed.new W t1 v1).alloc _).alloc _).alloc _).alloc _, ?_, ?_, ?_, ?_, by simp, ?_⟩
  · have h := Boxed.new (W.alloc (.cells #[v1] t1)) t2 v2
    rw [World.size_alloc] at h
    exact ((h.alloc _).alloc _).alloc _
  · have h := Boxed.new ((W.alloc (.cells #[v1] t1)).alloc (.cells #[v2] t2)) t3 v3
    rw [World.size_alloc, World.size_alloc] at h
    exact (h.alloc _).alloc _
  · have h := Boxed.new (((W.alloc (.cells #[v1] t1)).alloc (.cells #[v2] t2)).alloc (.cells #[v3] t3)) t4 v4
    rw [World.size_alloc, World.size_alloc, World.size_alloc] at h
    exact h.alloc _
  · have h := Boxed.new ((((W.alloc (.cells #[v1] t1)).alloc (.cells #[v2] t2)).alloc (.cells #[v3] t3)).alloc (.cells #[v4] t4)) t5 v5
    rw [World.size_alloc, World.size_alloc, World.size_alloc, World.size_alloc] at h
    exact h
  · exact (((((Below.refl _ W).alloc (Nat.le_refl _) _).alloc (by simp) _).alloc (by simp; omega) _).alloc (by simp; omega) _).alloc (by simp; omega) _

def RetStrs (w : World) (fs : List (List UInt8)) (e : Ending) (w' : World) : Prop := ∃ v, e = .returned v ∧ w'.ownsRow w.heap.size 9 1 v fs.length (fs.map strV) ∧ Below w.heap.size w w'

end Go.Proofs.Ytiohakpbgmignaa

