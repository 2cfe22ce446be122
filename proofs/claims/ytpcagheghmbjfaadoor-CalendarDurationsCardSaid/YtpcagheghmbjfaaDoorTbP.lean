/-
  The program's Lines, at every string.
-/
import Derived.Test.YtpcagheghmbjfaaDoorTbO
set_option linter.unusedVariables false
set_option linter.unusedSimpArgs false
namespace Go.Proofs.YtpcagheghmbjfaaDoor
open Go.RowKit Go.Shelf
attribute [local go_sem] Oper.semAt_some

def linesE (l : List UInt8) : Int := if 20000 < l.length then 10 else if l.all plOk = true then (if 1000 < (lp l).length then 10 else 0) else 1
def linesL (l : List UInt8) : List (List UInt8) := if linesE l = 0 then (lp l).map trim else []
def RetLn (w : World) (ls : List (List UInt8)) (err : Int) (e : Ending) (w' : World) : Prop := ∃ v, e = .returned (.tuple #[v, .int .i64 err]) ∧ w'.ownsRow w.heap.size 9 1 v ls.length (ls.map strV) ∧ Below w.heap.size w w'
theorem bx2 (w : World) (t u : TypeId) (x y : Value) : Boxed ((w.alloc (.cells #[x] t)).alloc (.cells #[y] u)) w.heap.size t x ∧ Boxed ((w.alloc (.cells #[x] t)).alloc (.cells #[y] u)) (w.heap.size + 1) u y := by
  refine ⟨(Boxed.new w t x).alloc _, ?_⟩
  have h := Boxed.new (w.alloc (.cells #[x] t)) u y
  rwa [World.size_alloc] at h
theorem lp_len : ∀ l, ∀ x ∈ lp l, x.length ≤ l.length
  | [], x, h => by simp [lp] at h
  | c :: r, x, h => by
    unfold lp at h
    split at h
    · rcases List.mem_cons.1 h with rfl | h
      · simp
      · have := lp_len r x h; simp only [List.length_cons]; omega
    · split at h
      · simp at h; subst h; simp
      · rename_i p ps hp
        rcases List.mem_cons.1 h with rfl | h
        · have := lp_len r p (by rw [hp]; simp); simp only [List.length_cons]; omega
        · have := lp_len r x (by rw [hp]; exact List.mem_cons_of_mem _ h); simp only [List.length_cons]; omega
theorem lp_mem_len {l : List UInt8} {pre : List (List UInt8)} {x : List UInt8} {post : List (List UInt8)} (h : lp l = pre ++ x :: post) : x.length ≤ l.length :=
  lp_len l x (by rw [h]; simp)
theorem BIn.trim {S : Nat → Prop} {w : World} {a : Option Addr} {x : List UInt8} (h : BIn S w a x) : BIn S w a (trim x) := by
  unfold Go.Proofs.YtpcagheghmbjfaaDoor.trim
  split
  · exact h.take _
  · exact h
theorem boxed_minds {X Y : World} {B N b : Nat} {t : TypeId} {v : Value} {row : Option Nat} (h : Boxed X B t v) (hg : X.grownBy Y row) (hb : B ≠ b) (hrow : ∀ r, row = some r → r = b ∨ (N ≤ r ∧ ∃ o : Obj, X.heap[r]? = some o ∧ o.isCells = false)) : Boxed Y B t v := by
  refine h.kept hg (fun e => ?_)
  rcases hrow B e.symm with h1 | ⟨_, o, ho, hc⟩
  · exact hb h1
  · rw [show X.heap[B]? = _ from h] at ho; cases ho; cases hc
end Go.Proofs.YtpcagheghmbjfaaDoor

