/-
  The program's Fields: the parts of a line that are no blanks, up to a comment.
-/
import Derived.Test.YtiohakpbgmignaaTbC
import Derived.Maps.AppendAt
set_option linter.unusedVariables false
set_option linter.unusedSimpArgs false
namespace Go.Proofs.Ytiohakpbgmignaa
open Go.RowKit Go.Shelf
attribute [local go_sem] Oper.semAt_some

/-- What stands before the first byte b. -/
def bef (b : UInt8) (l : List UInt8) : List UInt8 := if idx l b = -1 then l else l.take (idx l b).toNat
theorem bef_len (b : UInt8) (l : List UInt8) : (bef b l).length ≤ l.length := by
  unfold bef; split
  · exact Nat.le_refl _
  · rw [List.length_take]; omega
def RetCut3 (w : World) (a : Option Addr) (n c : Nat) (e : Ending) (w' : World) : Prop := ∃ v2 v3, e = .returned (.tuple #[.slice a n c, v2, v3]) ∧ ∃ q, w' = w.drewN q
theorem bef_take (b : UInt8) (l : List UInt8) : ∃ k, bef b l = l.take k := by
  unfold bef; split
  · exact ⟨l.length, by simp⟩
  · exact ⟨_, rfl⟩

/-- '[]byte(s)' in a block of its own. -/
theorem BIn.of_row (w : World) (l : List UInt8) (C : Nat) (t : TypeId) (fr : Nat × Nat) : BIn (· = w.heap.size) (w.alloc (.cells (bytesRow ⟨l.toArray⟩ C) t fr)) (some ⟨w.heap.size, 0, none⟩) l := by
  refine .inr ⟨w.heap.size, 0, rfl, rfl, fun i hi => ?_⟩
  rw [World.cell?_alloc_mark, Nat.zero_add, bytesRow_at _ _ _ (by simpa using hi), bAt_get hi]
  rfl
theorem BIn.convert {S : Nat → Prop} {w : World} {a : Option Addr} {l : List UInt8} (h : BIn S w a l) (n c : Nat) (hn : l.length = n) :
    (Go.convert 70 9 (.slice a n c)).run Try.prog w = .ok (.string ⟨l.toArray⟩) w := by
  subst hn
  have key : ∀ x : Addr, (∀ j (hj : j < l.length), w.cell? (x.add j) = some (.int .u8 (l[j].toNat : Int))) → a = some x → (Go.convert 70 9 (.slice a l.length c)).run Try.prog w = .ok (.string ⟨l.toArray⟩) w := fun x hx ha => by
    rw [ha]
    exact run_convert_bytes_back w 70 9 5 x c l Try.underlying70 Try.underlying5 Try.underlying9 hx
  rcases h with h | ⟨g, o, _, ha, hc⟩
  · subst h
    cases a with
    | none => exact run_convert_bytes_nil w 70 5 Try.underlying70 Try.underlying5 0 c 9 Try.underlying9
    | some x => exact key x (fun j hj => absurd hj (by simp)) rfl
  · refine key ⟨g, o, none⟩ (fun j hj => ?_) ha
    rw [show (⟨g, o, none⟩ : Addr).add j = ⟨g, o + j, none⟩ by unfold Addr.add; split <;> simp_all, hc j hj, bAt_get hj]

end Go.Proofs.Ytiohakpbgmignaa

