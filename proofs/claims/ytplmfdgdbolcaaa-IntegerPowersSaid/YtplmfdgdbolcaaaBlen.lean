/-
  Bit lengths of integers, on both sides.
-/
import Derived.Test.YtplmfdgdbolcaaaGcd
set_option linter.unusedVariables false
set_option linter.unusedSimpArgs false
namespace Go.Proofs.Ytplmfdgdbolcaaa
open Go.RowKit

def RetBl (w : World) (x : Int) (e : Ending) (w' : World) : Prop := e = .returned (.int .i64 (bl x.natAbs : Nat)) ∧ Below w.heap.size w w'

set_option maxRecDepth 100000 in
theorem blen_at {w : World} {s : Bool} {A : Option Addr} {n c : Nat} {x : Int} (h : IntAt w s A n c x) : Calls Try.prog 24 #[.agg #[.bool s, .slice A n c]] w (RetBl w x) := by
  have K := ((St.start w).addI h).new 24 (Plains.two s A n c)
  have hl := h.lim
  obtain ⟨L, HL⟩ : ∃ v, Hid (bl x.natAbs = v) := ⟨_, rfl⟩
  unfold RetBl
  rw [HL.out]
  clear h
  go_enter Try.func24, Try.ntmps24
  go_wp2_with (first
    | (go_at_call 98; obtain ⟨ia, _⟩ := K.ints; (with_reducible refine (trim_at ia.i).mono ?_); rintro e w1 ⟨t, rfl, d, u, rfl⟩)
    | (go_at_call 101; (with_reducible refine (pbitLen_any _ _ _ _ _ _ d (by omega)).mono ?_); rw [HL.out]; rintro e w1 ⟨rfl, rfl⟩)
    | fail)
  go_ret
  exact ⟨rfl, bnew _ _⟩

set_option maxRecDepth 100000 in
theorem rblen_at {w : World} {s : Bool} {A : Option Addr} {n c : Nat} {x : Int} (h : IntAt w s A n c x) : Calls Try.prog 25 #[.agg #[.bool s, .slice A n c]] w (RetBl w x) := by
  obtain ⟨ds, h1, h2, h3, rfl, h5⟩ := h
  unfold RetBl
  rw [zOf_natAbs]
  have hd := (h1.alloc (Nat.le_refl _) (.cells #[.bool s, .slice A n c] 24))
  obtain ⟨L, HL⟩ : ∃ v, Hid (bl (val ds) = v) := ⟨_, rfl⟩
  have hb := rbitLen_any A n c _ ds _ hd h2 h3 h5
  rw [HL.out] at hb ⊢
  clear h1
  go_enter Try.func25, Try.ntmps25
  go_wp2_with (first
    | (go_at_call 106; (with_reducible refine hb.mono ?_); rintro e w1 ⟨rfl, rfl⟩)
    | fail)
  go_ret
  exact ⟨rfl, bnew _ _⟩
end Go.Proofs.Ytplmfdgdbolcaaa
