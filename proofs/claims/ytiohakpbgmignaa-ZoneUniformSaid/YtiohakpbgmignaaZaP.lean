/-
  How a zone and a span come in as parameters of a law.
-/
import Derived.WalkKit
import Derived.ProofKit
import Derived.OpenShut
import Derived.ChangeMaps5
import Derived.SliceStrings
import Derived.Deep.Strs
import Derived.Deep.SlicePairs
import Derived.Lib.SmallJoins
import Derived.Test.YtiohakpbgmignaaZaB
set_option linter.unusedVariables false
set_option linter.unusedSimpArgs false
namespace Go.Proofs.Ytiohakpbgmignaa
open Go.ChangeShapes Go.WideShapes Go.ChangeAt Go.RowKit Go.ChangeMaps Go.Joins

theorem own_knob : ownKnob Try.prog.godebug = none := by kernel_rfl
theorem laid_out : laidOutB Try.prog = true := by kernel_rfl
theorem str_list (s : ByteArray) : ∃ l : List UInt8, s = ⟨l.toArray⟩ ∧ l.length = s.size := ⟨s.data.toList, by cases s; rfl, by simp⟩
theorem int64_in {z : Int} (h : (Lit.int .i64 z).wf = true) : -9223372036854775808 ≤ z ∧ z ≤ 9223372036854775807 := by
  simpa [Lit.wf, IntKind.min, IntKind.max, IntKind.signed, IntKind.bits] using h
theorem cells_zone : Try.prog.cellsOf 24 = 3 := by kernel_rfl
theorem cells_span : Try.prog.cellsOf 40 = 2 := by kernel_rfl
theorem open_span {H : Type} {enc : TypeId × Value → H} {W : World} {base : Nat} {v : Value} {d : DataW H} {p : List MemPlace} (hv : Value.okWide Try.prog W .any base 40 v) (h : DataW.Trod enc Try.prog W 0 (fun _ => true) true 40 v d p) :
    ∃ y z : Int, v = .agg #[.int .i64 y, .int .i64 z] ∧ ((-9223372036854775808 ≤ y ∧ y ≤ 9223372036854775807) ∧ (-9223372036854775808 ≤ z ∧ z ≤ 9223372036854775807)) := by
  obtain ⟨cs, rfl, hsz⟩ := okWide_struct Try.underlying40 hv
  obtain ⟨c0, c1, rfl⟩ := Go.Joins.array2 (hsz.trans cells_span)
  obtain ⟨fuel, hf⟩ := h
  have hf' : DataW.trod enc Try.prog W 0 (fun _ => true) true fuel 40 [c0, c1] = some (d, p) := hf
  obtain ⟨y0, y1, m, hx, _, h0, h1⟩ := trod_struct2 Try.underlying40 hf'
  have ci : Try.prog.cellsOf 3 = 1 := by kernel_rfl
  replace h0 : DataW.trod enc Try.prog W 0 (fun _ => true) true m 3 [c0] = some y0 := by rw [ci] at h0; exact h0
  replace h1 : DataW.trod enc Try.prog W 0 (fun _ => true) true m 3 [c1] = some y1 := by rw [ci] at h1; exact h1
  obtain ⟨z0, e0, _, w0⟩ := DataW.trod_int Try.underlying3 h0
  obtain ⟨z1, e1, _, w1⟩ := DataW.trod_int Try.underlying3 h1
  simp only [List.cons.injEq, and_true] at e0 e1
  subst e0 e1
  exact ⟨z0, z1, rfl, int64_in w0, int64_in w1⟩
set_option maxHeartbeats 1000000 in
set_option maxRecDepth 100000 in
theorem open_zone {H : Type} {enc : TypeId × Value → H} {W : World} {base : Nat} {v : Value} {d : DataW H} {p : List MemPlace} (hv : Value.okWide Try.prog W .any base 24 v) (h : DataW.Trod enc Try.prog W 0 (fun _ => true) true 24 v d p) :
    ∃ (nm : List UInt8) (o : Int) (a : Option Addr) (n c : Nat) (ss : List (Int × Int)), v = .agg #[.string ⟨nm.toArray⟩, .int .i64 o, .slice a n c] ∧ nm.length ≤ 9223372036854775807 ∧ (-9223372036854775808 ≤ o ∧ o ≤ 9223372036854775807) ∧ n ≤ 9223372036854775807 ∧ ShIn W a n ss := by
  obtain ⟨cs, rfl, hsz⟩ := okWide_struct Try.underlying24 hv
  obtain ⟨c0, c1, c2, rfl⟩ := Go.Joins.array3 (hsz.trans cells_zone)
  obtain ⟨fuel, hf⟩ := h
  have hf' : DataW.trod enc Try.prog W 0 (fun _ => true) true fuel 24 [c0, c1, c2] = some (d, p) := hf
  obtain ⟨y0, y1, y2, m, hx, _, h0, h1, h2⟩ := Go.Deep.trod_struct3 Try.underlying24 hf'
  have ci : Try.prog.cellsOf 3 = 1 := by kernel_rfl
  have cs_ : Try.prog.cellsOf 9 = 1 := by kernel_rfl
  have cl : Try.prog.cellsOf 22 = 1 := by kernel_rfl
  replace h0 : DataW.trod enc Try.prog W 0 (fun _ => true) true m 9 [c0] = some y0 := by rw [cs_] at h0; exact h0
  replace h1 : DataW.trod enc Try.prog W 0 (fun _ => true) true m 3 [c1] = some y1 := by rw [ci] at h1; exact h1
  replace h2 : DataW.trod enc Try.prog W 0 (fun _ => true) true m 22 [c2] = some y2 := by rw [cl] at h2; exact h2
  obtain ⟨s0, e0, _, w0⟩ := DataW.trod_string Try.underlying9 h0
  obtain ⟨z1, e1, _, w1⟩ := DataW.trod_int Try.underlying3 h1
  simp only [List.cons.injEq, and_true] at e0 e1
  subst e0 e1
  obtain ⟨nm, hnm, hnl⟩ := str_list s0
  have hb0 : nm.length ≤ 9223372036854775807 := by rw [hnl]; unfold maxLen at w0; omega
  rcases Go.Deep.open_slice_pairs Try.underlying22 Try.underlying52 (by kernel_rfl) rfl rfl ci ci h2 with ⟨hcs, _⟩ | ⟨a, len, cap, m2, n2, V0, V1, D0, D1, P0, P1, hcs, _, hl, hm, hmm, hx2, hall⟩
  · simp only [List.cons.injEq, and_true] at hcs
    subst hcs
    exact ⟨nm, z1, none, 0, 0, [], by rw [hnm], hb0, int64_in w1, by omega, rfl, .inl rfl⟩
  · simp only [List.cons.injEq, and_true] at hcs
    subst hcs
    simp only [if_true] at hmm
    subst hmm
    have hel : ∀ i, i < len → ∃ q : Int × Int, V0 i = .int .i64 q.1 ∧ V1 i = .int .i64 q.2 := by
      intro i hi
      obtain ⟨_, _, t0, t1⟩ := hall i (by omega)
      obtain ⟨q0, f0, _⟩ := DataW.trod_int Try.underlying3 t0
      obtain ⟨q1, f1, _⟩ := DataW.trod_int Try.underlying3 t1
      simp only [List.cons.injEq, and_true] at f0 f1
      exact ⟨(q0, q1), f0, f1⟩
    haveI : Inhabited (Int × Int) := ⟨(0, 0)⟩
    obtain ⟨F, hF⟩ := Go.Deep.choose_lt (α := Int × Int) hel
    refine ⟨nm, z1, some a, len, m2, (List.range len).map F, by rw [hnm], hb0, int64_in w1, by unfold maxLen at hm; omega, by simp, ?_⟩
    rcases Nat.eq_zero_or_pos len with h0 | h0
    · exact .inl h0
    · right
      obtain ⟨bb, off, spot⟩ := a
      have hc0 := (hall 0 (by omega)).1
      have hspot : spot = none := by simpa [Addr.add] using World.cell?_spot hc0
      subst hspot
      refine ⟨bb, off, rfl, ?_, fun i hi => ?_⟩
      · have h9 := World.block_lt_of_cell? _ _ hc0
        simpa only [Addr.add_lit] using h9
      · obtain ⟨g0, g1, _⟩ := hall i (by omega)
        simp only [Addr.add_lit] at g0 g1
        have hget : ((List.range len).map F).getD i (0, 0) = F i := by
          simp [List.getD, hi]
        unfold atS ofS
        rw [hget, ← (hF i hi).1, ← (hF i hi).2]
        exact ⟨g0, by rw [← g1]; congr 1⟩
end Go.Proofs.Ytiohakpbgmignaa

