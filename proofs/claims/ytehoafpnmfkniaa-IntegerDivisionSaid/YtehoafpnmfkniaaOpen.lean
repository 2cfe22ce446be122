/-
  An integer among a law's arguments, opened; and the law's last step.
-/
import Derived.Test.YtehoafpnmfkniaaRow
import Derived.Test.YtehoafpnmfkniaaRows
import Derived.WalkKit
import Derived.ProofKit
import Derived.OpenShut
import Derived.ShutString
import Derived.ChangeOld
import Derived.Below
import Derived.SizedLaws
import Derived.Lib.SmallJoins
set_option linter.unusedVariables false
set_option linter.unusedSimpArgs false
namespace Go.Proofs.Ytehoafpnmfkniaa
open Go.ChangeShapes Go.WideShapes Go.ChangeAt Go.RowKit Go.Joins
open Go.ChangeMaps (open_string shut_string)

theorem own_knob : ownKnob Try.prog.godebug = none := by kernel_rfl
theorem laid_out : laidOutB Try.prog = true := by kernel_rfl
theorem cells_int : Try.prog.cellsOf 24 = 2 := by kernel_rfl
theorem bytes_u32 : Try.prog.bytesOf 74 = 4 := by kernel_rfl

theorem u32_wf {n : Int} (h : (Lit.int .u32 n).wf = true) : 0 ≤ n ∧ n ≤ 4294967295 := by
  simpa [Lit.wf, IntKind.min, IntKind.max, IntKind.signed, IntKind.bits] using h

set_option maxRecDepth 100000 in
theorem open_api {H : Type} {enc : TypeId × Value → H} {W : World} {base : Nat} {v : Value} {d : DataW H} {p : List MemPlace} (hv : Value.okWide Try.prog W .any base 24 v) (h : DataW.Trod enc Try.prog W 0 (fun _ => true) true 24 v d p)
    (hw : ∀ m ∈ d.weights Try.prog 24, m ≤ reachBytes) :
    ∃ neg A n c da, v = .agg #[.bool neg, .slice A n c] ∧ Dgs W W.heap.size A n da ∧ n ≤ c ∧ c ≤ maxLen ∧ n ≤ 140737488351232 := by
  obtain ⟨c0, c1, y0, y1, m, rfl, rfl, rfl, hy0, hy1⟩ := open_agg2 Try.underlying24 (by kernel_rfl) cells_int hv h
  obtain ⟨b, e0, rfl⟩ := DataW.trod_bool Try.underlying4 hy0
  simp only [List.cons.injEq, and_true] at e0
  subst e0
  rcases open_ints Try.underlying22 Try.underlying74 (by kernel_rfl) hy1 with ⟨hcs, _⟩ | ⟨a, len, cap, zs, hcs, _, hl, hm, hz, hx, hcell, hwz⟩
  · simp only [List.cons.injEq, and_true] at hcs
    subst hcs
    exact ⟨b, none, 0, 0, [], rfl, Dgs.none_, Nat.le_refl _, Nat.zero_le _, Nat.zero_le _⟩
  · simp only [List.cons.injEq, and_true] at hcs
    subst hcs hx
    simp only [if_true] at hz
    have hb : (zs.take len).length + (zs.drop len).length = cap := by rw [← hz, ← List.length_append, List.take_append_drop]
    have hbound : cap * 4 ≤ reachBytes := by
      have h1 := hw (((lits .u32 (zs.take len) : List (DataW H)).length + (lits .u32 (zs.drop len) : List (DataW H)).length) * Try.prog.bytesOf 74) (by
        simp [DataW.weights, DataW.weightsEach, Try.underlying24, Try.underlying22])
      simpa only [lits, List.length_map, hb, bytes_u32] using h1
    have hcap : cap ≤ 35184372087808 := by unfold reachBytes at hbound; omega
    refine ⟨b, some a, len, cap, (zs.take len).map Int.toNat, rfl, ⟨by simp; omega, ?_, fun hn => ?_⟩, hl, hm, by omega⟩
    · intro x hx
      obtain ⟨z, hz1, rfl⟩ := List.mem_map.1 hx
      have := u32_wf (hwz z (List.mem_of_mem_take hz1))
      rw [BB_eq]; omega
    · obtain ⟨bb, off, spot⟩ := a
      have hc0 := hcell 0 (by omega)
      have hspot : spot = none := by simpa [Addr.add] using World.cell?_spot hc0
      subst hspot
      refine ⟨bb, off, rfl, ?_, fun j hj => ?_⟩
      · have := World.block_lt_of_cell? _ _ hc0
        simpa [Addr.add] using this
      · have h2 := hcell j (by omega)
        rw [Addr.add_lit] at h2
        rw [h2]
        have h3 : zs.getD j 0 = ((((zs.take len).map Int.toNat).getD j 0 : Nat) : Int) := by
          have hj2 : j < zs.length := by omega
          simp only [List.getD, List.getElem?_map, List.getElem?_take, if_pos hj, List.getElem?_eq_getElem hj2, Option.map_some, Option.getD_some]
          exact (Int.toNat_of_nonneg (u32_wf (hwz _ (List.getElem_mem hj2))).1).symm
        rw [h3]
end Go.Proofs.Ytehoafpnmfkniaa
