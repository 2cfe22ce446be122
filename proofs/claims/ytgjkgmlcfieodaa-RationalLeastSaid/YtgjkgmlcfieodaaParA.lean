/-
  How an integer and a fraction come in as parameters of a law.
-/
import Derived.Test.YtgjkgmlcfieodaaRfrac3
import Derived.Test.YtgjkgmlcfieodaaForm2
set_option linter.unusedVariables false
set_option linter.unusedSimpArgs false
namespace Go.Proofs.Ytgjkgmlcfieodaa
section
open Go.RowKit
def InP (w : World) (A : Option Addr) (n c : Nat) (ds : List Nat) : Prop := Dgs w w.heap.size A n ds ∧ n ≤ c ∧ c ≤ maxLen ∧ n ≤ 140737488351232
theorem InP.i {w : World} {A : Option Addr} {n c : Nat} {ds : List Nat} (h : InP w A n c ds) (s : Bool) (hn : n ≤ 12) : IntAt w s A n c (zOf s (val ds)) := ⟨ds, h.1, h.2.1, h.2.2.1, rfl, by omega⟩
theorem InP.z {w : World} {A : Option Addr} {n c : Nat} {ds : List Nat} (h : InP w A n c ds) (s : Bool) (hn : n ≤ 12) : Sz (zOf s (val ds)) 12 := (sz_of h.1 s).mono hn
end
section
open Go.ChangeShapes Go.WideShapes Go.ChangeAt Go.RowKit Go.Joins

theorem cells_frac : Try.prog.cellsOf 26 = 4 := by kernel_rfl

set_option maxRecDepth 100000 in
/-- Two cells that read as an integer. -/
theorem int_cells {H : Type} {enc : TypeId × Value → H} {W : World} {n : Nat} {c0 c1 : Value} {y : DataW H × List MemPlace} (h : DataW.trod enc Try.prog W 0 (fun _ => true) true n 24 [c0, c1] = some y)
    (hw : ∀ m ∈ y.1.weights Try.prog 24, m ≤ reachBytes) :
    ∃ neg A n c da, c0 = .bool neg ∧ c1 = .slice A n c ∧ Dgs W W.heap.size A n da ∧ n ≤ c ∧ c ≤ maxLen ∧ n ≤ 140737488351232 := by
  obtain ⟨y0, y1, m, hx, _, hy0, hy1⟩ := trod_struct2 Try.underlying24 h
  subst hx
  have cb : Try.prog.cellsOf 4 = 1 := by kernel_rfl
  have cu : Try.prog.cellsOf 22 = 1 := by kernel_rfl
  replace hy0 : DataW.trod enc Try.prog W 0 (fun _ => true) true m 4 [c0] = some y0 := by rw [cb] at hy0; exact hy0
  replace hy1 : DataW.trod enc Try.prog W 0 (fun _ => true) true m 22 [c1] = some y1 := by rw [cu] at hy1; exact hy1
  obtain ⟨b, e0, rfl⟩ := DataW.trod_bool Try.underlying4 hy0
  simp only [List.cons.injEq, and_true] at e0
  subst e0
  rcases open_ints Try.underlying22 Try.underlying69 (by kernel_rfl) hy1 with ⟨hcs, _⟩ | ⟨a, len, cap, zs, hcs, _, hl, hm, hz, hx, hcell, hwz⟩
  · simp only [List.cons.injEq, and_true] at hcs
    subst hcs
    exact ⟨b, none, 0, 0, [], rfl, rfl, Dgs.none_, Nat.le_refl _, Nat.zero_le _, Nat.zero_le _⟩
  · simp only [List.cons.injEq, and_true] at hcs
    subst hcs hx
    simp only [if_true] at hz
    have hb : (zs.take len).length + (zs.drop len).length = cap := by rw [← hz, ← List.length_append, List.take_append_drop]
    have hbound : cap * 4 ≤ reachBytes := by
      have h1 := hw (((lits .u32 (zs.take len) : List (DataW H)).length + (lits .u32 (zs.drop len) : List (DataW H)).length) * Try.prog.bytesOf 69) (by
        simp [DataW.weights, DataW.weightsEach, Try.underlying24, Try.underlying22])
      simpa only [lits, List.length_map, hb, bytes_u32] using h1
    have hcap : cap ≤ 35184372087808 := by unfold reachBytes at hbound; omega
    refine ⟨b, some a, len, cap, (zs.take len).map Int.toNat, rfl, rfl, ⟨by simp; omega, ?_, fun hn => ?_⟩, hl, hm, by omega⟩
    · intro x hx
      obtain ⟨z, hz1, rfl⟩ := List.mem_map.1 hx
      have := u32_wf (hwz z (List.mem_of_mem_take hz1))
      rw [BB_eq]; omega
    · obtain ⟨bb, off, spot⟩ := a
      have hc0 := hcell 0 (by omega)
      have hspot : spot = none := by simpa [Addr.add] using World.cell?_spot hc0
      subst hspot
      refine ⟨bb, off, rfl, ?_, fun j hj => ?_⟩
      · have := World.block_lt_of_cell? _ _ hc0
        simpa [Addr.add] using this
      · have h2 := hcell j (by omega)
        rw [Addr.add_lit] at h2
        rw [h2]
        have h3 : zs.getD j 0 = ((((zs.take len).map Int.toNat).getD j 0 : Nat) : Int) := by
          have hj2 : j < zs.length := by omega
          simp only [List.getD, List.getElem?_map, List.getElem?_take, if_pos hj, List.getElem?_eq_getElem hj2, Option.map_some, Option.getD_some]
          exact (Int.toNat_of_nonneg (u32_wf (hwz _ (List.getElem_mem hj2))).1).symm
        rw [h3]

set_option maxRecDepth 100000 in
/-- Four cells that read as a fraction. -/
theorem frac_cells {H : Type} {enc : TypeId × Value → H} {W : World} {n : Nat} {k0 k1 k2 k3 : Value} {y : DataW H × List MemPlace} (h : DataW.trod enc Try.prog W 0 (fun _ => true) true n 26 [k0, k1, k2, k3] = some y)
    (hw : ∀ m ∈ y.1.weights Try.prog 26, m ≤ reachBytes) :
    ∃ s A n c da s' A' n' c' da', k0 = .bool s ∧ k1 = .slice A n c ∧ k2 = .bool s' ∧ k3 = .slice A' n' c' ∧ (Dgs W W.heap.size A n da ∧ n ≤ c ∧ c ≤ maxLen ∧ n ≤ 140737488351232) ∧ (Dgs W W.heap.size A' n' da' ∧ n' ≤ c' ∧ c' ≤ maxLen ∧ n' ≤ 140737488351232) := by
  obtain ⟨y0, y1, m, hx, _, hy0, hy1⟩ := trod_struct2 Try.underlying26 h
  subst hx
  have e0 : (([k0, k1, k2, k3] : List Value).drop 0).take 2 = [k0, k1] := rfl
  have e1 : (([k0, k1, k2, k3] : List Value).drop 2).take 2 = [k2, k3] := rfl
  replace hy0 : DataW.trod enc Try.prog W 0 (fun _ => true) true m 24 [k0, k1] = some y0 := by rw [cells_int] at hy0; exact hy0
  replace hy1 : DataW.trod enc Try.prog W 0 (fun _ => true) true m 24 [k2, k3] = some y1 := by rw [cells_int] at hy1; exact hy1
  have hw0 : ∀ m ∈ y0.1.weights Try.prog 24, m ≤ reachBytes := fun m hm => hw m (by simp [DataW.weights, DataW.weightsEach, Try.underlying26, hm])
  have hw1 : ∀ m ∈ y1.1.weights Try.prog 24, m ≤ reachBytes := fun m hm => hw m (by simp [DataW.weights, DataW.weightsEach, Try.underlying26, hm])
  obtain ⟨s, A, n1, c, da, a1, a2, a3⟩ := int_cells hy0 hw0
  obtain ⟨s', A', n1', c', da', b1, b2, b3⟩ := int_cells hy1 hw1
  exact ⟨s, A, n1, c, da, s', A', n1', c', da', a1, a2, b1, b2, a3, b3⟩
set_option maxRecDepth 100000 in
theorem open_frac {H : Type} {enc : TypeId × Value → H} {W : World} {base : Nat} {v : Value} {d : DataW H} {p : List MemPlace} (hv : Value.okWide Try.prog W .any base 26 v) (h : DataW.Trod enc Try.prog W 0 (fun _ => true) true 26 v d p)
    (hw : ∀ m ∈ d.weights Try.prog 26, m ≤ reachBytes) :
    ∃ s A n c da s' A' n' c' da', v = .agg #[.bool s, .slice A n c, .bool s', .slice A' n' c'] ∧ (Dgs W W.heap.size A n da ∧ n ≤ c ∧ c ≤ maxLen ∧ n ≤ 140737488351232) ∧ (Dgs W W.heap.size A' n' da' ∧ n' ≤ c' ∧ c' ≤ maxLen ∧ n' ≤ 140737488351232) := by
  obtain ⟨cs, rfl, hsz⟩ := okWide_struct Try.underlying26 hv
  obtain ⟨k0, k1, k2, k3, rfl⟩ := array4 (hsz.trans cells_frac)
  obtain ⟨fuel, hf⟩ := h
  obtain ⟨s, A, n, c, da, s', A', n', c', da', rfl, rfl, rfl, rfl, h1, h2⟩ := frac_cells (y := (d, p)) hf hw
  exact ⟨s, A, n, c, da, s', A', n', c', da', rfl, h1, h2⟩
end
end Go.Proofs.Ytgjkgmlcfieodaa

