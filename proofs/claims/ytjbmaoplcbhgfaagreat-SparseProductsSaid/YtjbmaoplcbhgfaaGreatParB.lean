/-
  How a slice of fractions and a vector come in as parameters of a law.
-/
import Derived.Test.YtjbmaoplcbhgfaaGreatParA
import Derived.Deep.Slices
import Derived.Test.YtjbmaoplcbhgfaaGreatVecA
set_option linter.unusedVariables false
set_option linter.unusedSimpArgs false
namespace Go.Proofs.YtjbmaoplcbhgfaaGreat
open Go.ChangeShapes Go.WideShapes Go.ChangeAt Go.RowKit Go.Joins

theorem weightsAll_mem {H : Type} {P : Program} {e : TypeId} : ∀ {l : List (DataW H)} {d : DataW H}, d ∈ l → ∀ n ∈ d.weights P e, n ∈ DataW.weightsAll P e l
  | _ :: _, _, .head _, n, hn => by unfold DataW.weightsAll; exact List.mem_append_left _ hn
  | _ :: _, _, .tail _ h, n, hn => by unfold DataW.weightsAll; exact List.mem_append_right _ (weightsAll_mem h n hn)

theorem bytes_frac : Tryz.prog.bytesOf 28 = 64 := by kernel_rfl

set_option maxHeartbeats 1000000 in
set_option maxRecDepth 100000 in
/-- A slice of fractions that comes in as a parameter. -/
theorem open_fracs {H : Type} {enc : TypeId × Value → H} {W : World} {base : Nat} {v : Value} {d : DataW H} {p : List MemPlace} (hv0 : Value.okWide Tryz.prog W .any base 50 v) (h : DataW.Trod enc Tryz.prog W 0 (fun _ => true) true 50 v d p)
    (hw : ∀ m ∈ d.weights Tryz.prog 50, m ≤ reachBytes) :
    ∃ (A : Option Addr) (c : Nat) (l : List FE), v = .slice A l.length c ∧ (∀ e ∈ l, FE.P W e) ∧ l.length ≤ 140737488351232 ∧
      (0 < l.length → ∃ g o, A = some ⟨g, o, none⟩ ∧ g < W.heap.size ∧ ∀ k e, l[k]? = some e → FE.In W g (o + k * 4) e) := by
  obtain ⟨a0, len0, cap0, rfl⟩ := okWide_slice Tryz.underlying50 hv0
  obtain ⟨fuel, hf⟩ := h
  rcases Go.Deep.open_slice Tryz.underlying50 hf with ⟨hcs, _⟩ | ⟨a, len, cap, m, n, D, Pl, hcs, _, hl, hm, hmm, hx, hall⟩
  · simp only [Value.cells, List.cons.injEq, and_true, Value.slice.injEq] at hcs
    obtain ⟨rfl, rfl, rfl⟩ := hcs
    exact ⟨none, 0, [], rfl, fun e he => (by cases he), by simp, fun h => (by simp at h)⟩
  · simp only [Value.cells, List.cons.injEq, and_true, Value.slice.injEq] at hcs
    obtain ⟨rfl, rfl, rfl⟩ := hcs
    simp only [if_true] at hmm
    obtain rfl : m = cap0 := hmm
    obtain ⟨hd, _⟩ := Prod.mk.inj hx
    subst hd
    have hweq : DataW.weights Tryz.prog 50 (.slice ((List.range len0).map D) ((List.range (m - len0)).map fun j => D (len0 + j)) : DataW H) = (((List.range len0).map D).length + ((List.range (m - len0)).map fun j => D (len0 + j)).length) * Tryz.prog.bytesOf 28 :: (DataW.weightsAll Tryz.prog 28 ((List.range len0).map D) ++ DataW.weightsAll Tryz.prog 28 ((List.range (m - len0)).map fun j => D (len0 + j))) := by
      conv => lhs; unfold DataW.weights
      simp only [Tryz.underlying50]
    have hcap : m ≤ 140737488351232 := by
      have h1 := hw _ (by rw [hweq]; exact List.mem_cons_self ..)
      simp only [List.length_map, List.length_range, bytes_frac] at h1
      unfold reachBytes at h1
      omega
    have hspot0 : 0 < len0 → a.spot = none := by
      intro hp
      obtain ⟨cs', hr, _⟩ := hall 0 (by omega)
      rw [cells_frac] at hr
      obtain ⟨_, _, hcell⟩ := World.cells?_some hr
      have h0 := hcell 0 (by omega)
      obtain ⟨bb, off, spot⟩ := a
      rw [Go.Deep.add_add] at h0
      have h9 : World.cell? W (⟨bb, off, spot⟩ : Addr) = cs'[0]? := by simpa [Addr.add] using h0
      have h8 : ∃ u, cs'[0]? = some u := by
        have := (World.cells?_some hr).2.1
        exact ⟨cs'[0]'(by omega), List.getElem?_eq_getElem _⟩
      obtain ⟨u, hu⟩ := h8
      exact World.cell?_spot (h9.trans hu)
    have hel : ∀ i, i < len0 → ∃ e : FE, FE.P W e ∧ (∃ g o, a = ⟨g, o, none⟩ ∧ g < W.heap.size ∧ FE.In W g (o + i * 4) e) := by
      intro i hi
      obtain ⟨cs', hr, ht⟩ := hall i (by omega)
      rw [cells_frac] at hr
      obtain ⟨_, hlen, hcell⟩ := World.cells?_some hr
      obtain ⟨k0, k1, k2, k3, rfl⟩ : ∃ k0 k1 k2 k3, cs' = [k0, k1, k2, k3] := by
        match cs', hlen with
        | [k0, k1, k2, k3], _ => exact ⟨k0, k1, k2, k3, rfl⟩
      have hwi : ∀ q ∈ (D i).weights Tryz.prog 28, q ≤ reachBytes := fun q hq => hw q (by
        rw [hweq]
        exact List.mem_cons_of_mem _ (List.mem_append_left _ (weightsAll_mem (List.mem_map.2 ⟨i, List.mem_range.2 hi, rfl⟩) q hq)))
      obtain ⟨s, A, n1, c, da, s', A', n1', c', da', rfl, rfl, rfl, rfl, x1, x2⟩ := frac_cells (y := (D i, Pl i)) ht hwi
      have h0 := hcell 0 (by omega)
      have h1 := hcell 1 (by omega)
      have h2 := hcell 2 (by omega)
      have h3 := hcell 3 (by omega)
      obtain ⟨bb, off, spot⟩ := a
      obtain rfl : spot = none := hspot0 (by omega)
      refine ⟨⟨s, A, n1, c, s', A', n1', c', zOf s (val da), zOf s' (val da')⟩, ⟨da, da', x1, x2, rfl, rfl⟩, bb, off, rfl, ?_, ?_⟩
      · have h9 := World.block_lt_of_cell? _ _ h0
        simpa only [Addr.add_lit] using h9
      · simp only [Addr.add_lit] at h0 h1 h2 h3
        exact ⟨h0, h1, h2, h3⟩
    haveI : Inhabited FE := ⟨⟨false, none, 0, 0, false, none, 0, 0, 0, 0⟩⟩
    obtain ⟨E, hE⟩ := Go.Deep.choose_lt (α := FE) hel
    have hlen : ((List.range len0).map E).length = len0 := by simp
    refine ⟨some a, m, (List.range len0).map E, by rw [hlen], fun e he => ?_, by rw [hlen]; omega, fun hpos => ?_⟩
    · obtain ⟨i, hi, rfl⟩ := List.mem_map.1 he
      exact (hE i (List.mem_range.1 hi)).1
    · rw [hlen] at hpos
      obtain ⟨g, o, rfl, hg, _⟩ := (hE 0 hpos).2
      refine ⟨g, o, rfl, hg, fun k e hk => ?_⟩
      have hkl : k < len0 := by
        rcases Nat.lt_or_ge k len0 with h | h
        · exact h
        · rw [List.getElem?_eq_none (by rw [hlen]; exact h)] at hk; cases hk
      rw [List.getElem?_map, List.getElem?_range hkl] at hk
      simp only [Option.map_some, Option.some.injEq] at hk
      subst hk
      obtain ⟨g', o', he', _, hin⟩ := (hE k hkl).2
      cases he'
      exact hin

theorem bytes_entry : Tryz.prog.bytesOf 49 = 72 := by kernel_rfl
theorem cells_entry : Tryz.prog.cellsOf 49 = 5 := by kernel_rfl

set_option maxHeartbeats 1000000 in
set_option maxRecDepth 100000 in
/-- A vector that comes in as a parameter. -/
theorem open_vec {H : Type} {enc : TypeId × Value → H} {W : World} {base : Nat} {v : Value} {d : DataW H} {p : List MemPlace} (hv0 : Value.okWide Tryz.prog W .any base 23 v) (h : DataW.Trod enc Tryz.prog W 0 (fun _ => true) true 23 v d p)
    (hw : ∀ m ∈ d.weights Tryz.prog 23, m ≤ reachBytes) :
    ∃ (A : Option Addr) (c : Nat) (l : List VE), v = .slice A l.length c ∧ VP W A l := by
  obtain ⟨a0, len0, cap0, rfl⟩ := okWide_slice Tryz.underlying23 hv0
  obtain ⟨fuel, hf⟩ := h
  rcases Go.Deep.open_slice Tryz.underlying23 hf with ⟨hcs, _⟩ | ⟨a, len, cap, m, n, D, Pl, hcs, _, hl, hm, hmm, hx, hall⟩
  · simp only [Value.cells, List.cons.injEq, and_true, Value.slice.injEq] at hcs
    obtain ⟨rfl, rfl, rfl⟩ := hcs
    exact ⟨none, 0, [], rfl, fun e he => (by cases he), by simp, fun h => (by simp at h)⟩
  · simp only [Value.cells, List.cons.injEq, and_true, Value.slice.injEq] at hcs
    obtain ⟨rfl, rfl, rfl⟩ := hcs
    simp only [if_true] at hmm
    obtain rfl : m = cap0 := hmm
    obtain ⟨hd, _⟩ := Prod.mk.inj hx
    subst hd
    have hweq : DataW.weights Tryz.prog 23 (.slice ((List.range len0).map D) ((List.range (m - len0)).map fun j => D (len0 + j)) : DataW H) = (((List.range len0).map D).length + ((List.range (m - len0)).map fun j => D (len0 + j)).length) * Tryz.prog.bytesOf 49 :: (DataW.weightsAll Tryz.prog 49 ((List.range len0).map D) ++ DataW.weightsAll Tryz.prog 49 ((List.range (m - len0)).map fun j => D (len0 + j))) := by
      conv => lhs; unfold DataW.weights
      simp only [Tryz.underlying23]
    have hcap : m ≤ 140737488351232 := by
      have h1 := hw _ (by rw [hweq]; exact List.mem_cons_self ..)
      simp only [List.length_map, List.length_range, bytes_entry] at h1
      unfold reachBytes at h1
      omega
    have hspot0 : 0 < len0 → a.spot = none := by
      intro hp
      obtain ⟨cs', hr, _⟩ := hall 0 (by omega)
      rw [cells_entry] at hr
      obtain ⟨_, _, hcell⟩ := World.cells?_some hr
      have h0 := hcell 0 (by omega)
      obtain ⟨bb, off, spot⟩ := a
      rw [Go.Deep.add_add] at h0
      have h9 : World.cell? W (⟨bb, off, spot⟩ : Addr) = cs'[0]? := by simpa [Addr.add] using h0
      have h8 : ∃ u, cs'[0]? = some u := by
        have := (World.cells?_some hr).2.1
        exact ⟨cs'[0]'(by omega), List.getElem?_eq_getElem _⟩
      obtain ⟨u, hu⟩ := h8
      exact World.cell?_spot (h9.trans hu)
    have hel : ∀ i, i < len0 → ∃ e : VE, FE.P W e.e ∧ (∃ g o, a = ⟨g, o, none⟩ ∧ g < W.heap.size ∧ VE.In W g (o + i * 5) e) := by
      intro i hi
      obtain ⟨cs', hr, ht⟩ := hall i (by omega)
      rw [cells_entry] at hr
      obtain ⟨_, hlen, hcell⟩ := World.cells?_some hr
      obtain ⟨kk, k0, k1, k2, k3, rfl⟩ : ∃ kk k0 k1 k2 k3, cs' = [kk, k0, k1, k2, k3] := by
        match cs', hlen with
        | [kk, k0, k1, k2, k3], _ => exact ⟨kk, k0, k1, k2, k3, rfl⟩
      have hwi : ∀ q ∈ (D i).weights Tryz.prog 49, q ≤ reachBytes := fun q hq => hw q (by
        rw [hweq]
        exact List.mem_cons_of_mem _ (List.mem_append_left _ (weightsAll_mem (List.mem_map.2 ⟨i, List.mem_range.2 hi, rfl⟩) q hq)))
      obtain ⟨y0, y1, mm, hxx, _, hy0, hy1⟩ := trod_struct2 Tryz.underlying49 ht
      have cq : Tryz.prog.cellsOf 3 = 1 := by kernel_rfl
      have e0 : (([kk, k0, k1, k2, k3] : List Value).drop 0).take 1 = [kk] := rfl
      have e1 : (([kk, k0, k1, k2, k3] : List Value).drop 1).take 4 = [k0, k1, k2, k3] := rfl
      replace hy0 : DataW.trod enc Tryz.prog W 0 (fun _ => true) true mm 3 [kk] = some y0 := by rw [cq] at hy0; exact hy0
      replace hy1 : DataW.trod enc Tryz.prog W 0 (fun _ => true) true mm 28 [k0, k1, k2, k3] = some y1 := by rw [cells_frac] at hy1; exact hy1
      have hDi : D i = .agg [y0.1, y1.1] := congrArg Prod.fst hxx
      have hw1 : ∀ q ∈ y1.1.weights Tryz.prog 28, q ≤ reachBytes := fun q hq => hwi q (by rw [hDi]; simp [DataW.weights, DataW.weightsEach, Tryz.underlying49, hq])
      obtain ⟨z, e2, _⟩ := DataW.trod_int Tryz.underlying3 hy0
      simp only [List.cons.injEq, and_true] at e2
      subst e2
      obtain ⟨s, A, n1, c, da, s', A', n1', c', da', rfl, rfl, rfl, rfl, x1, x2⟩ := frac_cells (y := y1) hy1 hw1
      have h0 := hcell 0 (by omega)
      have h1 := hcell 1 (by omega)
      have h2 := hcell 2 (by omega)
      have h3 := hcell 3 (by omega)
      have h4 := hcell 4 (by omega)
      obtain ⟨bb, off, spot⟩ := a
      obtain rfl : spot = none := hspot0 (by omega)
      refine ⟨⟨z, ⟨s, A, n1, c, s', A', n1', c', zOf s (val da), zOf s' (val da')⟩⟩, ⟨da, da', x1, x2, rfl, rfl⟩, bb, off, rfl, ?_, ?_⟩
      · have h9 := World.block_lt_of_cell? _ _ h0
        simpa only [Addr.add_lit] using h9
      · simp only [Addr.add_lit] at h0 h1 h2 h3 h4
        exact ⟨h0, h1, h2, h3, h4⟩
    haveI : Inhabited VE := ⟨⟨0, ⟨false, none, 0, 0, false, none, 0, 0, 0, 0⟩⟩⟩
    obtain ⟨E, hE⟩ := Go.Deep.choose_lt (α := VE) hel
    have hlen : ((List.range len0).map E).length = len0 := by simp
    refine ⟨some a, m, (List.range len0).map E, by rw [hlen], fun e he => ?_, by rw [hlen]; omega, fun hpos => ?_⟩
    · obtain ⟨i, hi, rfl⟩ := List.mem_map.1 he
      exact (hE i (List.mem_range.1 hi)).1
    · rw [hlen] at hpos
      obtain ⟨g, o, rfl, hg, _⟩ := (hE 0 hpos).2
      refine ⟨g, o, rfl, hg, fun k e hk => ?_⟩
      have hkl : k < len0 := by
        rcases Nat.lt_or_ge k len0 with h | h
        · exact h
        · rw [List.getElem?_eq_none (by rw [hlen]; exact h)] at hk; cases hk
      rw [List.getElem?_map, List.getElem?_range hkl] at hk
      simp only [Option.map_some, Option.some.injEq] at hk
      subst hk
      obtain ⟨g', o', he', _, hin⟩ := (hE k hkl).2
      cases he'
      exact hin

end Go.Proofs.YtjbmaoplcbhgfaaGreat

