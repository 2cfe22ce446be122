/-
  Rows that a call builds and that hold no digits: append onto them leaves all integers in memory as they were.
-/
import Derived.Test.YtgjkgmlcfieodaaSt
import Derived.Laws.OwnMore
import Derived.Laws.AppendOwn
import Derived.OwnWalk
set_option linter.unusedVariables false
set_option linter.unusedSimpArgs false
namespace Go.Proofs.Ytgjkgmlcfieodaa
open Go.RowKit

theorem Plains.of {l : List Value} (h : ∀ v ∈ l, Plain v) : Plains l := by
  induction l with
  | nil => exact trivial
  | cons u l ih => exact ⟨h u (by simp), ih fun v hv => h v (by simp [hv])⟩
theorem Plains.mem {l : List Value} (h : Plains l) : ∀ v ∈ l, Plain v := by
  induction l with
  | nil => intro v hv; cases hv
  | cons u l ih =>
    intro v hv
    rcases List.mem_cons.1 hv with rfl | hv
    · exact h.1
    · exact ih h.2 v hv
theorem Plains.append {l m : List Value} (h : Plains l) (h' : Plains m) : Plains (l ++ m) :=
  Plains.of fun v hv => (List.mem_append.1 hv).elim (h.mem v) (h'.mem v)
theorem Plain.int (k : IntKind) (x : Int) (hk : k ≠ .u32) : Plain (.int k x) := fun y h => by cases h; exact hk rfl
theorem plains_zero {z : Array Value} (h : Plains z.toList) (n : Nat) : Plains (Builtin.zeroCells z n).toList := by
  refine Plains.of fun v hv => ?_
  rw [Array.mem_toList_iff] at hv
  unfold Builtin.zeroCells at hv
  simp only [Array.mem_map, Array.mem_range] at hv
  obtain ⟨j, hj, rfl⟩ := hv
  have hz : 0 < z.size := by
    rcases Nat.eq_zero_or_pos z.size with h0 | h0
    · rw [h0] at hj; simp at hj
    · exact h0
  have hlt : j % z.size < z.size := Nat.mod_lt _ hz
  rw [getElem!_pos z (j % z.size) hlt]
  exact h.mem _ (by rw [Array.mem_toList_iff]; exact Array.getElem_mem hlt)

/-- An own row no cell of which is a digit. -/
def PRow (w : World) (B : Nat) (e : TypeId) (size : Nat) (v : Value) (n : Nat) (xs : List Value) : Prop :=
  w.ownsRow B e size v n xs ∧ ∀ g, v.ownBlock = some g → ∃ vs, OwnL w g e vs ∧ Plains vs
section
variable {w w' : World} {B : Nat} {e : TypeId} {size : Nat} {v : Value} {n : Nat} {xs : List Value}
theorem PRow.nil (w : World) (B : Nat) (e : TypeId) (size : Nat) : PRow w B e size (.slice none 0 0) 0 [] := ⟨World.ownsRow_nil _ _ _ _, fun g hg => by cases hg⟩
theorem PRow.call (h : PRow w B e size v n xs) (hb : Below w.heap.size w w') : PRow w' B e size v n xs := by
  refine ⟨⟨h.1.1, ?_⟩, fun g hg => ?_⟩
  · rcases h.1.2 with hn | ⟨g, cap, cur, rfl, h1, h2, h3⟩
    · exact .inl hn
    · refine .inr ⟨g, cap, cur, rfl, h1, ?_, h3⟩
      rw [hb.block g (Array.getElem?_eq_some_iff.1 h2).1]; exact h2
  · obtain ⟨vs, h1, h2⟩ := h.2 g hg
    exact ⟨vs, h1.below hb, h2⟩
/-- An integer in memory is as it was when another block than its own changed: an own row holds none of its digits. -/
theorem Dgs.grown {C m : Nat} {A : Option Addr} {ds : List Nat} (h : Dgs w w.heap.size A m ds) (hr : PRow w B e size v n xs) (hg : w.grownBy w' v.ownBlock) : Dgs w' w'.heap.size A m ds := by
  refine ⟨h.1, h.2.1, fun hm => ?_⟩
  obtain ⟨b, off, ea, hb, hc⟩ := h.at_ hm
  refine ⟨b, off, ea, Nat.lt_of_lt_of_le hb hg.size, fun j hj => ?_⟩
  have hne : some b ≠ v.ownBlock := by
    intro e1
    obtain ⟨vs, h1, h2⟩ := hr.2 b e1.symm
    obtain ⟨b', off', ea', _, hne, _⟩ := h.off h1 h2 hm
    rw [ea] at ea'
    cases ea'
    exact hne rfl
  exact (World.cell?_of_block (a := ⟨b, off + j, none⟩) (hg.block b hb hne)).trans (hc j hj)
theorem CanAt.grown {s : Bool} {A : Option Addr} {m c : Nat} {z : Int} (h : CanAt w s A m c z) (hr : PRow w B e size v n xs) (hg : w.grownBy w' v.ownBlock) : CanAt w' s A m c z :=
  ⟨h.1, h.2.1.grown (C := 0) hr hg, h.2.2⟩
theorem IntAt.grown {s : Bool} {A : Option Addr} {m c : Nat} {z : Int} (h : IntAt w s A m c z) (hr : PRow w B e size v n xs) (hg : w.grownBy w' v.ownBlock) : IntAt w' s A m c z := by
  obtain ⟨ds, h1, h2⟩ := h
  exact ⟨ds, h1.grown (C := 0) hr hg, h2⟩
end

section
variable {P : Program} (w : World)
theorem run_append_p (base : Nat) (t ty e : TypeId) (i : TypeInfo) (z : Value) (size bytes : Nat) (ht : P.underlying t = some (.slice e)) (hi : P.info? e = some i) (hz : i.zero = some z)
    (hsize : i.size = size) (hby : i.bytes = bytes) (hzs : z.cells.size = size) (hsz : 0 < size) (hzp : Plains z.cells.toList)
    (v : Value) (n : Nat) (xs : List Value) (hown : PRow w base e size v n xs)
    (a : Addr) (m c : Nat) (news : List Value) (hl : news.length = m * size) (hnews : ∀ j u, news[j]? = some u → w.cell? (a.add j) = some u) (h1 : ∀ u ∈ news, u.oneCell' = true) (hnp : Plains news) (hm : 0 < m)
    (h63 : n + m ≤ maxLen) (hbytes : (n + m) * bytes ≤ 140737488355328) (hbase : base ≤ w.heap.size) :
    ∃ v' w', (Builtin.append_ #[t, t] ty #[v, .slice (some a) m c]).run P w = .ok v' w' ∧ PRow w' base e size v' (n + m) (xs ++ news) ∧ w.grownBy w' v.ownBlock := by
  obtain ⟨v', w', hr, hown', hgr, _⟩ := run_append_own (P := P) w base t ty e i z size bytes ht hi hz hsize hby hzs hsz v n xs hown.1 a m c news hl hnews h1 h63 hbytes hbase
  refine ⟨v', w', hr, ⟨hown', fun g' hg' => ?_⟩, hgr⟩
  subst hsize
  subst hby
  have hsmall : n + m ≤ 9223372036854775807 := by simp only [maxLen] at h63; omega
  rcases hown.1.2 with ⟨rfl, rfl⟩ | ⟨g, cap, cur, rfl, hbg, hg, hnc, hcm, hcs, htake⟩
  · have hr2 := run_append_nil (P := P) w t ty e i z ht hi hz a m c news hl hnews hm (by omega) (by have hb := hbytes; simp only [Nat.zero_add] at hb; omega)
    rw [hr2] at hr
    cases hr
    cases hg'
    refine ⟨news ++ (Builtin.zeroCells z.cells (grownCap w m 0 e - m)).toList, ?_, hnp.append (plains_zero hzp _)⟩
    unfold OwnL
    have := heap_alloc_new w.drew (.cells (news.toArray ++ Builtin.zeroCells z.cells (grownCap w m 0 e - m)) e)
    rw [show (news ++ (Builtin.zeroCells z.cells (grownCap w m 0 e - m)).toList).toArray = news.toArray ++ Builtin.zeroCells z.cells (grownCap w m 0 e - m) from by simp]
    exact this
  · obtain ⟨vs, hvs, hps⟩ := hown.2 g rfl
    have hcur : cur = vs.toArray := by
      unfold OwnL at hvs
      rw [hg] at hvs
      cases hvs
      rfl
    have hpx : Plains xs := by
      rw [← htake, hcur]
      exact Plains.of fun u hu => hps.mem u (List.mem_of_mem_take hu)
    by_cases hroom : n + m ≤ cap
    · have hfit : n * i.size + news.length ≤ cur.size := by rw [hl, hcs, ← Nat.add_mul]; exact Nat.mul_le_mul_right _ hroom
      have hr2 := run_append_room (P := P) w t ty e i ht hi g n cap cur hg a m c news hl hnews h1 hroom hfit
      rw [hr2] at hr
      cases hr
      cases hg'
      refine ⟨cur.toList.take (n * i.size) ++ news ++ cur.toList.drop (n * i.size + news.length), setRow_heap w g cur _ e _ hg, ?_⟩
      have hpc : Plains cur.toList := by rw [hcur]; exact hps
      exact ((Plains.of fun u hu => hpc.mem u (List.mem_of_mem_take hu)).append hnp).append (Plains.of fun u hu => hpc.mem u (List.mem_of_mem_drop hu))
    · have holds : ∀ j u, xs[j]? = some u → w.cell? ((⟨g, 0, none⟩ : Addr).add j) = some u := hown.1.cells (g := g) rfl
      have hr2 := run_append_grow (P := P) w t ty e i z ht hi hz ⟨g, 0, none⟩ n cap xs hown.1.1 holds a m c news hl hnews (by omega) (by omega) (growslice_fits (by omega) hbytes)
      rw [hr2] at hr
      cases hr
      cases hg'
      refine ⟨xs ++ news ++ (Builtin.zeroCells z.cells (grownCap w (n + m) cap e - (n + m))).toList, ?_, (hpx.append hnp).append (plains_zero hzp _)⟩
      unfold OwnL
      have := heap_alloc_new w.drew (.cells (xs.toArray ++ news.toArray ++ Builtin.zeroCells z.cells (grownCap w (n + m) cap e - (n + m))) e)
      rw [show (xs ++ news ++ (Builtin.zeroCells z.cells (grownCap w (n + m) cap e - (n + m))).toList).toArray = xs.toArray ++ news.toArray ++ Builtin.zeroCells z.cells (grownCap w (n + m) cap e - (n + m)) from by simp]
      exact this

/-- At the operation. -/
theorem wp_append_p {o : Oper} {a : Act} {K : Act → World → Prop} {Q : Exit → Act → World → Prop} (s x : Operand) (t : TypeId)
    (ho : o.op = .call { callee := .builtin .append, args := #[s, x], argTypes := #[t, t] })
    (base : Nat) (e : TypeId) (i : TypeInfo) (z : Value) (size bytes : Nat) (ht : P.underlying t = some (.slice e)) (hi : P.info? e = some i) (hz : i.zero = some z)
    (hsize : i.size = size) (hby : i.bytes = bytes) (hzs : z.cells.size = size) (hsz : 0 < size) (hzp : Plains z.cells.toList)
    (v : Value) (n : Nat) (xs : List Value) (hs : a.eval s = v) (hown : PRow w base e size v n xs)
    (ad : Addr) (m c : Nat) (news : List Value) (hx : a.eval x = .slice (some ad) m c) (hl : news.length = m * size) (hnews : ∀ j u, news[j]? = some u → w.cell? (ad.add j) = some u) (h1 : ∀ u ∈ news, u.oneCell' = true) (hnp : Plains news) (hm : 0 < m)
    (h63 : n + m ≤ maxLen) (hbytes : (n + m) * bytes ≤ 140737488355328) (hbase : base ≤ w.heap.size)
    (h : ∀ v' w', PRow w' base e size v' (n + m) (xs ++ news) → w.grownBy w' v.ownBlock → K (a.put o.dst v') w') : o.wp P a w K Q := by
  obtain ⟨v', w', hr, h2, h3⟩ := run_append_p (P := P) w base t o.type e i z size bytes ht hi hz hsize hby hzs hsz hzp v n xs hown ad m c news hl hnews h1 hnp hm h63 hbytes hbase
  unfold Oper.wp execOp
  simp only [ho, resolve, invoke, builtin, Sem.run_bind, Sem.run_pure, Result.andThen_ok, List.map_toArray, List.map_cons, List.map_nil, hs, hx, hr]
  exact h v' w' h2 h3

/-- At a step of a region that draws its order. -/
theorem step_append_p {ops : Array Oper} {o : Oper} {a : Act} {K : Act → World → Prop} {Q : Exit → Act → World → Prop} {E : Prop} (hgd : o.guard = none) (s x : Operand) (t : TypeId)
    (ho : o.op = .call { callee := .builtin .append, args := #[s, x], argTypes := #[t, t] })
    (base : Nat) (e : TypeId) (i : TypeInfo) (z : Value) (size bytes : Nat) (ht : P.underlying t = some (.slice e)) (hi : P.info? e = some i) (hz : i.zero = some z)
    (hsize : i.size = size) (hby : i.bytes = bytes) (hzs : z.cells.size = size) (hsz : 0 < size) (hzp : Plains z.cells.toList)
    (v : Value) (n : Nat) (xs : List Value) (hs : a.eval s = v) (hown : PRow w base e size v n xs)
    (ad : Addr) (m c : Nat) (news : List Value) (hx : a.eval x = .slice (some ad) m c) (hl : news.length = m * size) (hnews : ∀ j u, news[j]? = some u → w.cell? (ad.add j) = some u) (h1 : ∀ u ∈ news, u.oneCell' = true) (hnp : Plains news) (hm : 0 < m)
    (h63 : n + m ≤ maxLen) (hbytes : (n + m) * bytes ≤ 140737488355328) (hbase : base ≤ w.heap.size)
    (h : ∀ v' w', PRow w' base e size v' (n + m) (xs ++ news) → w.grownBy w' v.ownBlock → K (a.put o.dst v') w') :
    if Region.wanted o (yielded ops a.tmps) = true then Oper.wp P o a w K Q else E := by
  have hw : Region.wanted o (yielded ops a.tmps) = true := by simp [Region.wanted, hgd]
  rw [if_pos hw]
  exact wp_append_p (P := P) w s x t ho base e i z size bytes ht hi hz hsize hby hzs hsz hzp v n xs hs hown ad m c news hx hl hnews h1 hnp hm h63 hbytes hbase h

/-- At the operation, for the walk. -/
theorem wpList_append_p {ops : Array Oper} {rest : List Oper} {o : Oper} {a : Act} {Q : Exit → Act → World → Prop} (hgd : o.guard = none) (s x : Operand) (t : TypeId)
    (ho : o.op = .call { callee := .builtin .append, args := #[s, x], argTypes := #[t, t] })
    (base : Nat) (e : TypeId) (i : TypeInfo) (z : Value) (size bytes : Nat) (ht : P.underlying t = some (.slice e)) (hi : P.info? e = some i) (hz : i.zero = some z)
    (hsize : i.size = size) (hby : i.bytes = bytes) (hzs : z.cells.size = size) (hsz : 0 < size) (hzp : Plains z.cells.toList)
    (v : Value) (n : Nat) (xs : List Value) (hs : a.eval s = v) (hown : PRow w base e size v n xs)
    (ad : Addr) (m c : Nat) (news : List Value) (hx : a.eval x = .slice (some ad) m c) (hl : news.length = m * size) (hnews : ∀ j u, news[j]? = some u → w.cell? (ad.add j) = some u) (h1 : ∀ u ∈ news, u.oneCell' = true) (hnp : Plains news) (hm : 0 < m)
    (h63 : n + m ≤ maxLen) (hbytes : (n + m) * bytes ≤ 140737488355328) (hbase : base ≤ w.heap.size)
    (h : ∀ v' w', PRow w' base e size v' (n + m) (xs ++ news) → w.grownBy w' v.ownBlock → wpList P ops Q rest (a.put o.dst v') w') :
    wpList P ops Q (o :: rest) a w := by
  refine wpList_plain hgd fun K hK => ?_
  obtain ⟨v', w', hr, h2, h3⟩ := run_append_p (P := P) w base t o.type e i z size bytes ht hi hz hsize hby hzs hsz hzp v n xs hown ad m c news hl hnews h1 hnp hm h63 hbytes hbase
  unfold Oper.wp execOp
  simp only [ho, resolve, invoke, builtin, Sem.run_bind, Sem.run_pure, Result.andThen_ok, List.map_toArray, List.map_cons, List.map_nil, hs, hx, hr]
  exact hK _ _ (h v' w' h2 h3)
end
end Go.Proofs.Ytgjkgmlcfieodaa

