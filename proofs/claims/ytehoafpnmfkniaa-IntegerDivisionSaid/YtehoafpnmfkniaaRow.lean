/-
  A row of digits that the call itself has made and writes into.
-/
import Derived.Test.YtehoafpnmfkniaaWords
set_option linter.unusedVariables false
set_option linter.unusedSimpArgs false
namespace Go.Proofs.Ytehoafpnmfkniaa
open Go.RowKit

def dcell (d : Nat) : Value := .int .u32 (d : Nat)
/-- Block b is a row of its own whose first cells are the numbers xs. -/
def Row (w : World) (b : Nat) (xs : List Nat) : Prop := ∃ rest : List Value, w.heap[b]? = some (.cells (xs.map dcell ++ rest).toArray 74 (0, 0))
section
variable {w w' : World} {b : Nat} {xs : List Nat}
theorem Row.lt (h : Row w b xs) : b < w.heap.size := by
  rcases Nat.lt_or_ge b w.heap.size with hlt | hge
  · exact hlt
  · obtain ⟨rest, h⟩ := h; rw [Array.getElem?_eq_none hge] at h; cases h
theorem Row.cell (h : Row w b xs) {j : Nat} (hj : j < xs.length) : w.cell? ⟨b, j, none⟩ = some (.int .u32 (xs.getD j 0 : Nat)) := by
  obtain ⟨rest, h⟩ := h
  simp [World.cell?, h, List.getD, hj, dcell, List.getElem?_append]
theorem Row.frozen (h : Row w b xs) (j : Nat) : w.frozen? ⟨b, j, none⟩ = false := by
  obtain ⟨rest, h⟩ := h
  simp [World.frozen?, h]
theorem Row.of_block (h : Row w b xs) (hb : w'.heap[b]? = w.heap[b]?) : Row w' b xs := by
  obtain ⟨rest, h⟩ := h
  exact ⟨rest, hb.trans h⟩
theorem Row.below (h : Row w b xs) (hb : Below w.heap.size w w') : Row w' b xs := h.of_block (hb.block b h.lt)
theorem Row.alloc (h : Row w b xs) (o : Obj) : Row (w.alloc o) b xs := h.of_block (Below.heap_alloc w o b h.lt)
theorem Row.drew (h : Row w b xs) : Row w.drew b xs := h
theorem Row.drewN (h : Row w b xs) (n : Nat) : Row (w.drewN n) b xs := h
theorem Row.far (h : Row w b xs) {p : Addr} (hp : b ≠ p.block) (u : Value) : Row (w.setCell p u) b xs := h.of_block (Below.heap_setCell w p u b hp)
theorem Row.take (h : Row w b xs) (n : Nat) : Row w b (xs.take n) := by
  obtain ⟨rest, h⟩ := h
  refine ⟨(xs.drop n).map dcell ++ rest, ?_⟩
  rw [← List.append_assoc, ← List.map_append, List.take_append_drop]
  exact h
theorem Row.set (h : Row w b xs) (i v : Nat) : Row (w.setCell ⟨b, i, none⟩ (.int .u32 (v : Nat))) b (xs.set i v) := by
  obtain ⟨rest, h⟩ := h
  by_cases hi : i < xs.length
  · refine ⟨rest, ?_⟩
    have e : ((xs.set i v).map dcell ++ rest).toArray = ((xs.map dcell ++ rest).toArray).setIfInBounds i (dcell v) := by
      apply Array.ext'
      simp [List.map_set, List.set_append, hi]
    rw [e]
    simp [World.setCell, Array.getElem?_modify, h, dcell]
  · refine ⟨rest.set (i - xs.length) (dcell v), ?_⟩
    have e : ((xs.set i v).map dcell ++ rest.set (i - xs.length) (dcell v)).toArray = ((xs.map dcell ++ rest).toArray).setIfInBounds i (dcell v) := by
      apply Array.ext'
      simp [List.set_append, hi, List.set_eq_of_length_le (Nat.le_of_not_lt hi)]
    rw [e]
    simp [World.setCell, Array.getElem?_modify, h, dcell]
theorem Row.made (w : World) (n : Nat) : Row (w.alloc (.cells (madeCells #[.int .u32 0] n) 74)) w.heap.size (List.replicate n 0) := by
  have e : (((List.replicate n 0).map dcell ++ []).toArray) = madeCells #[.int .u32 0] n := by
    apply Array.ext
    · simp [size_madeCells]
    · intro i h1 h2
      simp [size_madeCells] at h2
      simp [madeCells, dcell, Nat.mod_one]
  refine ⟨[], ?_⟩
  rw [e]
  exact Go.Deep.blk_alloc_new _ _
theorem Row.dgs (h : Row w b xs) (hd : Dig xs) : Dgs w w.heap.size (some ⟨b, 0, none⟩) xs.length xs :=
  ⟨rfl, hd, fun _ => ⟨b, 0, rfl, h.lt, fun j hj => by rw [Nat.zero_add]; exact h.cell hj⟩⟩
end

theorem int_val {k : IntKind} {a b : Int} (h : a = b) : Value.int k a = .int k b := by rw [h]

/-- Nothing but block g has turned. -/
structure Only (g : Nat) (w w' : World) : Prop where
  os : w'.os = w.os
  tape : w'.tape = w.tape
  output : w'.output = w.output
  size : w'.heap.size = w.heap.size
  block : ∀ k, k ≠ g → w'.heap[k]? = w.heap[k]?
section
variable {w w' w'' : World} {g B : Nat}
theorem Only.refl (g : Nat) (w : World) : Only g w w := ⟨rfl, rfl, rfl, rfl, fun _ _ => rfl⟩
theorem Only.trans (h : Only g w w') (k : Only g w' w'') : Only g w w'' := ⟨k.os.trans h.os, k.tape.trans h.tape, k.output.trans h.output, k.size.trans h.size, fun i hi => (k.block i hi).trans (h.block i hi)⟩
theorem Only.setCell (h : Only g w w') (i : Nat) (u : Value) : Only g w (w'.setCell ⟨g, i, none⟩ u) :=
  h.trans ⟨rfl, rfl, rfl, by simp [World.setCell], fun k hk => Below.heap_setCell w' ⟨g, i, none⟩ u k hk⟩
theorem Only.drewN (h : Only g w w') (n : Nat) : Only g w (w'.drewN n) := ⟨h.os, h.tape, h.output, h.size, h.block⟩
theorem Only.below (h : Only g w w') (hB : B ≤ g) : Below B w w' := ⟨h.os, h.tape, h.output, by rw [h.size]; exact Nat.le_refl _, fun k hk => h.block k (by omega)⟩
theorem Only.cell (h : Only g w w') {p : Addr} (hp : p.block ≠ g) : w'.cell? p = w.cell? p := World.cell?_of_block (w := w) (h.block p.block hp)
theorem Only.dgs {B n : Nat} {A : Option Addr} {ds : List Nat} (h : Only g w w') (hd : Dgs w B A n ds) (hg : B ≤ g) : Dgs w' B A n ds := hd.keep fun p hp => h.cell (by omega)
end

theorem set_zeros (xs : List Nat) (m d : Nat) : (xs ++ List.replicate (m + 1) 0).set xs.length d = (xs ++ [d]) ++ List.replicate m 0 := by
  rw [List.set_append_right _ _ (Nat.le_refl _), Nat.sub_self, List.replicate_succ, List.set_cons_zero, List.append_assoc]
  rfl
theorem getD_beyond {ds : List Nat} {k : Nat} (h : ds.length ≤ k) : ds.getD k 0 = 0 := by simp [List.getD, h]
theorem val_take_succ' {ds : List Nat} {k : Nat} (h : ds.length ≤ k) : val (ds.take (k + 1)) = val (ds.take k) := by
  rw [List.take_of_length_le (by omega), List.take_of_length_le h]
theorem val_take_any (ds : List Nat) (k : Nat) : val (ds.take (k + 1)) = val (ds.take k) + BB ^ k * ds.getD k 0 := by
  by_cases h : k < ds.length
  · exact val_take_succ h
  · rw [val_take_succ' (by omega), getD_beyond (by omega)]; omega
theorem dig_zeros (n : Nat) : Dig (List.replicate n 0) := by intro d h; rw [List.mem_replicate] at h; rw [h.2]; exact BB_pos
theorem val_zeros (n : Nat) : val (List.replicate n 0) = 0 := by
  induction n with
  | zero => rfl
  | succ n ih => rw [List.replicate_succ, val, ih]; omega
theorem val_snoc (xs : List Nat) (d : Nat) : val (xs ++ [d]) = val xs + BB ^ xs.length * d := by rw [val_append]; simp [val]

/-- What holds of a row that is being filled, k digits being there and a carry. -/
def AddI (w wr : World) (n k c : Nat) (A B : Nat) (xs : List Nat) : Prop :=
  Row wr w.heap.size (xs ++ List.replicate (n - k) 0) ∧ xs.length = k ∧ Dig xs ∧ val xs + BB ^ k * c = A + B ∧ Below w.heap.size w wr

theorem add_arith (p v c x y A B : Nat) (h : v + p * c = A + B) : (v + p * ((c + x + y) % BB)) + p * BB * ((c + x + y) / BB) = (A + p * x) + (B + p * y) := by
  have h1 : p * ((c + x + y) % BB) + p * BB * ((c + x + y) / BB) = p * (c + x + y) := by
    rw [Nat.mul_assoc, ← Nat.mul_add, Nat.mod_add_div]
  have h2 : p * (c + x + y) = p * c + p * x + p * y := by rw [Nat.mul_add, Nat.mul_add]
  omega

theorem add_step {w wr : World} {n k c : Nat} {xa xb xs : List Nat} (h : AddI w wr (n + 1) k c (val (xa.take k)) (val (xb.take k)) xs) (hk : k < n) {v : Int} (hv : v = ((c + xa.getD k 0 + xb.getD k 0) % BB : Nat)) :
    AddI w (wr.setCell ⟨w.heap.size, k, none⟩ (.int .u32 v)) (n + 1) (k + 1) ((c + xa.getD k 0 + xb.getD k 0) / BB) (val (xa.take (k + 1))) (val (xb.take (k + 1))) (xs ++ [(c + xa.getD k 0 + xb.getD k 0) % BB]) := by
  obtain ⟨h1, h2, h3, h4, h5⟩ := h
  subst hv
  refine ⟨?_, by simp [h2], h3.append (Dig.cons (Nat.mod_lt _ BB_pos) Dig.nil), ?_, h5.setCell (Nat.le_refl _) _⟩
  · have e : n + 1 - k = (n + 1 - (k + 1)) + 1 := by omega
    rw [e] at h1
    have := h1.set k ((c + xa.getD k 0 + xb.getD k 0) % BB)
    rwa [← h2, set_zeros, h2] at this
  · rw [val_snoc, h2, val_take_any, val_take_any, Nat.pow_succ]
    exact add_arith _ _ _ _ _ _ _ h4

theorem add_step' {w wr : World} {n k c x y : Nat} {xa xb xs : List Nat} (h : AddI w wr (n + 1) k c (val (xa.take k)) (val (xb.take k)) xs) (hk : k < n) (hx : x = xa.getD k 0) (hy : y = xb.getD k 0) {v : Int} (hv : v = ((c + x + y) % 4294967296 : Nat)) :
    AddI w (wr.setCell ⟨w.heap.size, k, none⟩ (.int .u32 v)) (n + 1) (k + 1) ((c + x + y) / 4294967296) (val (xa.take (k + 1))) (val (xb.take (k + 1))) (xs ++ [(c + x + y) % 4294967296]) := by
  subst hx hy
  exact add_step h hk hv

theorem add_last {w wr : World} {n c : Nat} {A B : Nat} {xs : List Nat} (h : AddI w wr (n + 1) n c A B xs) {v : Int} (hv : v = (c : Nat)) (hc : c < 4294967296) :
    Dgs (wr.setCell ⟨w.heap.size, n, none⟩ (.int .u32 v)) (wr.setCell ⟨w.heap.size, n, none⟩ (.int .u32 v)).heap.size (some ⟨w.heap.size, 0, none⟩) (n + 1) (xs ++ [c]) ∧ val (xs ++ [c]) = A + B ∧ Below w.heap.size w (wr.setCell ⟨w.heap.size, n, none⟩ (.int .u32 v)) := by
  obtain ⟨h1, h2, h3, h4, h5⟩ := h
  subst hv
  refine ⟨?_, by rw [val_snoc, h2]; exact h4, h5.setCell (Nat.le_refl _) _⟩
  have e : n + 1 - n = 0 + 1 := by omega
  rw [e] at h1
  have := h1.set n c
  rw [← h2, set_zeros] at this
  rw [h2] at this
  have := this.dgs (by simpa using h3.append (Dig.cons (by rw [BB_eq]; exact hc) Dig.nil))
  simpa [h2] using this
end Go.Proofs.Ytehoafpnmfkniaa
