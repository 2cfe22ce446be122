/-
  What a call holds: variables of its own (blocks of plain cells) and integers in memory, as two lists.
  Two variables exchanged in the list of what a call holds.
-/
import Derived.Test.YtgjkgmlcfieodaaIops
set_option linter.unusedVariables false
set_option linter.unusedSimpArgs false
namespace Go.Proofs.Ytgjkgmlcfieodaa
open Go.RowKit

/-- No digit. -/
def Plain (v : Value) : Prop := ∀ x, v ≠ .int .u32 x
theorem Plain.bool (b : Bool) : Plain (.bool b) := fun _ h => by cases h
theorem Plain.slice (a : Option Addr) (n c : Nat) : Plain (.slice a n c) := fun _ h => by cases h
theorem Plain.pointer (a : Option Addr) : Plain (.pointer a) := fun _ h => by cases h
def Plains : List Value → Prop
  | [] => True
  | v :: l => Plain v ∧ Plains l
theorem Plains.get {l : List Value} (h : Plains l) {j : Nat} {v : Value} (hj : l[j]? = some v) : Plain v := by
  induction l generalizing j with
  | nil => cases hj
  | cons u l ih =>
    cases j with
    | zero => cases hj; exact h.1
    | succ j => exact ih h.2 hj
theorem Plains.set {l : List Value} (h : Plains l) {v : Value} (hv : Plain v) (j : Nat) : Plains (l.set j v) := by
  induction l generalizing j with
  | nil => exact h
  | cons u l ih =>
    cases j with
    | zero => exact ⟨hv, h.2⟩
    | succ j => exact ⟨h.1, ih h.2 j⟩
theorem Plains.two (b : Bool) (a : Option Addr) (n c : Nat) : Plains [.bool b, .slice a n c] := ⟨Plain.bool _, Plain.slice _ _ _, trivial⟩
theorem Plains.four (b : Bool) (a : Option Addr) (n c : Nat) (b' : Bool) (a' : Option Addr) (n' c' : Nat) : Plains [.bool b, .slice a n c, .bool b', .slice a' n' c'] := ⟨Plain.bool _, Plain.slice _ _ _, Plain.bool _, Plain.slice _ _ _, trivial⟩

/-- Block g is a variable with these cells. -/
def OwnL (w : World) (g : Nat) (t : TypeId) (vs : List Value) : Prop := w.heap[g]? = some (.cells vs.toArray t (0, 0))
section
variable {w w' : World} {g : Nat} {t : TypeId} {vs : List Value}
theorem OwnL.lt (h : OwnL w g t vs) : g < w.heap.size := by
  rcases Nat.lt_or_ge g w.heap.size with hlt | hge
  · exact hlt
  · unfold OwnL at h; rw [Array.getElem?_eq_none hge] at h; cases h
theorem OwnL.new (w : World) (t : TypeId) (vs : List Value) : OwnL (w.alloc (.cells vs.toArray t)) w.heap.size t vs := Go.Deep.blk_alloc_new _ _
theorem OwnL.below (h : OwnL w g t vs) (hb : Below w.heap.size w w') : OwnL w' g t vs := (hb.block g h.lt).trans h
theorem OwnL.alloc (h : OwnL w g t vs) (o : Obj) : OwnL (w.alloc o) g t vs := (Below.heap_alloc w o g h.lt).trans h
theorem OwnL.far (h : OwnL w g t vs) {p : Addr} (hp : g ≠ p.block) (u : Value) : OwnL (w.setCell p u) g t vs := (Below.heap_setCell w p u g hp).trans h
theorem OwnL.set (h : OwnL w g t vs) (j : Nat) (u : Value) : OwnL (w.setCell ⟨g, j, none⟩ u) g t (vs.set j u) := by
  unfold OwnL at h ⊢
  simp [World.setCell, Array.getElem?_modify, h]
theorem OwnL.cell (h : OwnL w g t vs) {j : Nat} {v : Value} (hj : vs[j]? = some v) : w.cell? ⟨g, j, none⟩ = some v := by
  unfold OwnL at h
  simp [World.cell?, h, hj]
theorem OwnL.frozen (h : OwnL w g t vs) (j : Nat) : w.frozen? ⟨g, j, none⟩ = false := by
  unfold OwnL at h
  simp [World.frozen?, h]
theorem OwnL.own {a b : Value} (h : OwnL w g t [a, b]) : Own w g t a b := h
theorem Own.ownL {a b : Value} (h : Own w g t a b) : OwnL w g t [a, b] := h
end

/-- Digits lie in no variable. -/
theorem Dgs.off {w : World} {B n g : Nat} {A : Option Addr} {ds : List Nat} {t : TypeId} {vs : List Value} (h : Dgs w B A n ds) (ho : OwnL w g t vs) (hp : Plains vs) :
    0 < n → ∃ b off, A = some ⟨b, off, none⟩ ∧ b < B ∧ b ≠ g ∧ ∀ j, j < n → w.cell? ⟨b, off + j, none⟩ = some (.int .u32 (ds.getD j 0 : Nat)) := by
  intro hn
  obtain ⟨b, off, e, hb, hc⟩ := h.at_ hn
  refine ⟨b, off, e, hb, ?_, hc⟩
  rintro rfl
  have h0 := hc 0 hn
  unfold OwnL at ho
  simp only [World.cell?, ho, Nat.add_zero] at h0
  have h1 : vs[off]? = some (.int .u32 (ds.getD 0 0 : Nat)) := by simpa using h0
  exact hp.get h1 _ rfl
theorem Dgs.setV {w : World} {B n g : Nat} {A : Option Addr} {ds : List Nat} {t : TypeId} {vs : List Value} (h : Dgs w B A n ds) (ho : OwnL w g t vs) (hp : Plains vs) (j : Nat) (u : Value) :
    Dgs (w.setCell ⟨g, j, none⟩ u) B A n ds := by
  refine ⟨h.1, h.2.1, fun hn => ?_⟩
  obtain ⟨b, off, e, hb, hne, hc⟩ := h.off ho hp hn
  refine ⟨b, off, e, hb, fun i hi => ?_⟩
  rw [World.cell?_setCell_other _ _ _ _ (fun e => hne (congrArg Addr.block e).symm)]
  exact hc i hi

/-- The variables, all at block B or above, all different. -/
def Vars (w : World) (B : Nat) : List (Nat × TypeId × List Value) → Prop
  | [] => True
  | (g, t, vs) :: l => (OwnL w g t vs ∧ Plains vs ∧ B ≤ g ∧ ∀ p ∈ l, p.1 ≠ g) ∧ Vars w B l
/-- The integers: sign, slice, value, and whether it is canonical. -/
def Ent (w : World) (e : Bool × Option Addr × Nat × Nat × Int × Bool) : Prop :=
  (e.2.2.2.2.2 = false → IntAt w e.1 e.2.1 e.2.2.1 e.2.2.2.1 e.2.2.2.2.1) ∧ (e.2.2.2.2.2 = true → CanAt w e.1 e.2.1 e.2.2.1 e.2.2.2.1 e.2.2.2.2.1)
def Ints (w : World) : List (Bool × Option Addr × Nat × Nat × Int × Bool) → Prop
  | [] => True
  | e :: l => Ent w e ∧ Ints w l
/-- What a call that began in w0 holds in w. -/
def St (w0 w : World) (l : List (Nat × TypeId × List Value)) (k : List (Bool × Option Addr × Nat × Nat × Int × Bool)) : Prop := Vars w w0.heap.size l ∧ Ints w k ∧ Below w0.heap.size w0 w

section
variable {w0 w w' : World} {B : Nat} {l : List (Nat × TypeId × List Value)} {k : List (Bool × Option Addr × Nat × Nat × Int × Bool)} {e : Bool × Option Addr × Nat × Nat × Int × Bool}
theorem Vars.lt (h : Vars w B l) : ∀ p ∈ l, p.1 < w.heap.size := by
  induction l with
  | nil => intro p hp; cases hp
  | cons q l ih =>
    intro p hp
    rcases List.mem_cons.1 hp with rfl | hp
    · exact h.1.1.lt
    · exact ih h.2 p hp
theorem Vars.ge (h : Vars w B l) : ∀ p ∈ l, B ≤ p.1 := by
  induction l with
  | nil => intro p hp; cases hp
  | cons q l ih =>
    intro p hp
    rcases List.mem_cons.1 hp with rfl | hp
    · exact h.1.2.2.1
    · exact ih h.2 p hp
theorem Vars.call (h : Vars w B l) (hb : Below w.heap.size w w') : Vars w' B l := by
  induction l with
  | nil => exact trivial
  | cons q l ih => exact ⟨⟨h.1.1.below hb, h.1.2⟩, ih h.2⟩
theorem Vars.far (h : Vars w B l) {p : Addr} (hp : ∀ q ∈ l, q.1 ≠ p.block) (u : Value) : Vars (w.setCell p u) B l := by
  induction l with
  | nil => exact trivial
  | cons q l ih => exact ⟨⟨h.1.1.far (hp q (by simp)) u, h.1.2⟩, ih h.2 fun r hr => hp r (by simp [hr])⟩
theorem Vars.get (h : Vars w B l) {i : Nat} {g : Nat} {t : TypeId} {vs : List Value} (hi : l[i]? = some (g, t, vs)) : OwnL w g t vs ∧ Plains vs := by
  induction l generalizing i with
  | nil => cases hi
  | cons q l ih =>
    cases i with
    | zero => cases hi; exact ⟨h.1.1, h.1.2.1⟩
    | succ i => exact ih h.2 hi
theorem Vars.set (h : Vars w B l) {i : Nat} {g : Nat} {t : TypeId} {vs : List Value} (hi : l[i]? = some (g, t, vs)) (j : Nat) {u : Value} (hu : Plain u) : Vars (w.setCell ⟨g, j, none⟩ u) B (l.set i (g, t, vs.set j u)) := by
  induction l generalizing i with
  | nil => cases hi
  | cons q l ih =>
    cases i with
    | zero =>
      cases hi
      exact ⟨⟨h.1.1.set j u, h.1.2.1.set hu j, h.1.2.2⟩, h.2.far (fun r hr => h.1.2.2.2 r hr) u⟩
    | succ i =>
      have hm : (g, t, vs) ∈ l := List.mem_of_getElem? hi
      have hne : q.1 ≠ g := fun e => h.1.2.2.2 _ hm e.symm
      refine ⟨⟨h.1.1.far hne u, h.1.2.1, h.1.2.2.1, fun p hp => ?_⟩, ih h.2 hi⟩
      rcases List.mem_or_eq_of_mem_set hp with hp | rfl
      · exact h.1.2.2.2 p hp
      · exact fun e => hne e.symm
theorem Vars.new (h : Vars w B l) (hB : B ≤ w.heap.size) (t : TypeId) {vs : List Value} (hv : Plains vs) : Vars (w.alloc (.cells vs.toArray t)) B ((w.heap.size, t, vs) :: l) :=
  ⟨⟨OwnL.new w t vs, hv, hB, fun p hp => Nat.ne_of_lt (h.lt p hp)⟩, h.call (bnew _ _)⟩

theorem Vars.erase (h : Vars w B l) (i : Nat) : Vars w B (l.eraseIdx i) := by
  induction l generalizing i with
  | nil => exact trivial
  | cons q l ih =>
    cases i with
    | zero => exact h.2
    | succ i => exact ⟨⟨h.1.1, h.1.2.1, h.1.2.2.1, fun p hp => h.1.2.2.2 p (List.mem_of_mem_eraseIdx hp)⟩, ih h.2 i⟩

theorem Ent.call (h : Ent w e) (hb : Below w.heap.size w w') : Ent w' e := ⟨fun x => (h.1 x).call hb, fun x => (h.2 x).call hb⟩
theorem Ent.setV {g : Nat} {t : TypeId} {vs : List Value} (h : Ent w e) (ho : OwnL w g t vs) (hp : Plains vs) (j : Nat) (u : Value) : Ent (w.setCell ⟨g, j, none⟩ u) e := by
  refine ⟨fun x => ?_, fun x => ?_⟩
  · obtain ⟨ds, h1, h2⟩ := h.1 x
    exact ⟨ds, by have := h1.setV ho hp j u; simpa using this, h2⟩
  · obtain ⟨h4, h5, h6⟩ := h.2 x
    exact ⟨h4, by have := h5.setV ho hp j u; simpa using this, h6⟩
theorem Ints.call (h : Ints w k) (hb : Below w.heap.size w w') : Ints w' k := by
  induction k with
  | nil => exact trivial
  | cons q k ih => exact ⟨h.1.call hb, ih h.2⟩
theorem Ints.setV {g : Nat} {t : TypeId} {vs : List Value} (h : Ints w k) (ho : OwnL w g t vs) (hp : Plains vs) (j : Nat) (u : Value) : Ints (w.setCell ⟨g, j, none⟩ u) k := by
  induction k with
  | nil => exact trivial
  | cons q k ih => exact ⟨h.1.setV ho hp j u, ih h.2⟩

theorem St.start (w : World) : St w w [] [] := ⟨trivial, trivial, Below.refl _ _⟩
theorem St.call (h : St w0 w l k) (hb : Below w.heap.size w w') : St w0 w' l k := ⟨h.1.call hb, h.2.1.call hb, bcall h.2.2 hb⟩
theorem St.drew (h : St w0 w l k) : St w0 w.drew l k := h.call (Below.refl _ w).drew
theorem St.drewN (h : St w0 w l k) (n : Nat) : St w0 (w.drewN n) l k := h.call (bdrewN (Below.refl _ w) n)
theorem St.alloc (h : St w0 w l k) (o : Obj) : St w0 (w.alloc o) l k := h.call (bnew _ _)
theorem St.new (h : St w0 w l k) (t : TypeId) {vs : List Value} (hv : Plains vs) : St w0 (w.alloc (.cells vs.toArray t)) ((w.heap.size, t, vs) :: l) k :=
  ⟨h.1.new h.2.2.size t hv, h.2.1.call (bnew _ _), bcall h.2.2 (bnew _ _)⟩
theorem St.set (h : St w0 w l k) {i : Nat} {g : Nat} {t : TypeId} {vs : List Value} (hi : l[i]? = some (g, t, vs)) (j : Nat) {u : Value} (hu : Plain u) : St w0 (w.setCell ⟨g, j, none⟩ u) (l.set i (g, t, vs.set j u)) k := by
  have hg := h.1.get hi
  exact ⟨h.1.set hi j hu, h.2.1.setV hg.1 hg.2 j u, h.2.2.setCell (p := ⟨g, j, none⟩) (h.1.ge _ (List.mem_of_getElem? hi)) u⟩
/-- An integer is stored into a variable of two cells. -/
theorem St.put (h : St w0 w l k) (i : Nat) {g : Nat} {t : TypeId} {a b : Value} (hi : l[i]? = some (g, t, [a, b])) (s : Bool) (A : Option Addr) (n c : Nat) :
    St w0 ((w.setCell ⟨g, 0, none⟩ (.bool s)).setCell ⟨g, 1, none⟩ (.slice A n c)) (l.set i (g, t, [.bool s, .slice A n c])) k := by
  have h1 := h.set hi 0 (Plain.bool s)
  have hlt : i < l.length := by
    rcases Nat.lt_or_ge i l.length with h2 | h2
    · exact h2
    · rw [List.getElem?_eq_none h2] at hi; cases hi
  have h2 := h1.set (i := i) (g := g) (t := t) (vs := [.bool s, b]) (by simp [hlt]) 1 (Plain.slice A n c)
  simpa using h2
theorem St.add (h : St w0 w l k) {s : Bool} {A : Option Addr} {n c : Nat} {z : Int} (hc : CanAt w s A n c z) : St w0 w l ((s, A, n, c, z, true) :: k) :=
  ⟨h.1, ⟨⟨fun x => (by cases x), fun _ => hc⟩, h.2.1⟩, h.2.2⟩
theorem St.addI (h : St w0 w l k) {s : Bool} {A : Option Addr} {n c : Nat} {z : Int} (hc : IntAt w s A n c z) : St w0 w l ((s, A, n, c, z, false) :: k) :=
  ⟨h.1, ⟨⟨fun _ => hc, fun x => (by cases x)⟩, h.2.1⟩, h.2.2⟩
theorem St.erase (h : St w0 w l k) (i : Nat) : St w0 w (l.eraseIdx i) k := ⟨h.1.erase i, h.2.1, h.2.2⟩
theorem St.ints_ (h : St w0 w l k) {k' : List (Bool × Option Addr × Nat × Nat × Int × Bool)} (hk : Ints w k') : St w0 w l k' := ⟨h.1, hk, h.2.2⟩
theorem Vars.ne (h : Vars w B l) {i j : Nat} {a b : Nat × TypeId × List Value} (hi : l[i]? = some a) (hj : l[j]? = some b) (hij : i < j) : b.1 ≠ a.1 := by
  induction l generalizing i j with
  | nil => cases hi
  | cons q l ih =>
    cases j with
    | zero => omega
    | succ j =>
      cases i with
      | zero => cases hi; exact h.1.2.2.2 b (List.mem_of_getElem? hj)
      | succ i => exact ih h.2 hi hj (by omega)
/-- Different variables lie in different blocks; said both ways. -/
theorem St.ne (h : St w0 w l k) (i j : Nat) {g g' : Nat} {t t' : TypeId} {vs vs' : List Value} (hi : l[i]? = some (g, t, vs)) (hj : l[j]? = some (g', t', vs')) (hij : i < j) : (¬ g = g') ∧ ¬ g' = g :=
  ⟨fun e => h.1.ne hi hj hij e.symm, h.1.ne hi hj hij⟩
theorem St.below (h : St w0 w l k) : Below w0.heap.size w0 w := h.2.2
theorem St.ints (h : St w0 w l k) : Ints w k := h.2.1
theorem Ent.i {s : Bool} {A : Option Addr} {n c : Nat} {z : Int} (h : Ent w (s, A, n, c, z, false)) : IntAt w s A n c z := h.1 rfl
theorem Ent.c {s : Bool} {A : Option Addr} {n c : Nat} {z : Int} (h : Ent w (s, A, n, c, z, true)) : CanAt w s A n c z := h.2 rfl
theorem Ent.ci {s : Bool} {A : Option Addr} {n c : Nat} {z : Int} (h : Ent w (s, A, n, c, z, true)) (hz : (digs z.natAbs).length ≤ 1000000) : IntAt w s A n c z := (h.2 rfl).at_ hz
theorem Ent.mk_ {s : Bool} {A : Option Addr} {n c : Nat} {z : Int} (hc : CanAt w s A n c z) : Ent w (s, A, n, c, z, true) := ⟨fun x => (by cases x), fun _ => hc⟩
theorem Ent.mkI {s : Bool} {A : Option Addr} {n c : Nat} {z : Int} (hc : IntAt w s A n c z) : Ent w (s, A, n, c, z, false) := ⟨fun _ => hc, fun x => (by cases x)⟩

/-- What the cells of a variable hold. -/
def CellsOf (w : World) (g : Nat) : List Value → Prop
  | [a] => w.cell? ⟨g, 0, none⟩ = some a
  | [a, b] => w.cell? ⟨g, 0, none⟩ = some a ∧ w.cell? ⟨g, 1, none⟩ = some b
  | [a, b, c, d] => w.cell? ⟨g, 0, none⟩ = some a ∧ w.cell? ⟨g, 1, none⟩ = some b ∧ w.cell? ⟨g, 2, none⟩ = some c ∧ w.cell? ⟨g, 3, none⟩ = some d
  | _ => True
def FactsOf (w : World) : List (Nat × TypeId × List Value) → Prop
  | [] => True
  | (g, _, vs) :: l => CellsOf w g vs ∧ FactsOf w l
def FreeOf (w : World) (g : Nat) : List Value → Prop
  | [_] => w.frozen? ⟨g, 0, none⟩ = false
  | [_, _] => w.frozen? ⟨g, 0, none⟩ = false ∧ w.frozen? ⟨g, 1, none⟩ = false
  | [_, _, _, _] => w.frozen? ⟨g, 0, none⟩ = false ∧ w.frozen? ⟨g, 1, none⟩ = false ∧ w.frozen? ⟨g, 2, none⟩ = false ∧ w.frozen? ⟨g, 3, none⟩ = false
  | _ => True
theorem OwnL.cells {g : Nat} {t : TypeId} {vs : List Value} (h : OwnL w g t vs) : CellsOf w g vs := by
  match vs, h with
  | [], _ => trivial
  | [a], h => exact h.cell rfl
  | [a, b], h => exact ⟨h.cell rfl, h.cell rfl⟩
  | [a, b, c], _ => trivial
  | [a, b, c, d], h => exact ⟨h.cell rfl, h.cell rfl, h.cell rfl, h.cell rfl⟩
  | a :: b :: c :: d :: e :: l, _ => trivial
theorem OwnL.free {g : Nat} {t : TypeId} {vs : List Value} (h : OwnL w g t vs) : FreeOf w g vs := by
  match vs, h with
  | [], _ => trivial
  | [a], h => exact h.frozen _
  | [a, b], h => exact ⟨h.frozen _, h.frozen _⟩
  | [a, b, c], _ => trivial
  | [a, b, c, d], h => exact ⟨h.frozen _, h.frozen _, h.frozen _, h.frozen _⟩
  | a :: b :: c :: d :: e :: l, _ => trivial
theorem Vars.facts (h : Vars w B l) : FactsOf w l := by
  induction l with
  | nil => exact trivial
  | cons q l ih => exact ⟨h.1.1.cells, ih h.2⟩
theorem St.facts (h : St w0 w l k) : FactsOf w l := h.1.facts
theorem St.free (h : St w0 w l k) {i : Nat} {g : Nat} {t : TypeId} {vs : List Value} (hi : l[i]? = some (g, t, vs)) : FreeOf w g vs := (h.1.get hi).1.free
theorem St.lt (h : St w0 w l k) {i : Nat} {g : Nat} {t : TypeId} {vs : List Value} (hi : l[i]? = some (g, t, vs)) : g < w.heap.size := (h.1.get hi).1.lt
end
theorem Sz.ok {z : Int} {k : Nat} (h : Sz z k) (hk : k ≤ 1000000 := by decide) : (digs z.natAbs).length ≤ 1000000 := Nat.le_trans h.len hk
theorem St.swap {w0 w : World} {l : List (Nat × TypeId × List Value)} {k : List (Bool × Option Addr × Nat × Nat × Int × Bool)} {a b : Nat × TypeId × List Value} (h : St w0 w (a :: b :: l) k) : St w0 w (b :: a :: l) k := by
  obtain ⟨⟨⟨h1, h2, h3, h4⟩, ⟨h5, h6, h7, h8⟩, h9⟩, h10⟩ := h
  refine ⟨⟨⟨h5, h6, h7, fun p hp => ?_⟩, ⟨h1, h2, h3, fun p hp => h4 p (by simp [hp])⟩, h9⟩, h10⟩
  rcases List.mem_cons.1 hp with rfl | hp
  · exact fun e => h4 b (by simp) e.symm
  · exact h8 p hp
end Go.Proofs.Ytgjkgmlcfieodaa

