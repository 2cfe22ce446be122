/-
  Calendar: the number of a date and the date of a number, by the program; weekdays and minutes of the reference; the check of all laws.
-/
import Derived.Test.YtpcagheghmbjfaaDoorCaD
import Derived.Test.YtpcagheghmbjfaaDoorCaF
set_option linter.unusedVariables false
set_option linter.unusedSimpArgs false
namespace Go.Proofs.YtpcagheghmbjfaaDoor
open Go.RowKit

/-- A date in memory. -/
def BoxD (w : World) (b : Nat) (y m d : Int) : Prop := w.cell? ⟨b, 0, none⟩ = some (.int .i64 y) ∧ w.cell? ⟨b, 1, none⟩ = some (.int .i64 m) ∧ w.cell? ⟨b, 2, none⟩ = some (.int .i64 d)
theorem box_new (w : World) (y m d : Int) (t : TypeId) : BoxD (w.alloc (.cells #[.int .i64 y, .int .i64 m, .int .i64 d] t)) w.heap.size y m d := ⟨by simp, by simp, by simp⟩
theorem BoxD.below {w w' : World} {b B : Nat} {y m d : Int} (h : BoxD w b y m d) (hb : Below B w w') (hB : b < B) : BoxD w' b y m d :=
  ⟨(hb.cell (p := ⟨b, 0, none⟩) hB).trans h.1, (hb.cell (p := ⟨b, 1, none⟩) hB).trans h.2.1, (hb.cell (p := ⟨b, 2, none⟩) hB).trans h.2.2⟩
/-- A date in memory that is not shared with a string. -/
def BoxF (w : World) (b : Nat) : Prop := w.frozen? ⟨b, 0, none⟩ = false ∧ w.frozen? ⟨b, 1, none⟩ = false ∧ w.frozen? ⟨b, 2, none⟩ = false
theorem boxF_new (w : World) (y m d : Int) (t : TypeId) : BoxF (w.alloc (.cells #[.int .i64 y, .int .i64 m, .int .i64 d] t)) w.heap.size := ⟨by simp, by simp, by simp⟩
theorem BoxF.below {w w' : World} {b B : Nat} (h : BoxF w b) (hb : Below B w w') (hB : b < B) : BoxF w' b :=
  ⟨(hb.frozen (p := ⟨b, 0, none⟩) hB).trans h.1, (hb.frozen (p := ⟨b, 1, none⟩) hB).trans h.2.1, (hb.frozen (p := ⟨b, 2, none⟩) hB).trans h.2.2⟩
theorem BoxD.store {w : World} {b : Nat} {x0 x1 x2 : Int} (h : BoxD w b x0 x1 x2) (y m d : Int) : BoxD (((w.setCell ⟨b, 0, none⟩ (.int .i64 y)).setCell ⟨b, 1, none⟩ (.int .i64 m)).setCell ⟨b, 2, none⟩ (.int .i64 d)) b y m d := by
  obtain ⟨h0, h1, h2⟩ := h
  refine ⟨?_, ?_, ?_⟩
  · rw [World.cell?_setCell_other _ _ _ _ (by intro h; simp only [Addr.mk.injEq] at h; omega), World.cell?_setCell_other _ _ _ _ (by intro h; simp only [Addr.mk.injEq] at h; omega), World.cell?_setCell_same _ _ _ h0]
  · rw [World.cell?_setCell_other _ _ _ _ (by intro h; simp only [Addr.mk.injEq] at h; omega), World.cell?_setCell_same _ _ _ ((World.cell?_setCell_other _ _ _ _ (by intro h; simp only [Addr.mk.injEq] at h; omega)).trans h1)]
  · rw [World.cell?_setCell_same _ _ _ ((World.cell?_setCell_other _ _ _ _ (by intro h; simp only [Addr.mk.injEq] at h; omega)).trans ((World.cell?_setCell_other _ _ _ _ (by intro h; simp only [Addr.mk.injEq] at h; omega)).trans h2))]
theorem BoxD.alloc {w : World} {b : Nat} {y m d : Int} (h : BoxD w b y m d) (hb : b < w.heap.size) (o : Obj) : BoxD (w.alloc o) b y m d := h.below (cnew w o) hb
theorem ccall {w w1 : World} {o : Obj} (h : Below (w.alloc o).heap.size (w.alloc o) w1) : Below w.heap.size w w1 := (cnew w o).trans (h.mono (by simp))
theorem ccall2 {B : Nat} {w w1 w2 : World} (h : Below B w w1) (h2 : Below w1.heap.size w1 w2) (hB : B ≤ w1.heap.size) : Below B w w2 := h.trans (h2.mono hB)
def numV (y m d : Int) : Int := if dateB y m d = true then dayN y m.toNat d else 0
def numE (y m d : Int) : Int := if dateB y m d = true then 0 else 5
def RetNE (w : World) (z e : Int) (en : Ending) (w' : World) : Prop := en = .returned (.tuple #[.int .i64 z, .int .i64 e]) ∧ Below w.heap.size w w'
set_option maxHeartbeats 4000000 in
set_option maxRecDepth 100000 in
theorem dayNumber2_any (y m d : Int) (h0 : -9223372036854775808 ≤ y) (h1 : y ≤ 9223372036854775807) (w : World) (hT : MonT w) : Calls Tryd.prog 10 #[dateV y m d] w (RetNE w (numV y m d) (numE y m d)) := by
  have hid := fun w hT => isDate_any y m d h0 h1 w hT
  have hb := box_new w y m d 23
  have hT2 := hT.box (.cells #[Value.int IntKind.i64 y, Value.int IntKind.i64 m, Value.int IntKind.i64 d] 23)
  have hv : numV y m d = if dateB y m d = true then dayN y m.toNat d else 0 := rfl
  have he : numE y m d = if dateB y m d = true then 0 else 5 := rfl
  have hdt := @date_true y m d
  obtain ⟨V, HV⟩ : ∃ v, Hid (numV y m d = v) := ⟨_, rfl⟩
  obtain ⟨E, HE⟩ : ∃ v, Hid (numE y m d = v) := ⟨_, rfl⟩
  rw [HV.out, HE.out]
  rw [HV.out] at hv
  rw [HE.out] at he
  obtain ⟨B, HB⟩ : ∃ v, Hid (dateB y m d = v) := ⟨_, rfl⟩
  rw [HB.out] at hid hv he hdt
  have HBX := Lib.hid hb
  have HT2 := Lib.hid hT2
  clear hb hT2 hT
  unfold dateV at *
  cases B with
  | false =>
    obtain rfl : V = 0 := hv
    obtain rfl : E = 5 := he
    clear hdt
    go_enter Tryd.func10, Tryd.ntmps10
    go_wp2_with (first
      | (go_at_call 39; (with_reducible refine (hid _ HT2.out).mono ?_); rintro e w1 ⟨rfl, g1⟩)
      | fail)
    go_ret2
    exact ⟨rfl, ccall g1⟩
  | true =>
    obtain ⟨y1, y2, k, rfl, hk⟩ := hdt rfl
    have hdn := fun w hT => dayNumber_any y d k hk y1 y2 w hT
    unfold dateV at *
    obtain rfl : V = dayN y k d := hv
    obtain rfl : E = 0 := he
    clear hdt hk
    obtain ⟨V, HV2⟩ : ∃ v, Hid (dayN y k d = v) := ⟨_, rfl⟩
    rw [HV2.out] at hdn ⊢
    go_enter Tryd.func10, Tryd.ntmps10
    go_wp2_with (first
      | (go_at_call 39; (with_reducible refine (hid _ HT2.out).mono ?_); rintro e w1 ⟨rfl, g1⟩; obtain ⟨c0, c1, c2⟩ := HBX.out.below g1 (by simp); have HT3 := Lib.hid (HT2.out.below g1 (Nat.le_refl _)))
      | (go_at_call 40; (with_reducible refine (hdn _ HT3.out).mono ?_); rintro e w2 ⟨rfl, g2⟩)
      | fail)
    go_ret2
    exact ⟨rfl, ccall2 (ccall g1) g2 (by have := g1.size; simp at this; omega)⟩

def RetDD (w : World) (day : Int) (en : Ending) (w' : World) : Prop :=
  (∃ (y d : Int) (m : Nat), en = .returned (.tuple #[dateV y m d, .int .i64 0]) ∧ IsD y m d ∧ 1999 ≤ y ∧ y ≤ 2100 ∧ dayN y m d = day ∧ Below w.heap.size w w') ∨
  (¬ (-365 ≤ day ∧ day ≤ 36889) ∧ en = .returned (.tuple #[dateV 0 0 0, .int .i64 5]) ∧ Below w.heap.size w w')
theorem stores3 {w w1 : World} (h : Below w.heap.size w w1) (y m d : Value) (k : Nat) (hk : w.heap.size ≤ k) : Below w.heap.size w (((w1.setCell ⟨k, 0, none⟩ y).setCell ⟨k, 1, none⟩ m).setCell ⟨k, 2, none⟩ d) :=
  ((h.setCell hk _).setCell hk _).setCell hk _
set_option maxHeartbeats 4000000 in
set_option maxRecDepth 100000 in
theorem dateOf2_any (day : Int) (h0 : -9223372036854775808 ≤ day) (h1 : day ≤ 9223372036854775807) (w : World) (hT : MonT w) : Calls Tryd.prog 12 #[.int .i64 day] w (RetDD w day) := by
  have hd := fun w hT => dateOf_any day h0 h1 w hT
  unfold RetDay dateV at hd
  have HT2 := Lib.hid (hT.box (.cells #[Value.int IntKind.i64 0, Value.int IntKind.i64 0, Value.int IntKind.i64 0] 23))
  have HBX := Lib.hid (box_new w 0 0 0 23)
  have HBF := Lib.hid (boxF_new w 0 0 0 23)
  clear hT
  go_enter Tryd.func12, Tryd.ntmps12
  go_upto_region 2 with (first
    | (go_at_call 43; (with_reducible refine (hd _ HT2.out).mono ?_); rintro e w1 ⟨y, d, m, rfl, hi, hn, g1⟩; obtain ⟨c0, c1, c2⟩ := HBX.out.below g1 (by simp); obtain ⟨z0, z1, z2⟩ := HBF.out.below g1 (by simp); have hi2 := Lib.hid hi; have hn2 := Lib.hid hn; clear hi hn)
    | fail)
  have hyr := isYear_any y
  have hys := IsD.years hi2.out
  rw [hn2.out] at hys
  have hlt : w.heap.size < w1.heap.size := by have := g1.size; simp at this; omega
  have hne : ¬ w1.heap.size = w.heap.size := by omega
  have hne2 : ¬ w.heap.size = w1.heap.size := by omega
  have B1 := Lib.hid (ccall g1)
  by_cases hy : 1999 ≤ y ∧ y ≤ 2100
  · rw [decide_eq_true hy] at hyr
    have HY := Lib.hid hy
    clear hys hy g1
    go_wp2_with (first
      | (go_at_call 44; (with_reducible refine (hyr _).mono ?_); rintro e w2 ⟨rfl, rfl⟩)
      | fail)
    obtain ⟨p0, p1, p2⟩ := (BoxD.store ⟨c0, c1, c2⟩ y m d).alloc (by simpa using hlt) (.cells #[Value.int IntKind.i64 y, Value.int IntKind.i64 ↑m, Value.int IntKind.i64 d] 23)
    refine bodyPost_ret (v := .tuple #[dateV y m d, .int .i64 0]) (by simp [results, Tryd.results12, go_sem, dateV, p0, p1, p2]) rfl (.inl ⟨y, d, m, rfl, hi2.out, HY.out.1, HY.out.2, hn2.out, ?_⟩)
    exact (stores3 B1.out _ _ _ _ (Nat.le_refl _)).alloc (by simp; omega) _
  · rw [decide_eq_false hy] at hyr
    have HN := Lib.hid (fun h => hy (hys.2 h))
    clear hys hy g1
    go_wp2_with (first
      | (go_at_call 44; (with_reducible refine (hyr _).mono ?_); rintro e w2 ⟨rfl, rfl⟩)
      | fail)
    obtain ⟨p0, p1, p2⟩ := (BoxD.store ⟨c0, c1, c2⟩ 0 0 0).alloc (by simpa using hlt) (.cells #[Value.int IntKind.i64 y, Value.int IntKind.i64 ↑m, Value.int IntKind.i64 d] 23)
    refine bodyPost_ret (v := .tuple #[dateV 0 0 0, .int .i64 5]) (by simp [results, Tryd.results12, go_sem, dateV, p0, p1, p2]) rfl (.inr ⟨HN.out, rfl, ?_⟩)
    exact (stores3 B1.out _ _ _ _ (Nat.le_refl _)).alloc (by simp; omega) _
end Go.Proofs.YtpcagheghmbjfaaDoor

