/-
  Integers in memory, and how they are made canonical.
-/
import Derived.Test.YtehoafpnmfkniaaTrim
set_option linter.unusedVariables false
set_option linter.unusedSimpArgs false
namespace Go.Proofs.Ytehoafpnmfkniaa
open Go.RowKit

/-- The integer with a sign and an absolute value. -/
def zOf (neg : Bool) (v : Nat) : Int := if neg then -(v : Int) else v
theorem zOf_natAbs (neg : Bool) (v : Nat) : (zOf neg v).natAbs = v := by unfold zOf; split <;> omega
theorem zOf_neg {neg : Bool} {v : Nat} (h : v ≠ 0) : decide (zOf neg v < 0) = neg := by
  unfold zOf; cases neg <;> simp <;> omega

/-- A canonical integer is handed back; what was there is as it was. -/
def RetZ (w : World) (z : Int) (e : Ending) (w' : World) : Prop :=
  ∃ A n c, e = .returned (.agg #[.bool (decide (z < 0)), .slice A n c]) ∧ Dgs w' w'.heap.size A n (digs z.natAbs) ∧ n ≤ c ∧ c ≤ maxLen ∧ Below w.heap.size w w'

theorem bcell {W w1 : World} (hb : Below W.heap.size W w1) : (∀ b o, b < W.heap.size → w1.cell? ⟨b, o, none⟩ = W.cell? ⟨b, o, none⟩) ∧ (∀ b o, b < W.heap.size → w1.frozen? ⟨b, o, none⟩ = W.frozen? ⟨b, o, none⟩) :=
  ⟨fun b o h => hb.cell (p := ⟨b, o, none⟩) h, fun b o h => hb.frozen (p := ⟨b, o, none⟩) h⟩

theorem digs_nil {v : Nat} (h : (digs v).length = 0) : v = 0 := by
  have := val_digs v
  rw [List.eq_nil_of_length_eq_zero h] at this
  exact this.symm

theorem RetZ.mk_ {w w' : World} {z : Int} {neg : Bool} {A : Option Addr} {n c : Nat} (hn : neg = decide (z < 0)) (hd : Dgs w' w'.heap.size A n (digs z.natAbs)) (hc : n ≤ c) (hm : c ≤ maxLen) (hb : Below w.heap.size w w') :
    RetZ w z (.returned (.agg #[.bool neg, .slice A n c])) w' := ⟨A, n, c, by rw [hn], hd, hc, hm, hb⟩

theorem bcall {w wk w' : World} (h : Below w.heap.size w wk) (hb : Below wk.heap.size wk w') : Below w.heap.size w w' := h.trans (hb.mono h.size)
theorem bnew (w : World) (o : Obj) : Below w.heap.size w (w.alloc o) := (Below.refl _ _).alloc (Nat.le_refl _) _
theorem bdrewN {B : Nat} {w w' : World} (h : Below B w w') (n : Nat) : Below B w (w'.drewN n) := ⟨h.os, h.tape, h.output, h.size, h.block⟩
theorem bnew2 (w : World) (o o' : Obj) : Below w.heap.size w ((w.alloc o).alloc o') := (bnew w o).alloc (by simp) _

/-- Block g is a variable of the call's own, of two cells. -/
def Own (w : World) (g : Nat) (t : TypeId) (v0 v1 : Value) : Prop := w.heap[g]? = some (.cells #[v0, v1] t (0, 0))
section
variable {w w' : World} {g : Nat} {t : TypeId} {v0 v1 : Value}
theorem Own.lt (h : Own w g t v0 v1) : g < w.heap.size := by
  rcases Nat.lt_or_ge g w.heap.size with hlt | hge
  · exact hlt
  · unfold Own at h; rw [Array.getElem?_eq_none hge] at h; cases h
theorem Own.new (w : World) (t : TypeId) (v0 v1 : Value) : Own (w.alloc (.cells #[v0, v1] t)) w.heap.size t v0 v1 := Go.Deep.blk_alloc_new _ _
theorem Own.below (h : Own w g t v0 v1) (hb : Below w.heap.size w w') : Own w' g t v0 v1 := (hb.block g h.lt).trans h
theorem Own.alloc (h : Own w g t v0 v1) (o : Obj) : Own (w.alloc o) g t v0 v1 := (Below.heap_alloc w o g h.lt).trans h
theorem Own.drew (h : Own w g t v0 v1) : Own w.drew g t v0 v1 := h
theorem Own.far (h : Own w g t v0 v1) {p : Addr} (hp : g ≠ p.block) (u : Value) : Own (w.setCell p u) g t v0 v1 := (Below.heap_setCell w p u g hp).trans h
theorem Own.set2 (h : Own w g t v0 v1) (a b : Value) : Own ((w.setCell ⟨g, 0, none⟩ a).setCell ⟨g, 1, none⟩ b) g t a b := by
  unfold Own at h ⊢
  simp [World.setCell, Array.getElem?_modify, h]
theorem Own.facts (h : Own w g t v0 v1) : w.cell? ⟨g, 0, none⟩ = some v0 ∧ w.cell? ⟨g, 1, none⟩ = some v1 ∧ w.frozen? ⟨g, 0, none⟩ = false ∧ w.frozen? ⟨g, 1, none⟩ = false := by
  unfold Own at h
  simp [World.cell?, World.frozen?, h]
end

/-- Digits lie in no variable that holds an integer. -/
theorem Dgs.off_own {w : World} {B n g : Nat} {A : Option Addr} {ds : List Nat} {t : TypeId} {x : Bool} {a : Option Addr} {l c : Nat} (h : Dgs w B A n ds) (ho : Own w g t (.bool x) (.slice a l c)) :
    0 < n → ∃ b off, A = some ⟨b, off, none⟩ ∧ b < B ∧ b ≠ g ∧ ∀ j, j < n → w.cell? ⟨b, off + j, none⟩ = some (.int .u32 (ds.getD j 0 : Nat)) := by
  intro hn
  obtain ⟨b, off, e, hb, hc⟩ := h.at_ hn
  refine ⟨b, off, e, hb, ?_, hc⟩
  rintro rfl
  have h0 := hc 0 hn
  unfold Own at ho
  simp only [World.cell?, ho] at h0
  match off, h0 with
  | 0, h0 => simp at h0
  | 1, h0 => simp at h0
  | k + 2, h0 => simp at h0

theorem Dgs.store {w : World} {B n g : Nat} {A : Option Addr} {ds : List Nat} {t : TypeId} {x : Bool} {a : Option Addr} {l c : Nat} (h : Dgs w B A n ds) (ho : Own w g t (.bool x) (.slice a l c)) (u v : Value) :
    Dgs ((w.setCell ⟨g, 0, none⟩ u).setCell ⟨g, 1, none⟩ v) B A n ds := by
  refine ⟨h.1, h.2.1, fun hn => ?_⟩
  obtain ⟨b, off, e, hb, hne, hc⟩ := h.off_own ho hn
  refine ⟨b, off, e, hb, fun j hj => ?_⟩
  rw [World.cell?_setCell_other _ _ _ _ (fun e => hne (congrArg Addr.block e).symm), World.cell?_setCell_other _ _ _ _ (fun e => hne (congrArg Addr.block e).symm)]
  exact hc j hj

theorem Dgs.storeS {w : World} {n g : Nat} {A : Option Addr} {ds : List Nat} {t : TypeId} {x : Bool} {a : Option Addr} {l c : Nat} (h : Dgs w w.heap.size A n ds) (ho : Own w g t (.bool x) (.slice a l c)) (u v : Value) :
    Dgs ((w.setCell ⟨g, 0, none⟩ u).setCell ⟨g, 1, none⟩ v) ((w.setCell ⟨g, 0, none⟩ u).setCell ⟨g, 1, none⟩ v).heap.size A n ds := by
  have := h.store ho u v
  simpa using this

theorem RetZ.store_ {w w2 : World} {z : Int} {t : TypeId} {g : Nat} {x : Bool} {a : Option Addr} {l c' : Nat} {A : Option Addr} {n c : Nat} {neg : Bool} (ho : Own w2 g t (.bool x) (.slice a l c')) (hg : w.heap.size ≤ g) (hn : neg = decide (z < 0))
    (hd : Dgs w2 w2.heap.size A n (digs z.natAbs)) (hc : n ≤ c) (hm : c ≤ maxLen) (hb : Below w.heap.size w w2) (u v : Value) :
    RetZ w z (.returned (.agg #[.bool neg, .slice A n c])) ((w2.setCell ⟨g, 0, none⟩ u).setCell ⟨g, 1, none⟩ v) :=
  RetZ.mk_ hn (by simpa using hd.store ho u v) hc hm ((hb.setCell hg _).setCell hg _)

set_option maxRecDepth 100000 in
theorem newInt_any (neg : Bool) (A : Option Addr) (n c : Nat) (ds : List Nat) (w : World) (h : Dgs w w.heap.size A n ds) (hc : n ≤ c) (hm : c ≤ maxLen) :
    Calls Try.prog 82 #[.bool neg, .slice A n c] w (RetZ w (zOf neg (val ds))) := by
  have htl := trimLen_length h.dig
  have hle := trimLen_le ds
  have hdl := h.len
  have hd2 : Dgs w w.heap.size A (trimLen ds) (digs (val ds)) := by
    rw [← take_trimLen h.dig]; exact h.take (by omega)
  obtain ⟨t, HT⟩ : ∃ t, Hid (t = trimLen ds) := ⟨_, rfl⟩
  rw [← HT.out] at hd2 hle
  have HTL : Hid (t = (digs (val ds)).length) := by rw [HT.out]; exact htl
  clear htl hdl
  by_cases hz : t = 0
  · subst hz
    have hv := digs_nil HTL.out.symm
    go_enter Try.func82, Try.ntmps82
    go_wp2_with (go_at_call 99; refine (trim_any A n c _ ds _ (h.alloc (Nat.le_refl _) _) hc hm).mono ?_; rw [← HT.out]; rintro e w' ⟨rfl, rfl⟩)
    refine bodyPost_ret (v := .agg #[.bool false, .slice none 0 0]) (by simp [results, Try.results82, go_sem]) rfl (RetZ.mk_ ?_ ?_ (Nat.le_refl _) (Nat.zero_le _) ((Below.refl _ _).alloc (Nat.le_refl _) _))
    · rw [hv]; cases neg <;> rfl
    · rw [hv]; cases neg <;> (simp [zOf, digs_zero]; exact Dgs.none_)
  · have HV : Hid (val ds ≠ 0) := by
      intro hv
      have := HTL.out
      rw [hv, digs_zero] at this
      exact hz this
    have hz' : ((t : Int) == 0) = false := by simp; omega
    go_enter Try.func82, Try.ntmps82
    go_wp2_with (go_at_call 99; refine (trim_any A n c _ ds _ (h.alloc (Nat.le_refl _) _) hc hm).mono ?_; rw [← HT.out]; rintro e w' ⟨rfl, rfl⟩)
    refine bodyPost_ret (v := .agg #[.bool neg, .slice A t t]) (by simp [results, Try.results82, go_sem]) rfl (RetZ.mk_ ?_ ?_ (Nat.le_refl _) (by have := h.len; omega) ((Below.refl _ _).alloc (Nat.le_refl _) _))
    · exact (zOf_neg HV.out).symm
    · rw [zOf_natAbs]; exact (hd2.alloc (Nat.le_refl _) _).more (by simp)
end Go.Proofs.Ytehoafpnmfkniaa
