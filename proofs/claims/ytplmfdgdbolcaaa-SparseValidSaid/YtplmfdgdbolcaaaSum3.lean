/-
  Sums of lists of fractions in any order: mathematics; a list that is built by append; the walk of the law RationalSums.
-/
import Derived.Test.YtplmfdgdbolcaaaSum2
import Derived.Test.YtplmfdgdbolcaaaLightF
import Derived.Test.YtplmfdgdbolcaaaMakesW
import Derived.Laws.OwnMore
import Derived.Laws.AppendOwn
import Derived.OwnWalk
set_option linter.unusedVariables false
set_option linter.unusedSimpArgs false
namespace Go.Proofs.Ytplmfdgdbolcaaa
open Go.RowKit

theorem aN_comm (a b c d : Int) : aN a b c d = aN c d a b ∧ aD a b c d = aD c d a b := by
  unfold aN aD; rw [Int.add_comm, Int.mul_comm (rd a b)]; exact ⟨rfl, rfl⟩
theorem step_comm (p : Int × Int) (e f : FE) : stepF (stepF p e) f = stepF (stepF p f) e := by
  unfold stepF
  have h1 := fld_assoc p.1 p.2 e.a e.b f.a f.b
  have h2 := fld_assoc p.1 p.2 f.a f.b e.a e.b
  have h3 := aN_comm e.a e.b f.a f.b
  rw [h3.1, h3.2] at h1
  show (_, _) = (_, _)
  rw [← h1.1, ← h1.2, ← h2.1, ← h2.2]
theorem foldl_step (l : List FE) (p : Int × Int) (e : FE) : l.foldl stepF (stepF p e) = stepF (l.foldl stepF p) e := by
  induction l generalizing p with
  | nil => rfl
  | cons f l ih => rw [List.foldl_cons, List.foldl_cons, step_comm, ih]
theorem sum_reverse (l : List FE) : sumF l.reverse = sumF l := by
  unfold sumF
  suffices ∀ p, l.reverse.foldl stepF p = l.foldl stepF p from this _
  induction l with
  | nil => intro p; rfl
  | cons e l ih =>
    intro p
    rw [List.reverse_cons, List.foldl_append, ih]
    show stepF (l.foldl stepF p) e = l.foldl stepF (stepF p e)
    exact (foldl_step l p e).symm

def FE.cells (e : FE) : List Value := [.bool e.s, .slice e.A e.n e.c, .bool e.t, .slice e.B e.m e.d]
def flatF (l : List FE) : List Value := l.flatMap FE.cells
theorem flat_snoc (l : List FE) (e : FE) : flatF (l ++ [e]) = flatF l ++ e.cells := by unfold flatF; simp
theorem flat_len (l : List FE) : (flatF l).length = l.length * 4 := by
  induction l with
  | nil => rfl
  | cons e l ih => unfold flatF at *; rw [List.flatMap_cons, List.length_append, ih, List.length_cons]; show 4 + _ = _; omega
theorem flat_get (l : List FE) (k i : Nat) (e : FE) (h : l[k]? = some e) (hi : i < 4) : (flatF l)[k * 4 + i]? = e.cells[i]? := by
  induction l generalizing k with
  | nil => simp at h
  | cons f l ih =>
    unfold flatF at *
    rw [List.flatMap_cons]
    have h4 : f.cells.length = 4 := rfl
    cases k with
    | zero =>
      simp only [List.getElem?_cons_zero, Option.some.injEq] at h
      subst h
      rw [List.getElem?_append_left (by rw [h4]; omega), Nat.zero_mul, Nat.zero_add]
    | succ k =>
      rw [List.getElem?_cons_succ] at h
      rw [List.getElem?_append_right (by rw [h4]; omega), h4, show (k + 1) * 4 + i - 4 = k * 4 + i by omega]
      exact ih k h
/-- An owned row of fractions reads as their list. -/
theorem own_FL {w wr : World} {v : Value} {l : List FE} (hown : wr.ownsRow w.heap.size 42 4 v l.length (flatF l)) (hall : ∀ e ∈ l, FE.At wr e ∧ FE.Sm e) :
    ∃ A c, v = .slice A l.length c ∧ FL wr A l := by
  rcases Nat.eq_zero_or_pos l.length with h0 | h0
  · rcases hown.2 with ⟨rfl, _⟩ | ⟨g, cap, cur, rfl, _⟩
    · exact ⟨none, 0, by rw [h0], hall, fun h => by omega⟩
    · exact ⟨_, cap, rfl, hall, fun h => by omega⟩
  · rcases hown.2 with ⟨_, hz⟩ | ⟨g, cap, cur, rfl, hg, hb, _⟩
    · omega
    · refine ⟨_, cap, rfl, hall, fun _ => ⟨g, 0, rfl, ?_, fun k e hk => ?_⟩⟩
      · rcases Nat.lt_or_ge g wr.heap.size with h | h
        · exact h
        · rw [Array.getElem?_eq_none h] at hb; cases hb
      · have hkl : k < l.length := by
          rcases Nat.lt_or_ge k l.length with h | h
          · exact h
          · rw [List.getElem?_eq_none h] at hk; cases hk
        have hc : ∀ i, i < 4 → wr.cell? ⟨g, k * 4 + i, none⟩ = e.cells[i]? := fun i hi => (hown.cellAt (k * 4 + i) (by omega)).trans (flat_get l k i e hk hi)
        have c0 := hc 0 (by omega)
        have c1 := hc 1 (by omega)
        have c2 := hc 2 (by omega)
        have c3 := hc 3 (by omega)
        rw [Nat.zero_add]
        exact ⟨c0, c1, c2, c3⟩
theorem cell_four_new (w : World) (a b c d : Value) (t : TypeId) : ∀ j u, [a, b, c, d][j]? = some u → (w.alloc (.cells #[a, b, c, d] t)).cell? ((⟨w.heap.size, 0, none⟩ : Addr).add j) = some u := by
  intro j u hj
  have hh := Go.Deep.blk_alloc_new w (.cells #[a, b, c, d] t)
  match j, hj with
  | 0, hj => simp at hj; subst hj; simp [Addr.add]
  | 1, hj => simp at hj; subst hj; simp [Addr.add]
  | 2, hj => simp at hj; subst hj; simp [Addr.add]
  | 3, hj => simp at hj; subst hj; simp [Addr.add]
  | (j + 4), hj => simp at hj
theorem frac_info : (Try.prog.info? 42).map (fun i => (i.zero, i.size, i.bytes)) = some (some (.agg #[.bool false, .slice none 0 0, .bool false, .slice none 0 0]), 4, 64) := by kernel_rfl

set_option maxHeartbeats 4000000 in
set_option maxRecDepth 100000 in
theorem lightF_nil (A : Option Addr) (c : Nat) (w : World) : Calls Try.prog 31 #[.slice A 0 c] w (RetB1 w true) := by
  go_enter Try.func31, Try.ntmps31
  go_wp2
  go_loopg [3] 0 (fun m i wr => i = .int .i64 0 ∧ wr = w)
  case atStart => exact ⟨rfl, rfl⟩
  case round =>
    obtain ⟨rfl, rfl⟩ := hrel
    go_wp2
    go_ret
    exact ⟨rfl, Below.refl _ _⟩
end Go.Proofs.Ytplmfdgdbolcaaa
