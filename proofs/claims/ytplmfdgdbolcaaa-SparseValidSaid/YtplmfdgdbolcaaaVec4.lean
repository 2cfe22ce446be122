/-
  The law SparseValid, from a contract of its check (awake) that is still open.
-/
import Derived.Test.YtplmfdgdbolcaaaVec2
import Derived.Test.YtplmfdgdbolcaaaVec3
import Derived.Test.YtplmfdgdbolcaaaSumW
set_option linter.unusedVariables false
set_option linter.unusedSimpArgs false
namespace Go.Proofs.Ytplmfdgdbolcaaa
open Go.RowKit

theorem light3_1 {w : World} {A : Option Addr} {c : Nat} {l : List VE} (hok : VV.Ok w ⟨A, c, l⟩) (b : Bool) (hb : b = true ↔ (∀ x ∈ l, LtE x) ∧ l.length ≤ 60) :
    Calls Try.prog 65 #[.slice (some ⟨w.heap.size, 0, none⟩) 1 1] (w.alloc (.cells #[.slice A l.length c] 62)) (RetB1 (w.alloc (.cells #[.slice A l.length c] 62)) b) := by
  have hh := Go.Deep.blk_alloc_new w (.cells #[.slice A l.length c] 62)
  refine light3_any w.heap.size [⟨A, c, l⟩] 1 _ (by simp) (by simp) (fun v hv => ?_) (fun i v hv => ?_) b (hb.trans ?_)
  · rw [List.mem_singleton.1 hv]
    refine ⟨hok.1, hok.2.1, fun h => ?_⟩
    obtain ⟨g, o, e1, e2, e3⟩ := hok.2.2 h
    exact ⟨g, o, e1, by simp; omega, fun k x hx => (e3 k x hx).call e2 (bnew _ _)⟩
  · match i, hv with
    | 0, hv =>
      simp only [List.getElem?_cons_zero, Option.some.injEq] at hv
      subst hv
      simp
    | i + 1, hv => simp at hv
  · unfold AllL tot tot
    simp

/-- A vector of a parameter. -/
def VP (w : World) (A : Option Addr) (l : List VE) : Prop :=
  (∀ x ∈ l, FE.P w x.e) ∧ l.length ≤ 140737488351232 ∧ (0 < l.length → ∃ g o, A = some ⟨g, o, none⟩ ∧ g < w.heap.size ∧ ∀ k x, l[k]? = some x → VE.In w g (o + k * 5) x)
theorem VP.ok {w : World} {A : Option Addr} {c : Nat} {l : List VE} (h : VP w A l) : VV.Ok w ⟨A, c, l⟩ :=
  ⟨fun x hx => by obtain ⟨da, db, h1, h2, _, _⟩ := h.1 x hx; exact ⟨h1.2.2.2, h2.2.2.2⟩, h.2.1, h.2.2⟩
theorem VP.vl {w : World} {A : Option Addr} {l : List VE} (h : VP w A l) (hl : ∀ x ∈ l, LtE x) : VL w A l := by
  refine ⟨fun x hx => ?_, h.2.2⟩
  obtain ⟨da, db, h1, h2, e1, e2⟩ := h.1 x hx
  obtain ⟨n1, n2⟩ := hl x hx
  unfold FE.At FE.Sl
  rw [e1, e2]
  exact ⟨⟨h1.i _ n1, h2.i _ n2⟩, h1.z _ n1, h2.z _ n2⟩

set_option maxHeartbeats 8000000 in
set_option maxRecDepth 100000 in
theorem valid_law (hawake : ∀ w : World, Calls Try.prog 66 #[] w (RetT1 w)) (A : Option Addr) (c : Nat) (l : List VE) (n : Int) (w : World) (hV : VP w A l) (hn1 : -9223372036854775808 ≤ n) (hn2 : n ≤ 9223372036854775807) :
    Calls Try.prog 11 #[.slice A l.length c, .int .i64 n] w (RetT1 w) := by
  have hlight := fun b hb => light3_1 (c := c) hV.ok b hb
  have hB0 : Below w.heap.size w (w.alloc (.cells #[.slice A l.length c] 62)) := bnew _ _
  by_cases h : (∀ x ∈ l, LtE x) ∧ l.length ≤ 60
  · have hlight := hlight true (by simpa using h)
    have hF : VL (w.alloc (.cells #[.slice A l.length c] 62)) A l := (hV.vl h.1).call (bnew _ _)
    have h1 := fun w' hf => rvalid_at (w := w') (A := A) (c := c) (l := l) (n := n) hf h.2 hn1 hn2
    have h2 := fun w' hf => valid_at (w := w') (A := A) (c := c) (l := l) (n := n) hf h.2
    obtain ⟨L, HL⟩ : ∃ v, Hid (l.length = v) := ⟨_, rfl⟩
    obtain ⟨V, HV⟩ : ∃ v, Hid (valid l n = v) := ⟨_, rfl⟩
    simp only [HL.out, HV.out] at h1 h2 hlight hB0 hF ⊢
    have HB := Lib.hid hB0
    clear h hV hB0
    go_enter Try.func11, Try.ntmps11
    go_wp2_with (first
      | (go_at_call 65; (with_reducible refine hlight.mono ?_); rintro e w1 ⟨rfl, g1⟩; have F1 := hF.call g1; clear hF)
      | (go_at_call 67; (with_reducible refine (h2 _ F1).mono ?_); rintro e w2 ⟨rfl, g2⟩; have F2 := F1.call g2; clear F1)
      | (go_at_call 68; (with_reducible refine (h1 _ F2).mono ?_); clear F2; rintro e w3 ⟨rfl, g3⟩)
      | (go_at_call 66; (with_reducible refine (hawake _).mono ?_); rintro e w4 ⟨rfl, g4⟩)
      | fail)
    go_ret
    exact ⟨rfl, bcall (bcall (bcall (bcall HB.out g1) g2) g3) g4⟩
  · have hlight := hlight false ⟨fun h' => (by cases h'), fun h' => absurd h' h⟩
    clear h hV
    go_enter Try.func11, Try.ntmps11
    go_wp2_with (first
      | (go_at_call 65; (with_reducible refine hlight.mono ?_); rintro e w1 ⟨rfl, g1⟩)
      | (go_at_call 66; (with_reducible refine (hawake _).mono ?_); rintro e w4 ⟨rfl, g4⟩)
      | fail)
    go_ret
    exact ⟨rfl, bcall (bcall hB0 g1) g4⟩
end Go.Proofs.Ytplmfdgdbolcaaa
