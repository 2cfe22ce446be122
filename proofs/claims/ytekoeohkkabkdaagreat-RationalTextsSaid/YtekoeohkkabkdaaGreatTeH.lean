/-
  Texts of fractions: the reference's ParseFrac.
-/
import Derived.Test.YtekoeohkkabkdaaGreatTeG
import Derived.Test.YtekoeohkkabkdaaGreatTxH
import Derived.Deep.RegionHeld3
import Derived.Deep.QuietTactic
import Derived.BigQuiet
set_option linter.unusedVariables false
set_option linter.unusedSimpArgs false
set_option warningAsError false
namespace Go.Proofs.YtekoeohkkabkdaaGreat
open Go.RowKit

theorem decB_cut {d : List UInt8} (h : decB d = true) : cutV d = (d, false) := by
  unfold cutV
  rw [if_neg]
  rintro ⟨h1, h2⟩
  have := allD_at (allD_of h) (k := 0) h1
  omega
theorem decB_pos {d : List UInt8} (h : decB d = true) (h2 : d ≠ [48]) : 0 < decV d := by
  have ha := allD_of h
  unfold decB at h
  simp only [Bool.and_eq_true, decide_eq_true_eq, Bool.not_eq_true'] at h
  obtain ⟨⟨_, h3⟩, h4⟩ := h
  have h5 := allD_at ha (k := 0) h3
  cases d with
  | nil => exact absurd h3 (by decide)
  | cons a t =>
    have e0 : byteAt (a :: t) 0 = a := rfl
    rw [e0] at h4 h5
    show 0 < decV ([a] ++ t)
    rw [decV_append]
    have e1 : decV [a] = a.toNat - 48 := by show 10 * 0 + (a.toNat - 48) = _; omega
    have hp : 0 < 10 ^ t.length := Nat.pow_pos (by decide)
    by_cases h6 : a.toNat = 48
    · exfalso
      have h8 : t = [] := by
        cases t with
        | nil => rfl
        | cons b t' => exfalso; simp [h6] at h4
      exact h2 (by rw [h8, u8_ext (a := a) (b := 48) (by rw [h6]; rfl)])
    · have h9 : 1 ≤ decV [a] := by omega
      have := Nat.mul_le_mul h9 (Nat.le_refl (10 ^ t.length))
      omega
theorem pq_iff {n d : List UInt8} (hd : d.length ≤ 400) : pqOk n d ↔ parE n = 0 ∧ decB d = true ∧ d ≠ [48] := by
  unfold pqOk
  constructor
  · rintro ⟨h1, h2, h3⟩
    refine ⟨h1, ?_⟩
    have hc : decB (cutV d).1 = true := by
      unfold parE at h2
      rw [if_neg (by omega)] at h2
      split at h2
      · rename_i h; exact h.1
      · omega
    have hz : parZ d = zOf (cutV d).2 (decV (cutV d).1) := by unfold parZ; rw [if_pos h2]
    have hs : (cutV d).2 = false := by
      cases hh : (cutV d).2
      · rfl
      · rw [hh] at hz; unfold zOf at hz; simp at hz; omega
    have he : (cutV d).1 = d := by
      unfold cutV at hs ⊢
      split at hs
      · simp at hs
      · rename_i h; rw [if_neg h]
    rw [he] at hc
    refine ⟨hc, ?_⟩
    rintro rfl
    have : parZ [48] = 0 := by decide
    omega
  · rintro ⟨h1, h2, h3⟩
    have hc := decB_cut h2
    have he : parE d = 0 := by
      unfold parE
      rw [if_neg (by omega), hc, if_pos ⟨h2, fun h => Bool.noConfusion h.1⟩]
    refine ⟨h1, he, ?_⟩
    unfold parZ
    rw [if_pos he, hc]
    have := decB_pos h2 h3
    show 0 < zOf false (decV d)
    unfold zOf
    simp
    omega
theorem pq_val {d : List UInt8} (hd : d.length ≤ 400) (h : decB d = true) : parZ d = (decV d : Nat) := by
  have hc := decB_cut h
  have he : parE d = 0 := by
    unfold parE
    rw [if_neg (by omega), hc, if_pos ⟨h, fun h => Bool.noConfusion h.1⟩]
  unfold parZ
  rw [if_pos he, hc]
  rfl
theorem rmk_at {w : World} {A : Option Addr} {n c : Nat} {z : Int} (h : IntAt w false A n c z) : Calls Tryz.prog 26 #[.bool false, .slice A n c] w (RetZ w z) := by
  obtain ⟨d, hd, hc, hm, rfl, hn⟩ := h
  exact make_any false A n c d w hd hc hm hn
theorem rmkV_at {w : World} {A : Option Addr} {n c V : Nat} {ds : List Nat} (b : Bool) (h : Dgs w w.heap.size A n ds) (hc : n ≤ c) (hm : c ≤ maxLen) (hn : n ≤ 100000) (hv : val ds = V) : Calls Tryz.prog 26 #[.bool b, .slice A n c] w (RetZ w (zOf b V)) := by
  subst hv
  exact make_any b A n c ds w h hc hm (by omega)
theorem zer_dec (n : Nat) : decV (49 :: List.replicate n 48) = 10 ^ n ∧ allD (49 :: List.replicate n (48 : UInt8)) = true := by
  refine ⟨?_, ?_⟩
  · show decV ([49] ++ List.replicate n 48) = _
    rw [decV_append, (zer_ok n).2, show decV [49] = 1 from rfl, List.length_replicate]
    omega
  · have := (zer_ok n).1
    unfold allD at *
    rw [List.all_cons, this]
    decide
theorem allD_app {a b : List UInt8} (h : allD a = true) (h' : allD b = true) : allD (a ++ b) = true := by
  unfold allD at *
  rw [List.all_append, h, h']; rfl
theorem pdU_sz {D : List UInt8} (h : D.length ≤ 399) : Sz (pdU D) 45 := by
  rw [← (zer_parZ D h).1]; exact parZ_sz _
/-- The three ways of a text's head. -/
theorem head_cases (W : List UInt8) : (W.length = 0 ∧ (cutV W).1 = W ∧ (cutV W).2 = false) ∨ (0 < W.length ∧ (byteAt W 0).toNat = 45 ∧ (cutV W).1 = W.drop 1 ∧ (cutV W).2 = true) ∨ (0 < W.length ∧ (byteAt W 0).toNat ≠ 45 ∧ (cutV W).1 = W ∧ (cutV W).2 = false) := by
  unfold cutV
  by_cases h : 0 < W.length
  · by_cases h2 : (byteAt W 0).toNat = 45
    · rw [if_pos ⟨h, h2⟩]; exact .inr (.inl ⟨h, h2, rfl, rfl⟩)
    · rw [if_neg (fun e => h2 e.2)]; exact .inr (.inr ⟨h, h2, rfl, rfl⟩)
  · rw [if_neg (fun e => h e.1)]; exact .inl ⟨by omega, rfl, rfl⟩
end Go.Proofs.YtekoeohkkabkdaaGreat

