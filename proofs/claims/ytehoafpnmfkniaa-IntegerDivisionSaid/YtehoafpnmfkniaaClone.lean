/-
  A copy of digits.
-/
import Derived.Test.YtehoafpnmfkniaaRow
import Derived.WalkSpells
import Derived.Maps.AppendAt
set_option linter.unusedVariables false
set_option linter.unusedSimpArgs false
namespace Go.Proofs.Ytehoafpnmfkniaa
open Go.RowKit

/-- The same digits in a slice that the call hands back. -/
def RetL (w : World) (ds : List Nat) (e : Ending) (w' : World) : Prop :=
  ∃ A n c, e = .returned (.slice A n c) ∧ Dgs w' w'.heap.size A n ds ∧ n ≤ c ∧ c ≤ maxLen ∧ Below w.heap.size w w'

theorem RetL.mk_ {w w' : World} {ds : List Nat} {A : Option Addr} {n c : Nat} (hd : Dgs w' w'.heap.size A n ds) (hc : n ≤ c) (hm : c ≤ maxLen) (hb : Below w.heap.size w w') :
    RetL w ds (.returned (.slice A n c)) w' := ⟨A, n, c, rfl, hd, hc, hm, hb⟩

theorem RetL.of_own {w w' : World} {ds : List Nat} {base n : Nat} {v : Value} (h : World.ownsRow w' base 74 1 v n (dcells ds)) (hd : Dig ds) (hb : Below w.heap.size w w') : RetL w ds (.returned v) w' := by
  have hv : ∃ A c, v = .slice A n c := by
    rcases h.2 with ⟨rfl, rfl⟩ | ⟨g, cap, cur, rfl, _⟩
    · exact ⟨none, 0, rfl⟩
    · exact ⟨_, _, rfl⟩
  obtain ⟨A, c, rfl⟩ := hv
  exact RetL.mk_ (Dgs.of_own h hd) (World.ownsRow.le h).1 (World.ownsRow.le h).2 hb

theorem Row.of_own {w : World} {base g n cap : Nat} {ds : List Nat} (h : World.ownsRow w base 74 1 (.slice (some ⟨g, 0, none⟩) n cap) n (dcells ds)) : Row w g ds ∧ base ≤ g := by
  rcases h.2 with ⟨hv, _⟩ | ⟨g', cap', cur, hv, hb, hh, _, _, hsz, ht⟩
  · cases hv
  · injection hv with h1 h2 h3
    injection h1 with h1
    injection h1 with h1
    subst h1
    refine ⟨⟨cur.toList.drop (n * 1), ?_⟩, hb⟩
    have e : (ds.map dcell) = dcells ds := rfl
    rw [e, ← ht, List.take_append_drop]
    exact hh

theorem own_empty (w : World) : (w.alloc (.cells #[] 74)).ownsRow w.heap.size 74 1 (.slice (some ⟨w.heap.size, 0, none⟩) 0 0) 0 [] := by
  refine ⟨rfl, .inr ⟨w.heap.size, 0, #[], rfl, Nat.le_refl _, Go.Deep.blk_alloc_new _ _, Nat.le_refl _, by unfold maxLen; omega, rfl, rfl⟩⟩

set_option maxHeartbeats 1000000 in
set_option maxRecDepth 100000 in
theorem clone_any (A : Option Addr) (n c : Nat) (ds : List Nat) (w : World) (h : Dgs w w.heap.size A n ds) (hc : n ≤ c) (hm : c ≤ maxLen) (hs : n ≤ 1000000) :
    Calls Try.prog 90 #[.slice A n c] w (RetL w ds) := by
  obtain ⟨i0, hi, hz0, hz1, hz2⟩ := info_parts u32_info
  have hnil := fun W => Lib.run_eql_slice_nil (P := Try.prog) W 22 74 A n c 0 0 Try.underlying22
  rcases A with _ | ⟨b, off, z⟩
  · have hn : n = 0 := by
      rcases Nat.eq_zero_or_pos n with h0 | h0
      · exact h0
      · obtain ⟨_, _, e, _⟩ := h.at_ h0; cases e
    subst hn
    have hds : ds = [] := List.eq_nil_of_length_eq_zero h.len
    subst hds
    clear h
    go_enter Try.func90, Try.ntmps90
    go_wp2
    go_ret
    exact RetL.mk_ Dgs.none_ (Nat.le_refl _) (by unfold maxLen; omega) (Below.refl _ _)
  · by_cases hn : n = 0
    · subst hn
      have hds : ds = [] := List.eq_nil_of_length_eq_zero h.len
      subst hds
      go_enter Try.func90, Try.ntmps90
      go_wp2_with (at_builtin; refine wpList_append_own_at _ rfl _ _ 22 rfl w.heap.size 74 i0 (.int .u32 0) 1 4 Try.underlying22 hi hz0 hz1 hz2 rfl (by omega) (.slice (some ⟨w.heap.size, 0, none⟩) 0 0) 0 [] (by rfl) (own_empty w) ⟨b, off, z⟩ 0 c [] (by rfl) (by rfl) (by simp) (by simp) (by unfold maxLen; omega) (by omega) (by simp) ?_; intro v1 w1 hown hg hnn hat)
      go_ret
      exact RetL.of_own (n := 0) (ds := []) hown Dig.nil ((bnew _ _).grown hg (by simp) (fun k hk => by simp [Value.ownBlock] at hk; omega))
    · obtain ⟨b1, off1, e, hb, hcell⟩ := h.at_ (by omega)
      injection e with e
      injection e with e1 e2 e3
      subst e1 e2 e3
      clear hcell
      have h' := h.alloc (Nat.le_refl _) (.cells #[] 74)
      have HL := Lib.hid h.len
      go_enter Try.func90, Try.ntmps90
      go_wp2_with (at_builtin; refine wpList_append_lies _ rfl _ _ 22 rfl w.heap.size 74 i0 (.int .u32 0) 1 4 Try.underlying22 hi hz0 hz1 hz2 rfl (by omega) (.slice (some ⟨w.heap.size, 0, none⟩) 0 0) 0 [] (by rfl) (own_empty w) ⟨b, off, none⟩ n c (dcells ds) (by rfl) (by rw [dcells_length, HL.out]; omega) h'.news (dcells_one _) (by omega) (by unfold maxLen; omega) (by omega) (by simp) _ rfl ?_; intro g cap w1 hown hg hat hlt; simp only [Nat.zero_add, List.nil_append] at hown)
      go_ret
      exact RetL.of_own hown h.dig ((bnew _ _).grown hg (by simp) (fun k hk => by simp [Value.ownBlock] at hk; omega))
/-- A copy of digits lies in a row of its own. -/
def RetRow (w : World) (ds : List Nat) (n : Nat) (e : Ending) (w' : World) : Prop :=
  ∃ g c', e = .returned (.slice (some ⟨g, 0, none⟩) n c') ∧ Row w' g ds ∧ w.heap.size ≤ g ∧ n ≤ c' ∧ c' ≤ maxLen ∧ Below w.heap.size w w'

set_option maxHeartbeats 1000000 in
set_option maxRecDepth 100000 in
theorem clone_row (b off : Nat) (n c : Nat) (ds : List Nat) (w : World) (h : Dgs w w.heap.size (some ⟨b, off, none⟩) n ds) (hc : n ≤ c) (hm : c ≤ maxLen) (hs : n ≤ 1000000) (hn : 0 < n) :
    Calls Try.prog 90 #[.slice (some ⟨b, off, none⟩) n c] w (RetRow w ds n) := by
  obtain ⟨i0, hi, hz0, hz1, hz2⟩ := info_parts u32_info
  have hnil := fun W => Lib.run_eql_slice_nil (P := Try.prog) W 22 74 (some ⟨b, off, none⟩) n c 0 0 Try.underlying22
  have h' := h.alloc (Nat.le_refl _) (.cells #[] 74)
  have HL := Lib.hid h.len
  go_enter Try.func90, Try.ntmps90
  go_wp2_with (at_builtin; refine wpList_append_lies _ rfl _ _ 22 rfl w.heap.size 74 i0 (.int .u32 0) 1 4 Try.underlying22 hi hz0 hz1 hz2 rfl (by omega) (.slice (some ⟨w.heap.size, 0, none⟩) 0 0) 0 [] (by rfl) (own_empty w) ⟨b, off, none⟩ n c (dcells ds) (by rfl) (by rw [dcells_length, HL.out]; omega) h'.news (dcells_one _) (by omega) (by unfold maxLen; omega) (by omega) (by simp) _ rfl ?_; intro g cap w1 hown hg hat hlt; simp only [Nat.zero_add, List.nil_append] at hown)
  go_ret
  exact ⟨g, cap, rfl, (Row.of_own hown).1, (Row.of_own hown).2, (World.ownsRow.le hown).1, (World.ownsRow.le hown).2, (bnew _ _).grown hg (by simp) (fun k hk => by simp [Value.ownBlock] at hk; omega)⟩
end Go.Proofs.Ytehoafpnmfkniaa
