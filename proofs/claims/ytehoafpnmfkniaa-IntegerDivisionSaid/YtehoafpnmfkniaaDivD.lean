/-
  Quotient and remainder of digits, the long division taken as a premise.
-/
import Derived.Test.YtehoafpnmfkniaaDivS
set_option linter.unusedVariables false
set_option linter.unusedSimpArgs false
namespace Go.Proofs.Ytehoafpnmfkniaa
open Go.RowKit

/-- Quotient and remainder are handed back; what was there is as it was. -/
def RetQ (w : World) (q r : Nat) (e : Ending) (w' : World) : Prop :=
  ∃ A n c A' n' c', e = .returned (.tuple #[.slice A n c, .slice A' n' c']) ∧ Dgs w' w'.heap.size A n (digs q) ∧ n ≤ c ∧ c ≤ maxLen ∧ Dgs w' w'.heap.size A' n' (digs r) ∧ n' ≤ c' ∧ c' ≤ maxLen ∧ Below w.heap.size w w'

theorem RetQ.mk_ {w w' : World} {q r : Nat} {A A' : Option Addr} {n c n' c' : Nat} (hd : Dgs w' w'.heap.size A n (digs q)) (hc : n ≤ c) (hm : c ≤ maxLen) (hd' : Dgs w' w'.heap.size A' n' (digs r)) (hc' : n' ≤ c') (hm' : c' ≤ maxLen) (hb : Below w.heap.size w w') :
    RetQ w q r (.returned (.tuple #[.slice A n c, .slice A' n' c'])) w' := ⟨A, n, c, A', n', c', rfl, hd, hc, hm, hd', hc', hm', hb⟩

/-- The long division does what it should on these. -/
def LongOk (y : Nat) : Prop :=
  ∀ (A A' : Option Addr) (n n' c c' x : Nat) (w : World), Dgs w w.heap.size A n (digs x) → Dgs w w.heap.size A' n' (digs y) → n ≤ c → c ≤ maxLen → n' ≤ c' → c' ≤ maxLen → n ≤ 1000000 → 2 ≤ n' → y ≤ x →
    Calls Try.prog 131 #[.slice A n c, .slice A' n' c'] w (RetQ w (x / y) (x % y))

theorem longOk_small {y : Nat} (h : y < 4294967296) : LongOk y := by
  intro A A' n n' c c' x w h1 h2 _ _ _ _ _ h3 _
  have := @digs_length_le y 1 (by rw [Nat.pow_one, BB_eq]; exact h)
  have := h2.len
  omega

theorem digs_one {y : Nat} (h : (digs y).length = 1) : y < 4294967296 ∧ (digs y).getD 0 0 = y ∧ 0 < y := by
  have h1 := lt_pow_digs y
  rw [h, Nat.pow_one, BB_eq] at h1
  refine ⟨h1, by rw [digs_lo, BB_eq, Nat.mod_eq_of_lt h1], ?_⟩
  rcases Nat.eq_zero_or_pos y with h0 | h0
  · subst h0; rw [digs_zero] at h; simp at h
  · exact h0

set_option maxHeartbeats 1000000 in
set_option maxRecDepth 100000 in
theorem divDigits_any (A A' : Option Addr) (n n' c c' x y : Nat) (w : World) (h : Dgs w w.heap.size A n (digs x)) (h' : Dgs w w.heap.size A' n' (digs y)) (hc : n ≤ c) (hm : c ≤ maxLen) (hc' : n' ≤ c') (hm' : c' ≤ maxLen) (hs : n ≤ 1000000) (hy : y ≠ 0) (hL : LongOk y) :
    Calls Try.prog 78 #[.slice A n c, .slice A' n' c'] w (RetQ w (x / y) (x % y)) := by
  unfold LongOk at hL
  have hcmp := fun w' k k' => compareDigits_any A A' n n' c c' w'.heap.size w'.heap.size x y w' k k' (by omega) (by omega)
  by_cases hxy : x < y
  · have HC : Hid (cmpI (x : Int) y = -1) := cmpI_lt (by omega)
    have HQ := Lib.hid (Nat.div_eq_of_lt hxy)
    have HR := Lib.hid (Nat.mod_eq_of_lt hxy)
    clear hxy
    go_enter Try.func78, Try.ntmps78
    go_wp2_with (first
      | (go_at_call 88; (with_reducible refine (hcmp w h h').mono ?_); rw [HC.out]; rintro e w1 ⟨rfl, hw1⟩)
      | (go_at_call 90; (with_reducible refine (clone_any A n c (digs x) _ (hw1.dgs' h) hc hm hs).mono ?_); rintro e w2 ⟨A2, n2, c2, rfl, hd2, hn2, hc2, hb2⟩))
    go_ret2
    rw [HQ.out, HR.out]
    exact RetQ.mk_ (by rw [digs_zero]; exact Dgs.none_) (Nat.le_refl _) (Nat.zero_le _) hd2 hn2 hc2 (bcall (hw1.below _) hb2)
  · have HC : Hid (¬ cmpI (x : Int) y < 0) := by
      unfold Hid cmpI
      split
      · omega
      · split <;> omega
    obtain ⟨v, HV⟩ : ∃ v, Hid (v = cmpI (x : Int) y) := ⟨_, rfl⟩
    have hv : ¬ v < 0 := by rw [HV.out]; exact HC.out
    by_cases hn1 : n' = 1
    · subst hn1
      have HL' := Lib.hid h'.len
      obtain ⟨hy1, hy2, hy3⟩ := digs_one h'.len
      obtain ⟨b, off, hA, hb, hcell⟩ := h'.at_ (by omega)
      subst hA
      have hy0 : w.cell? ⟨b, off, none⟩ = some (.int .u32 (y : Nat)) := by have := hcell 0 (by omega); rwa [hy2] at this
      clear hcell hy2
      have HL := Lib.hid h.len
      obtain ⟨r, HR⟩ : ∃ r, Hid (r = x % y) := ⟨_, rfl⟩
      have hrl : r < 4294967296 := by rw [HR.out]; have := Nat.mod_lt x hy3; omega
      have hmk := run_make_row' (P := Try.prog) 22 74 (.int .u32 0) 4 Try.underlying22 u32_info rfl .i64 .i64 n (by omega) (by omega)
      go_enter Try.func78, Try.ntmps78
      go_wp2_with (first
        | (go_at_call 88; (with_reducible refine (hcmp w h h').mono ?_); rw [← HV.out]; rintro e w1 ⟨rfl, hw1⟩; have hd1 := (hw1.dgs' h).alloc (Nat.le_refl _) (.cells (madeCells #[.int .u32 0] n) 74); have hr1 := Row.made w1 n; have hy1' : (w1.alloc (.cells (madeCells #[.int .u32 0] n) 74)).cell? ⟨b, off, none⟩ = some (.int .u32 (y : Nat)) := by (rw [World.cell?_alloc_lt _ _ _ (by have := hw1.size; show b < _; omega)]; rw [(hw1.below w.heap.size).cell (p := ⟨b, off, none⟩) hb]; exact hy0))
        | (go_at_call 130; (with_reducible refine (divSmall_any A w1.heap.size n n c y (digs x) (List.replicate n 0) _ hr1 (by simp) hy3 hy1 hs (dig_digs x) HL.out ?_).mono ?_); exact (fun hn => by obtain ⟨b2, off2, e2, hb2, hc2⟩ := hd1.at_ hn; exact ⟨b2, off2, e2, hc2, fun e => by omega⟩); rw [val_digs, ← HR.out]; rintro e w2 ⟨qs, rfl, hr2, hq2, hq3, hq4, ho2⟩; have hd2 := hr2.dgs hq3; rw [hq2] at hd2)
        | (go_at_call 99; (with_reducible refine (trim_ret _ _ _ _ _ _ hd2 (Nat.le_refl _) (by unfold maxLen; omega)).mono ?_); rw [hq4]; rintro e w3 ⟨t, rfl, hd3, ht3, rfl⟩)
        | (go_at_call 80; (with_reducible refine (fromWord_any r (by omega) _).mono ?_); rintro e w4 ⟨A4, n4, c4, rfl, hd4, hn4, hc4, hb4⟩))
      go_ret2
      rw [← HR.out]
      exact RetQ.mk_ ((hd3.below hb4).more hb4.size) (Nat.le_refl _) (by unfold maxLen; omega) hd4 hn4 hc4 (bcall (((hw1.below _).alloc (by rw [hw1.size]; exact Nat.le_refl _) _).trans (ho2.below (by rw [hw1.size]; exact Nat.le_refl _))) hb4)
    · have hn2 : 2 ≤ n' := by
        have h1 := h'.len
        have h2 := digs_pos_len hy
        omega
      go_enter Try.func78, Try.ntmps78
      go_wp2_with (first
        | (go_at_call 88; (with_reducible refine (hcmp w h h').mono ?_); rw [← HV.out]; rintro e w1 ⟨rfl, hw1⟩)
        | (go_at_call 131; (with_reducible refine (hL A A' n n' c c' x _ (hw1.dgs' h) (hw1.dgs' h') hc hm hc' hm' hs hn2 (by omega)).mono ?_); rintro e w2 ⟨A2, n2, c2, A3, n3, c3, rfl, hd2, hn2, hc2, hd3, hn3, hc3, hb2⟩))
      go_ret2
      exact RetQ.mk_ hd2 hn2 hc2 hd3 hn3 hc3 (bcall (hw1.below _) hb2)
end Go.Proofs.Ytehoafpnmfkniaa
