/-
  The reference's order of digits.
  The reference's sums, differences, products and order of digits.
  The reference's products of digits.
-/
import Derived.Test.YtkhficmehjglmaaCmpC
import Derived.Deep.RegionWith
import Derived.Test.YtkhficmehjglmaaDig
set_option linter.unusedVariables false
set_option linter.unusedSimpArgs false
namespace Go.Proofs.Ytkhficmehjglmaa
open Go.RowKit

theorem trimLen_val {ds : List Nat} (hd : Dig ds) : trimLen ds = (digs (val ds)).length := by
  rw [← take_trimLen hd, List.length_take, Nat.min_eq_left (trimLen_le ds)]
theorem Dgs.trimmed {w : World} {B n N : Nat} {A : Option Addr} {ds : List Nat} (h : Dgs w B A n ds) (hN : Hid (N = (digs (val ds)).length)) : Dgs w B A N (digs (val ds)) := by
  rw [hN.out, ← trimLen_val h.dig, ← take_trimLen h.dig]
  exact h.take (by rw [← h.len]; exact trimLen_le ds)
theorem rtrim_fix (A : Option Addr) (n c B N : Nat) (ds : List Nat) (w : World) (h : Dgs w B A n ds) (hc : n ≤ c) (hm : c ≤ maxLen) (hN : Hid (N = (digs (val ds)).length)) :
    Calls Try.prog 23 #[.slice A n c] w fun e w' => e = .returned (.slice A N c) ∧ w = w' :=
  (rtrim_any A n c B ds w h hc hm).mono fun _ _ ⟨he, hw⟩ => ⟨by rw [he, hN.out, trimLen_val h.dig], hw⟩
theorem trim_len_le {w : World} {B n N : Nat} {A : Option Addr} {ds : List Nat} (h : Dgs w B A n ds) (hN : Hid (N = (digs (val ds)).length)) : N ≤ n := by
  rw [hN.out, ← trimLen_val h.dig, ← h.len]; exact trimLen_le ds

theorem rtrim_row {w : World} {B n c : Nat} {A : Option Addr} {ds : List Nat} (h : Dgs w B A n ds) (hc : n ≤ c) (hm : c ≤ maxLen) :
    Calls Try.prog 23 #[.slice A n c] w (RetR w B A (val ds) n c) := rtrim_ret A n c B ds w h hc hm

theorem add_stepN {w wr : World} {N k c x y : Nat} {xa xb xs : List Nat} (h : AddI w wr N k c (val (xa.take k)) (val (xb.take k)) xs) (hk : k < N) (hx : x = xa.getD k 0) (hy : y = xb.getD k 0) {v : Int} (hv : v = ((c + x + y) % 4294967296 : Nat)) :
    AddI w (wr.setCell ⟨w.heap.size, k, none⟩ (.int .u32 v)) N (k + 1) ((c + x + y) / 4294967296) (val (xa.take (k + 1))) (val (xb.take (k + 1))) (xs ++ [(c + x + y) % 4294967296]) := by
  obtain ⟨h1, h2, h3, h4, h5⟩ := h
  subst hv hx hy
  refine ⟨?_, by simp [h2], h3.append (Dig.cons (by rw [BB_eq]; omega) Dig.nil), ?_, h5.setCell (Nat.le_refl _) _⟩
  · have e : N - k = (N - (k + 1)) + 1 := by omega
    rw [e] at h1
    have := h1.set k ((c + xa.getD k 0 + xb.getD k 0) % 4294967296)
    rwa [← h2, set_zeros, h2] at this
  · rw [val_snoc, h2, val_take_any, val_take_any, Nat.pow_succ]
    exact add_arith _ _ _ _ _ _ _ h4

theorem add_lastN {w wr : World} {N c : Nat} {da db xs : List Nat} (h : AddI w wr N N c (val (da.take N)) (val (db.take N)) xs) (hda : Dig da) (hdb : Dig db) (h1 : da.length < N) (h2 : db.length < N) :
    Dgs wr wr.heap.size (some ⟨w.heap.size, 0, none⟩) N xs ∧ val xs = val da + val db ∧ Below w.heap.size w wr := by
  obtain ⟨r1, r2, r3, r4, r5⟩ := h
  rw [List.take_of_length_le (by omega), List.take_of_length_le (by omega)] at r4
  have ha := val_lt hda
  have hb := val_lt hdb
  have ha' : BB ^ da.length ≤ BB ^ (N - 1) := Nat.pow_le_pow_right BB_pos (by omega)
  have hb' : BB ^ db.length ≤ BB ^ (N - 1) := Nat.pow_le_pow_right BB_pos (by omega)
  have hN : BB ^ N = BB ^ (N - 1) * 4294967296 := by
    have : N = (N - 1) + 1 := by omega
    rw [this, Nat.pow_succ, BB_eq]; simp
  have hc : c = 0 := by
    rcases Nat.eq_zero_or_pos c with h0 | h0
    · exact h0
    · have : BB ^ N * 1 ≤ BB ^ N * c := Nat.mul_le_mul_left _ h0
      omega
  subst hc
  refine ⟨?_, by omega, r5⟩
  have := r1.dgs (by simpa using r3)
  simpa [r2] using this

theorem rsub_digit (x y bo : Nat) (hx : x < 4294967296) (hy : y < 4294967296) (hb : bo ≤ 1) :
    ∃ d bo' : Nat, bo' ≤ 1 ∧ d + y + bo = x + 4294967296 * bo' ∧ d < 4294967296 ∧ ((x : Int) + 4294967296 - y - bo) % 4294967296 = d ∧ 1 - ((x : Int) + 4294967296 - y - bo) / 4294967296 = (bo' : Int) := by
  by_cases h : x < y + bo
  · exact ⟨x + 4294967296 - y - bo, 1, by omega, by omega, by omega, by omega, by omega⟩
  · exact ⟨x - y - bo, 0, by omega, by omega, by omega, by omega, by omega⟩

theorem MulI.drewN {w wr : World} {g N i n' k cy x V0 : Nat} {db xs : List Nat} (h : MulI w wr g N i n' k cy x V0 db xs) (q : Nat) : MulI w (wr.drewN q) g N i n' k cy x V0 db xs := by
  obtain ⟨h1, h2, h3, h4, h5, h6⟩ := h
  exact ⟨h1, h2, h3, h4, h5, h6.drewN q⟩

end Go.Proofs.Ytkhficmehjglmaa

