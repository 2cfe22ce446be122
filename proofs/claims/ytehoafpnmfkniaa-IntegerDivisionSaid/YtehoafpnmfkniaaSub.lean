/-
  Differences of digits.
-/
import Derived.Test.YtehoafpnmfkniaaRow
set_option linter.unusedVariables false
set_option linter.unusedSimpArgs false
namespace Go.Proofs.Ytehoafpnmfkniaa
open Go.RowKit

/-- What holds of a row that is being filled with a difference, k digits being there and a borrow. -/
def SubI (w wr : World) (n k bo : Nat) (A B : Nat) (xs : List Nat) : Prop :=
  Row wr w.heap.size (xs ++ List.replicate (n - k) 0) ∧ xs.length = k ∧ Dig xs ∧ val xs + B = A + BB ^ k * bo ∧ Below w.heap.size w wr

theorem sub_arith (p v bo bo' d x y A B : Nat) (h : v + B = A + p * bo) (hd : d + y + bo = x + BB * bo') : (v + p * d) + (B + p * y) = (A + p * x) + p * BB * bo' := by
  have h1 : p * d + p * y + p * bo = p * x + p * BB * bo' := by
    rw [Nat.mul_assoc, ← Nat.mul_add, ← Nat.mul_add, ← Nat.mul_add, hd]
  omega

theorem sub_step {w wr : World} {n k bo bo' d x y : Nat} {xa xb xs : List Nat} (h : SubI w wr n k bo (val (xa.take k)) (val (xb.take k)) xs) (hk : k < n) (hx : x = xa.getD k 0) (hy : y = xb.getD k 0) (hd : d + y + bo = x + 4294967296 * bo') (hdl : d < 4294967296) {v : Int} (hv : v = (d : Nat)) :
    SubI w (wr.setCell ⟨w.heap.size, k, none⟩ (.int .u32 v)) n (k + 1) bo' (val (xa.take (k + 1))) (val (xb.take (k + 1))) (xs ++ [d]) := by
  obtain ⟨h1, h2, h3, h4, h5⟩ := h
  subst hv hx hy
  refine ⟨?_, by simp [h2], h3.append (Dig.cons (by rw [BB_eq]; exact hdl) Dig.nil), ?_, h5.setCell (Nat.le_refl _) _⟩
  · have e : n - k = (n - (k + 1)) + 1 := by omega
    rw [e] at h1
    have := h1.set k d
    rwa [← h2, set_zeros, h2] at this
  · rw [val_snoc, h2, val_take_any, val_take_any, Nat.pow_succ]
    exact sub_arith _ _ _ _ _ _ _ _ _ h4 (by rw [BB_eq]; exact hd)

theorem sub_digit (x y bo : Nat) (hx : x < 4294967296) (hy : y < 4294967296) (hb : bo ≤ 1) :
    ∃ d bo' : Nat, bo' ≤ 1 ∧ d + y + bo = x + 4294967296 * bo' ∧ d < 4294967296 ∧ (-(bo : Int) + x - y) % 4294967296 = d ∧ (-(bo : Int) + x - y) / 4294967296 = -(bo' : Int) := by
  by_cases h : x < y + bo
  · exact ⟨x + 4294967296 - y - bo, 1, by omega, by omega, by omega, by omega, by omega⟩
  · exact ⟨x - y - bo, 0, by omega, by omega, by omega, by omega, by omega⟩

theorem val_take_small {db : List Nat} {n : Nat} (h : val db < BB ^ n) : val (db.take n) = val db := by
  by_cases hn : db.length ≤ n
  · rw [List.take_of_length_le hn]
  · have e := val_append (db.take n) (db.drop n)
    rw [List.take_append_drop, List.length_take, Nat.min_eq_left (by omega)] at e
    rcases Nat.eq_zero_or_pos (val (db.drop n)) with h0 | h0
    · rw [h0] at e; omega
    · have : BB ^ n * 1 ≤ BB ^ n * val (db.drop n) := Nat.mul_le_mul_left _ h0
      omega

theorem sub_last {w wr : World} {n bo : Nat} {da db xs : List Nat} (h : SubI w wr n n bo (val (da.take n)) (val (db.take n)) xs) (hl : da.length = n) (hda : Dig da) (hle : val db ≤ val da) :
    Dgs wr wr.heap.size (some ⟨w.heap.size, 0, none⟩) n xs ∧ val xs = val da - val db ∧ Below w.heap.size w wr := by
  obtain ⟨h1, h2, h3, h4, h5⟩ := h
  have ha := val_lt hda
  rw [hl] at ha
  rw [val_take_small (by omega), List.take_of_length_le (by omega)] at h4
  have hx := val_lt h3
  rw [h2] at hx
  have hb : bo = 0 := by
    rcases Nat.eq_zero_or_pos bo with h0 | h0
    · exact h0
    · have : BB ^ n * 1 ≤ BB ^ n * bo := Nat.mul_le_mul_left _ h0
      omega
  subst hb
  refine ⟨?_, by omega, h5⟩
  have := h1.dgs (by simpa using h3)
  simpa [h2] using this

set_option maxHeartbeats 1000000 in
set_option maxRecDepth 100000 in
theorem subDigits_any (A A' : Option Addr) (n n' c c' : Nat) (da db : List Nat) (w : World) (h : Dgs w w.heap.size A n da) (h' : Dgs w w.heap.size A' n' db) (hs : n ≤ 1000000) (hs' : n' ≤ 1000000) (hle : val db ≤ val da) :
    Calls Try.prog 81 #[.slice A n c, .slice A' n' c'] w (RetD w (val da - val db)) := by
  have hmk := run_make_row' (P := Try.prog) 22 74 (.int .u32 0) 4 Try.underlying22 u32_info rfl .i64 .i64 n (by omega) (by omega)
  have H0 : SubI w (w.alloc (.cells (madeCells #[.int .u32 0] n) 74)) n 0 0 (val (da.take 0)) (val (db.take 0)) [] := ⟨by simpa using Row.made w n, rfl, Dig.nil, rfl, bnew _ _⟩
  have HL := Lib.hid h.len
  have HL' := Lib.hid h'.len
  have HLE := Lib.hid hle
  clear hle
  go_enter Try.func81, Try.ntmps81
  go_wp2
  clear hmk
  go_loopw [6, 14] (fun cv i wr => ∃ (k bo : Nat) (xs : List Nat), k ≤ n ∧ bo ≤ 1 ∧ i = .int .i64 k ∧ cv = .int .i64 (-(bo : Int)) ∧ SubI w wr n k bo (val (da.take k)) (val (db.take k)) xs) (fun _ i _ => n - (intOf i).toNat)
  case atStart => exact ⟨0, 0, [], Nat.zero_le _, Nat.zero_le _, rfl, rfl, H0⟩
  case round =>
    clear H0
    obtain ⟨k, bo, xs, hk, hbo, rfl, rfl, HI⟩ := hrel
    have h1 := HI.1
    have hB := HI.2.2.2.2
    have hda := h.below hB
    have hdb := h'.below hB
    by_cases hkn : k < n
    · have hlen : (xs ++ List.replicate (n - k) 0).length = n := by simp [HI.2.1]; omega
      have hstore := h1.cell (j := k) (by rw [hlen]; omega)
      have hfr := h1.frozen k
      obtain ⟨b, off, hA, _, hcell⟩ := hda.at_ (by omega)
      subst hA
      have hx := hcell k hkn
      have hxl := h.dig.getD k
      rw [BB_eq] at hxl
      obtain ⟨x, HX⟩ : ∃ x, Hid (x = da.getD k 0) := ⟨_, rfl⟩
      rw [← HX.out] at hx hxl
      have i0 : (0 : Int) ≤ (k : Int) := by omega
      have i1 : (k : Int) < (n : Int) := by omega
      clear hcell hda h1 hlen
      by_cases hkm : k < n'
      · obtain ⟨b', off', hA, _, hcell⟩ := hdb.at_ (by omega)
        subst hA
        have hy := hcell k hkm
        have hyl := h'.dig.getD k
        rw [BB_eq] at hyl
        obtain ⟨y, HY⟩ : ∃ y, Hid (y = db.getD k 0) := ⟨_, rfl⟩
        rw [← HY.out] at hy hyl
        have i3 : (k : Int) < (n' : Int) := by omega
        clear hcell hdb
        go_wp2
        obtain ⟨d, bo', e1, e2, e3, e4, e5⟩ := sub_digit x y bo hxl hyl hbo
        go_roundw
        case rel => exact ⟨k + 1, bo', _, by omega, e1, by go_num, int_val e5, sub_step HI hkn HX.out HY.out e2 e3 e4⟩
        case measure => simp [intOf]; omega
      · have HY : Hid (0 = db.getD k 0) := (getD_beyond (by rw [HL'.out]; omega)).symm
        clear hdb
        go_wp2
        obtain ⟨d, bo', e1, e2, e3, e4, e5⟩ := sub_digit x 0 bo hxl (by omega) hbo
        simp only [Int.natCast_zero, Int.sub_zero] at e4 e5
        go_roundw
        case rel => exact ⟨k + 1, bo', _, by omega, e1, by go_num, int_val e5, sub_step HI hkn HX.out HY.out e2 e3 e4⟩
        case measure => simp [intOf]; omega
    · obtain rfl : k = n := by omega
      obtain ⟨f1, f2, f3⟩ := sub_last HI HL.out h.dig HLE.out
      have F2 := Lib.hid f2
      clear f2 hda hdb
      go_wp2_with (go_at_call 99; (with_reducible refine (trim_ret _ _ _ _ _ _ f1 (Nat.le_refl _) (by unfold maxLen; omega)).mono ?_); rintro e w2 ⟨t, rfl, hd2, ht2, rfl⟩)
      go_ret
      rw [F2.out] at hd2
      exact RetD.mk_ hd2 (Nat.le_refl _) (by unfold maxLen; omega) f3
end Go.Proofs.Ytehoafpnmfkniaa
