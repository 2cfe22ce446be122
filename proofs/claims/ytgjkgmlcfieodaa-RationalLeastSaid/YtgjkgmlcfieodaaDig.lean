/-
  Sums of digits.
  Differences of digits.
  Products of digits, by the program and by the reference.
-/
import Derived.Test.YtgjkgmlcfieodaaRows2
set_option linter.unusedVariables false
set_option linter.unusedSimpArgs false
namespace Go.Proofs.Ytgjkgmlcfieodaa
open Go.RowKit

set_option maxHeartbeats 1000000 in
set_option maxRecDepth 100000 in
theorem addDigits_any (A A' : Option Addr) (n n' c c' : Nat) (da db : List Nat) (w : World) (h : Dgs w w.heap.size A n da) (h' : Dgs w w.heap.size A' n' db) (hs : n ≤ 1000000) (hs' : n' ≤ 1000000) :
    Calls Try.prog 72 #[.slice A n c, .slice A' n' c'] w (RetD w (val da + val db)) := by
  by_cases hlt : n < n'
  · rw [Nat.add_comm]
    have hmk := run_make_row' (P := Try.prog) 22 69 (.int .u32 0) 4 Try.underlying22 u32_info rfl .i64 .i64 (n' + 1) (by omega) (by omega)
    have ec : ((n' + 1 : Nat) : Int) = (n' : Int) + 1 := by omega
    rw [ec] at hmk
    clear ec
    have H0 : AddI w (w.alloc (.cells (madeCells #[.int .u32 0] (n' + 1)) 69)) (n' + 1) 0 0 (val (db.take 0)) (val (da.take 0)) [] := ⟨by simpa using Row.made w (n' + 1), rfl, Dig.nil, rfl, bnew _ _⟩
    have HL := Lib.hid h'.len
    have HL' := Lib.hid h.len
    go_enter Try.func72, Try.ntmps72
    go_wp2
    clear hmk
    go_loopw [6, 22] (fun cv i wr => ∃ (k cy : Nat) (xs : List Nat), k ≤ n' ∧ cy ≤ 1 ∧ i = .int .i64 k ∧ cv = .int .u64 cy ∧ AddI w wr (n' + 1) k cy (val (db.take k)) (val (da.take k)) xs) (fun _ i _ => n' - (intOf i).toNat)
    case atStart => exact ⟨0, 0, [], Nat.zero_le _, Nat.zero_le _, rfl, rfl, H0⟩
    case round =>
      clear H0
      obtain ⟨k, cy, xs, hk, hcy, rfl, rfl, HI⟩ := hrel
      have h1 := HI.1
      have hB := HI.2.2.2.2
      have hlen : (xs ++ List.replicate (n' + 1 - k) 0).length = n' + 1 := by simp [HI.2.1]; omega
      have hstore := h1.cell (j := k) (by rw [hlen]; omega)
      have hfr := h1.frozen k
      have hda := h'.below hB
      have hdb := h.below hB
      by_cases hkn : k < n'
      · obtain ⟨b, off, hA, _, hcell⟩ := hda.at_ (by omega)
        subst hA
        have hx := hcell k hkn
        have hxl := h'.dig.getD k
        rw [BB_eq] at hxl
        obtain ⟨x, HX⟩ : ∃ x, Hid (x = db.getD k 0) := ⟨_, rfl⟩
        rw [← HX.out] at hx hxl
        have i0 : (0 : Int) ≤ (k : Int) := by omega
        have i1 : (k : Int) < (n' : Int) := by omega
        have i2 : (k : Int) < (n' : Int) + 1 := by omega
        clear hcell hda h1 hlen
        by_cases hkm : k < n
        · obtain ⟨b', off', hA, _, hcell⟩ := hdb.at_ (by omega)
          subst hA
          have hy := hcell k hkm
          have hyl := h.dig.getD k
          rw [BB_eq] at hyl
          obtain ⟨y, HY⟩ : ∃ y, Hid (y = da.getD k 0) := ⟨_, rfl⟩
          rw [← HY.out] at hy hyl
          have i3 : (k : Int) < (n : Int) := by omega
          clear hcell hdb
          go_wp2
          go_roundw
          case rel => exact ⟨k + 1, (cy + x + y) / 4294967296, _, by omega, by omega, by go_num, by go_num, add_step' HI hkn HX.out HY.out (by omega)⟩
          case measure => simp [intOf]; omega
        · have HY : Hid (0 = da.getD k 0) := (getD_beyond (by rw [HL'.out]; omega)).symm
          clear hdb
          go_wp2
          go_roundw
          case rel => exact ⟨k + 1, (cy + x + 0) / 4294967296, _, by omega, by omega, by go_num, by go_num, add_step' HI hkn HX.out HY.out (by omega)⟩
          case measure => simp [intOf]; omega
      · obtain rfl : k = n' := by omega
        have i2 : (k : Int) < (k : Int) + 1 := by omega
        clear hda hdb
        obtain ⟨f1, f2, f3⟩ := add_last HI (v := (cy : Int)) rfl (by omega)
        have F2 := Lib.hid f2
        clear f2
        go_wp2_with (go_at_call 69; (with_reducible refine (trim_ret _ _ _ _ _ _ f1 (Nat.le_refl _) (by unfold maxLen; omega)).mono ?_); rintro e w2 ⟨t, rfl, hd2, ht2, rfl⟩)
        go_ret
        rw [F2.out, List.take_of_length_le (by rw [HL.out]; omega), List.take_of_length_le (by rw [HL'.out]; omega)] at hd2
        exact RetD.mk_ hd2 (Nat.le_refl _) (by unfold maxLen; omega) f3
  · have hmk := run_make_row' (P := Try.prog) 22 69 (.int .u32 0) 4 Try.underlying22 u32_info rfl .i64 .i64 (n + 1) (by omega) (by omega)
    have ec : ((n + 1 : Nat) : Int) = (n : Int) + 1 := by omega
    rw [ec] at hmk
    clear ec
    have H0 : AddI w (w.alloc (.cells (madeCells #[.int .u32 0] (n + 1)) 69)) (n + 1) 0 0 (val (da.take 0)) (val (db.take 0)) [] := ⟨by simpa using Row.made w (n + 1), rfl, Dig.nil, rfl, bnew _ _⟩
    have HL := Lib.hid h.len
    have HL' := Lib.hid h'.len
    go_enter Try.func72, Try.ntmps72
    go_wp2
    clear hmk
    go_loopw [6, 22] (fun cv i wr => ∃ (k cy : Nat) (xs : List Nat), k ≤ n ∧ cy ≤ 1 ∧ i = .int .i64 k ∧ cv = .int .u64 cy ∧ AddI w wr (n + 1) k cy (val (da.take k)) (val (db.take k)) xs) (fun _ i _ => n - (intOf i).toNat)
    case atStart => exact ⟨0, 0, [], Nat.zero_le _, Nat.zero_le _, rfl, rfl, H0⟩
    case round =>
      clear H0
      obtain ⟨k, cy, xs, hk, hcy, rfl, rfl, HI⟩ := hrel
      have h1 := HI.1
      have hB := HI.2.2.2.2
      have hlen : (xs ++ List.replicate (n + 1 - k) 0).length = n + 1 := by simp [HI.2.1]; omega
      have hstore := h1.cell (j := k) (by rw [hlen]; omega)
      have hfr := h1.frozen k
      have hda := h.below hB
      have hdb := h'.below hB
      by_cases hkn : k < n
      · obtain ⟨b, off, hA, _, hcell⟩ := hda.at_ (by omega)
        subst hA
        have hx := hcell k hkn
        have hxl := h.dig.getD k
        rw [BB_eq] at hxl
        obtain ⟨x, HX⟩ : ∃ x, Hid (x = da.getD k 0) := ⟨_, rfl⟩
        rw [← HX.out] at hx hxl
        have i0 : (0 : Int) ≤ (k : Int) := by omega
        have i1 : (k : Int) < (n : Int) := by omega
        have i2 : (k : Int) < (n : Int) + 1 := by omega
        clear hcell hda h1 hlen
        by_cases hkm : k < n'
        · obtain ⟨b', off', hA, _, hcell⟩ := hdb.at_ (by omega)
          subst hA
          have hy := hcell k hkm
          have hyl := h'.dig.getD k
          rw [BB_eq] at hyl
          obtain ⟨y, HY⟩ : ∃ y, Hid (y = db.getD k 0) := ⟨_, rfl⟩
          rw [← HY.out] at hy hyl
          have i3 : (k : Int) < (n' : Int) := by omega
          clear hcell hdb
          go_wp2
          go_roundw
          case rel => exact ⟨k + 1, (cy + x + y) / 4294967296, _, by omega, by omega, by go_num, by go_num, add_step' HI hkn HX.out HY.out (by omega)⟩
          case measure => simp [intOf]; omega
        · have HY : Hid (0 = db.getD k 0) := (getD_beyond (by rw [HL'.out]; omega)).symm
          clear hdb
          go_wp2
          go_roundw
          case rel => exact ⟨k + 1, (cy + x + 0) / 4294967296, _, by omega, by omega, by go_num, by go_num, add_step' HI hkn HX.out HY.out (by omega)⟩
          case measure => simp [intOf]; omega
      · obtain rfl : k = n := by omega
        have i2 : (k : Int) < (k : Int) + 1 := by omega
        clear hda hdb
        obtain ⟨f1, f2, f3⟩ := add_last HI (v := (cy : Int)) rfl (by omega)
        have F2 := Lib.hid f2
        clear f2
        go_wp2_with (go_at_call 69; (with_reducible refine (trim_ret _ _ _ _ _ _ f1 (Nat.le_refl _) (by unfold maxLen; omega)).mono ?_); rintro e w2 ⟨t, rfl, hd2, ht2, rfl⟩)
        go_ret
        rw [F2.out, List.take_of_length_le (by rw [HL.out]; omega), List.take_of_length_le (by rw [HL'.out]; omega)] at hd2
        exact RetD.mk_ hd2 (Nat.le_refl _) (by unfold maxLen; omega) f3

/-- What holds of a row that is being filled with a difference, k digits being there and a borrow. -/
def SubI (w wr : World) (n k bo : Nat) (A B : Nat) (xs : List Nat) : Prop :=
  Row wr w.heap.size (xs ++ List.replicate (n - k) 0) ∧ xs.length = k ∧ Dig xs ∧ val xs + B = A + BB ^ k * bo ∧ Below w.heap.size w wr

theorem sub_arith (p v bo bo' d x y A B : Nat) (h : v + B = A + p * bo) (hd : d + y + bo = x + BB * bo') : (v + p * d) + (B + p * y) = (A + p * x) + p * BB * bo' := by
  have h1 : p * d + p * y + p * bo = p * x + p * BB * bo' := by
    rw [Nat.mul_assoc, ← Nat.mul_add, ← Nat.mul_add, ← Nat.mul_add, hd]
  omega

theorem sub_step {w wr : World} {n k bo bo' d x y : Nat} {xa xb xs : List Nat} (h : SubI w wr n k bo (val (xa.take k)) (val (xb.take k)) xs) (hk : k < n) (hx : x = xa.getD k 0) (hy : y = xb.getD k 0) (hd : d + y + bo = x + 4294967296 * bo') (hdl : d < 4294967296) {v : Int} (hv : v = (d : Nat)) :
    SubI w (wr.setCell ⟨w.heap.size, k, none⟩ (.int .u32 v)) n (k + 1) bo' (val (xa.take (k + 1))) (val (xb.take (k + 1))) (xs ++ [d]) := by
  obtain ⟨h1, h2, h3, h4, h5⟩ := h
  subst hv hx hy
  refine ⟨?_, by simp [h2], h3.append (Dig.cons (by rw [BB_eq]; exact hdl) Dig.nil), ?_, h5.setCell (Nat.le_refl _) _⟩
  · have e : n - k = (n - (k + 1)) + 1 := by omega
    rw [e] at h1
    have := h1.set k d
    rwa [← h2, set_zeros, h2] at this
  · rw [val_snoc, h2, val_take_any, val_take_any, Nat.pow_succ]
    exact sub_arith _ _ _ _ _ _ _ _ _ h4 (by rw [BB_eq]; exact hd)

theorem sub_digit (x y bo : Nat) (hx : x < 4294967296) (hy : y < 4294967296) (hb : bo ≤ 1) :
    ∃ d bo' : Nat, bo' ≤ 1 ∧ d + y + bo = x + 4294967296 * bo' ∧ d < 4294967296 ∧ (-(bo : Int) + x - y) % 4294967296 = d ∧ (-(bo : Int) + x - y) / 4294967296 = -(bo' : Int) := by
  by_cases h : x < y + bo
  · exact ⟨x + 4294967296 - y - bo, 1, by omega, by omega, by omega, by omega, by omega⟩
  · exact ⟨x - y - bo, 0, by omega, by omega, by omega, by omega, by omega⟩

theorem val_take_small {db : List Nat} {n : Nat} (h : val db < BB ^ n) : val (db.take n) = val db := by
  by_cases hn : db.length ≤ n
  · rw [List.take_of_length_le hn]
  · have e := val_append (db.take n) (db.drop n)
    rw [List.take_append_drop, List.length_take, Nat.min_eq_left (by omega)] at e
    rcases Nat.eq_zero_or_pos (val (db.drop n)) with h0 | h0
    · rw [h0] at e; omega
    · have : BB ^ n * 1 ≤ BB ^ n * val (db.drop n) := Nat.mul_le_mul_left _ h0
      omega

theorem sub_last {w wr : World} {n bo : Nat} {da db xs : List Nat} (h : SubI w wr n n bo (val (da.take n)) (val (db.take n)) xs) (hl : da.length = n) (hda : Dig da) (hle : val db ≤ val da) :
    Dgs wr wr.heap.size (some ⟨w.heap.size, 0, none⟩) n xs ∧ val xs = val da - val db ∧ Below w.heap.size w wr := by
  obtain ⟨h1, h2, h3, h4, h5⟩ := h
  have ha := val_lt hda
  rw [hl] at ha
  rw [val_take_small (by omega), List.take_of_length_le (by omega)] at h4
  have hx := val_lt h3
  rw [h2] at hx
  have hb : bo = 0 := by
    rcases Nat.eq_zero_or_pos bo with h0 | h0
    · exact h0
    · have : BB ^ n * 1 ≤ BB ^ n * bo := Nat.mul_le_mul_left _ h0
      omega
  subst hb
  refine ⟨?_, by omega, h5⟩
  have := h1.dgs (by simpa using h3)
  simpa [h2] using this

set_option maxHeartbeats 1000000 in
set_option maxRecDepth 100000 in
theorem subDigits_any (A A' : Option Addr) (n n' c c' : Nat) (da db : List Nat) (w : World) (h : Dgs w w.heap.size A n da) (h' : Dgs w w.heap.size A' n' db) (hs : n ≤ 1000000) (hs' : n' ≤ 1000000) (hle : val db ≤ val da) :
    Calls Try.prog 73 #[.slice A n c, .slice A' n' c'] w (RetD w (val da - val db)) := by
  have hmk := run_make_row' (P := Try.prog) 22 69 (.int .u32 0) 4 Try.underlying22 u32_info rfl .i64 .i64 n (by omega) (by omega)
  have H0 : SubI w (w.alloc (.cells (madeCells #[.int .u32 0] n) 69)) n 0 0 (val (da.take 0)) (val (db.take 0)) [] := ⟨by simpa using Row.made w n, rfl, Dig.nil, rfl, bnew _ _⟩
  have HL := Lib.hid h.len
  have HL' := Lib.hid h'.len
  have HLE := Lib.hid hle
  clear hle
  go_enter Try.func73, Try.ntmps73
  go_wp2
  clear hmk
  go_loopw [6, 14] (fun cv i wr => ∃ (k bo : Nat) (xs : List Nat), k ≤ n ∧ bo ≤ 1 ∧ i = .int .i64 k ∧ cv = .int .i64 (-(bo : Int)) ∧ SubI w wr n k bo (val (da.take k)) (val (db.take k)) xs) (fun _ i _ => n - (intOf i).toNat)
  case atStart => exact ⟨0, 0, [], Nat.zero_le _, Nat.zero_le _, rfl, rfl, H0⟩
  case round =>
    clear H0
    obtain ⟨k, bo, xs, hk, hbo, rfl, rfl, HI⟩ := hrel
    have h1 := HI.1
    have hB := HI.2.2.2.2
    have hda := h.below hB
    have hdb := h'.below hB
    by_cases hkn : k < n
    · have hlen : (xs ++ List.replicate (n - k) 0).length = n := by simp [HI.2.1]; omega
      have hstore := h1.cell (j := k) (by rw [hlen]; omega)
      have hfr := h1.frozen k
      obtain ⟨b, off, hA, _, hcell⟩ := hda.at_ (by omega)
      subst hA
      have hx := hcell k hkn
      have hxl := h.dig.getD k
      rw [BB_eq] at hxl
      obtain ⟨x, HX⟩ : ∃ x, Hid (x = da.getD k 0) := ⟨_, rfl⟩
      rw [← HX.out] at hx hxl
      have i0 : (0 : Int) ≤ (k : Int) := by omega
      have i1 : (k : Int) < (n : Int) := by omega
      clear hcell hda h1 hlen
      by_cases hkm : k < n'
      · obtain ⟨b', off', hA, _, hcell⟩ := hdb.at_ (by omega)
        subst hA
        have hy := hcell k hkm
        have hyl := h'.dig.getD k
        rw [BB_eq] at hyl
        obtain ⟨y, HY⟩ : ∃ y, Hid (y = db.getD k 0) := ⟨_, rfl⟩
        rw [← HY.out] at hy hyl
        have i3 : (k : Int) < (n' : Int) := by omega
        clear hcell hdb
        go_wp2
        obtain ⟨d, bo', e1, e2, e3, e4, e5⟩ := sub_digit x y bo hxl hyl hbo
        go_roundw
        case rel => exact ⟨k + 1, bo', _, by omega, e1, by go_num, int_val e5, sub_step HI hkn HX.out HY.out e2 e3 e4⟩
        case measure => simp [intOf]; omega
      · have HY : Hid (0 = db.getD k 0) := (getD_beyond (by rw [HL'.out]; omega)).symm
        clear hdb
        go_wp2
        obtain ⟨d, bo', e1, e2, e3, e4, e5⟩ := sub_digit x 0 bo hxl (by omega) hbo
        simp only [Int.natCast_zero, Int.sub_zero] at e4 e5
        go_roundw
        case rel => exact ⟨k + 1, bo', _, by omega, e1, by go_num, int_val e5, sub_step HI hkn HX.out HY.out e2 e3 e4⟩
        case measure => simp [intOf]; omega
    · obtain rfl : k = n := by omega
      obtain ⟨f1, f2, f3⟩ := sub_last HI HL.out h.dig HLE.out
      have F2 := Lib.hid f2
      clear f2 hda hdb
      go_wp2_with (go_at_call 69; (with_reducible refine (trim_ret _ _ _ _ _ _ f1 (Nat.le_refl _) (by unfold maxLen; omega)).mono ?_); rintro e w2 ⟨t, rfl, hd2, ht2, rfl⟩)
      go_ret
      rw [F2.out] at hd2
      exact RetD.mk_ hd2 (Nat.le_refl _) (by unfold maxLen; omega) f3

theorem val_set {xs : List Nat} {j : Nat} (d : Nat) (h : j < xs.length) : val (xs.set j d) + BB ^ j * xs.getD j 0 = val xs + BB ^ j * d := by
  induction xs generalizing j with
  | nil => simp at h
  | cons x r ih =>
    cases j with
    | zero => simp [val]; omega
    | succ j =>
      have := ih (j := j) (by simpa using h)
      simp only [List.set_cons_succ, val, List.getD_cons_succ, Nat.pow_succ]
      have e1 : BB * (val (r.set j d) + BB ^ j * r.getD j 0) = BB * (val r + BB ^ j * d) := by rw [this]
      rw [Nat.mul_add, Nat.mul_add, ← Nat.mul_assoc, ← Nat.mul_assoc] at e1
      rw [Nat.mul_comm (BB ^ j) BB]
      omega

theorem getD_set {xs : List Nat} {j i d : Nat} (h : i ≠ j) : (xs.set j d).getD i 0 = xs.getD i 0 := by
  simp [List.getD, List.getElem?_set, Ne.symm h]
theorem dig_set {xs : List Nat} {j d : Nat} (h : Dig xs) (hd : d < BB) : Dig (xs.set j d) := by
  intro x hx
  rcases List.mem_or_eq_of_mem_set hx with h1 | h1
  · exact h x h1
  · rw [h1]; exact hd

/-- What holds when the first i rows are there and k digits of the next one. -/
def MulI (w wr : World) (g N i n' k cy x V0 : Nat) (db xs : List Nat) : Prop :=
  Row wr g xs ∧ xs.length = N ∧ Dig xs ∧ (∀ j, i + n' ≤ j → xs.getD j 0 = 0) ∧ val xs + BB ^ i * BB ^ k * cy = V0 + BB ^ i * x * val (db.take k) ∧ Only g w wr

theorem mul_arith (p q z t c x y A A' V0 B m : Nat) (hs : A' + p * q * z = A + p * q * (t % BB)) (ht : t = c + (m + z)) (hm : m = x * y) (h : A + p * q * c = V0 + p * x * B) :
    A' + p * (q * BB) * (t / BB) = V0 + p * x * (B + q * y) := by
  have e0 := Nat.mod_add_div t BB
  have e1 : p * q * t = p * q * (t % BB) + p * q * (BB * (t / BB)) := by rw [← Nat.mul_add, e0]
  have e2 : p * (q * BB) * (t / BB) = p * q * (BB * (t / BB)) := by simp only [Nat.mul_assoc]
  have e3 : p * q * t = p * q * c + p * q * m + p * q * z := by rw [ht, Nat.mul_add, Nat.mul_add]; omega
  have e4 : p * x * (B + q * y) = p * x * B + p * q * m := by
    rw [Nat.mul_add, hm]
    congr 1
    simp only [Nat.mul_assoc, Nat.mul_left_comm, Nat.mul_comm]
  rw [e2, e4]
  omega

theorem mul_step {w wr : World} {g N i n' k cy x y z m t V0 : Nat} {db xs : List Nat} (h : MulI w wr g N i n' k cy x V0 db xs) (hk : k < n') (hN : i + n' ≤ N) (hy : y = db.getD k 0) (hz : z = xs.getD (i + k) 0) (hm : m = x * y) (ht : t = cy + (m + z)) {v : Int} (hv : v = (t % 4294967296 : Nat)) :
    MulI w (wr.setCell ⟨g, i + k, none⟩ (.int .u32 v)) g N i n' (k + 1) (t / 4294967296) x V0 db (xs.set (i + k) (t % 4294967296)) := by
  obtain ⟨h1, h2, h3, h4, h5, h6⟩ := h
  subst hv
  refine ⟨h1.set _ _, by simpa using h2, dig_set h3 (by rw [BB_eq]; omega), fun j hj => by rw [getD_set (by omega)]; exact h4 j hj, ?_, h6.setCell _ _⟩
  have e := val_set (xs := xs) (j := i + k) (t % 4294967296) (by omega)
  rw [← hz, Nat.pow_add] at e
  rw [val_take_any, ← hy, Nat.pow_succ]
  have e3 : (4294967296 : Nat) = BB := rfl
  rw [e3] at e ⊢
  exact mul_arith _ _ _ _ _ _ _ _ _ _ _ _ e ht hm h5

/-- The row is full: its carry is stored. -/
theorem mul_rowEnd {w wr : World} {g N i n' cy x : Nat} {da db xs : List Nat} (h : MulI w wr g N i n' n' cy x (val (da.take i) * val db) db xs) (hb : db.length = n') (hx : x = da.getD i 0) (hN : i + n' < N) (hc : cy < 4294967296) {v : Int} (hv : v = (cy : Nat)) :
    Row (wr.setCell ⟨g, i + n', none⟩ (.int .u32 v)) g (xs.set (i + n') cy) ∧ (xs.set (i + n') cy).length = N ∧ Dig (xs.set (i + n') cy) ∧ (∀ j, i + 1 + n' ≤ j → (xs.set (i + n') cy).getD j 0 = 0) ∧ val (xs.set (i + n') cy) = val (da.take (i + 1)) * val db ∧ Only g w (wr.setCell ⟨g, i + n', none⟩ (.int .u32 v)) := by
  obtain ⟨h1, h2, h3, h4, h5, h6⟩ := h
  subst hv
  refine ⟨h1.set _ _, by simpa using h2, dig_set h3 (by rw [BB_eq]; exact hc), fun j hj => by rw [getD_set (by omega)]; exact h4 j (by omega), ?_, h6.setCell _ _⟩
  have e := val_set (xs := xs) (j := i + n') cy (by omega)
  rw [h4 (i + n') (Nat.le_refl _), Nat.mul_zero, Nat.add_zero, Nat.pow_add] at e
  have e2 : db.take n' = db := List.take_of_length_le (by omega)
  rw [e, h5, e2, val_take_any, ← hx, Nat.add_mul]

/-- At the head of the outer loop. -/
def MulO (w wr : World) (g N i n' : Nat) (da db xs : List Nat) : Prop :=
  Row wr g xs ∧ xs.length = N ∧ Dig xs ∧ (∀ j, i + n' ≤ j → xs.getD j 0 = 0) ∧ val xs = val (da.take i) * val db ∧ Only g w wr

theorem MulO.start {w wr : World} {g N i n' x : Nat} {da db xs : List Nat} (h : MulO w wr g N i n' da db xs) : MulI w wr g N i n' 0 0 x (val (da.take i) * val db) db xs := by
  obtain ⟨h1, h2, h3, h4, h5, h6⟩ := h
  exact ⟨h1, h2, h3, h4, by simp [val, h5], h6⟩

theorem mul_le (x y : Nat) (hx : x < 4294967296) (hy : y < 4294967296) : x * y ≤ 18446744065119617025 := by
  have : x * y ≤ 4294967295 * 4294967295 := Nat.mul_le_mul (by omega) (by omega)
  omega

set_option maxHeartbeats 2000000 in
set_option maxRecDepth 100000 in
theorem mulDigits_any (A A' : Option Addr) (n n' c c' : Nat) (da db : List Nat) (w : World) (h : Dgs w w.heap.size A n da) (h' : Dgs w w.heap.size A' n' db) (hs : n ≤ 1000000) (hs' : n' ≤ 1000000) :
    Calls Try.prog 66 #[.slice A n c, .slice A' n' c'] w (RetD w (val da * val db)) := by
  have hmk := run_make_row' (P := Try.prog) 22 69 (.int .u32 0) 4 Try.underlying22 u32_info rfl .i64 .i64 (n + n') (by omega) (by omega)
  have ec : ((n + n' : Nat) : Int) = (n : Int) + (n' : Int) := by omega
  rw [ec] at hmk
  clear ec
  have HL := Lib.hid h.len
  have HL' := Lib.hid h'.len
  have H0 : MulO (w.alloc (.cells (madeCells #[.int .u32 0] (n + n')) 69)) (w.alloc (.cells (madeCells #[.int .u32 0] (n + n')) 69)) w.heap.size (n + n') 0 n' da db (List.replicate (n + n') 0) :=
    ⟨Row.made w _, by simp, dig_zeros _, fun j _ => by simp [List.getD, List.getElem?_replicate]; split <;> rfl, by rw [val_zeros]; simp [val], Only.refl _ _⟩
  have hB0 := bnew w (.cells (madeCells #[.int .u32 0] (n + n')) 69)
  go_enter Try.func66, Try.ntmps66
  go_wp2
  clear hmk
  generalize (w.alloc (.cells (madeCells #[.int .u32 0] (n + n')) 69)) = W0 at H0 hB0 ⊢
  go_loopw [20] (fun i wr => ∃ (k : Nat) (xs : List Nat), k ≤ n ∧ i = .int .i64 k ∧ MulO W0 wr w.heap.size (n + n') k n' da db xs) (fun i _ => n - (intOf i).toNat)
  case atStart => exact ⟨0, _, Nat.zero_le _, rfl, H0⟩
  case round =>
    clear H0
    obtain ⟨i, xs, hi, rfl, HO⟩ := hrel
    have hO := HO.2.2.2.2.2
    have hda := (h.below hB0).below (hO.below (Nat.le_refl _))
    by_cases hin : i < n
    · obtain ⟨b, off, hA, _, hcell⟩ := hda.at_ (by omega)
      subst hA
      have hx := hcell i hin
      have hxl := h.dig.getD i
      rw [BB_eq] at hxl
      obtain ⟨x, HX⟩ : ∃ x, Hid (x = da.getD i 0) := ⟨_, rfl⟩
      rw [← HX.out] at hx hxl
      have i0 : (0 : Int) ≤ (i : Int) := by omega
      have i1 : (i : Int) < (n : Int) := by omega
      clear hcell hda
      have HI := HO.start (x := x)
      clear HO hO
      go_wp2
      rw [show i + n' + 1 - i = n' + 1 by omega]
      go_loopw [8, 35] (fun cv kv wi => ∃ (k cy : Nat) (ys : List Nat), k ≤ n' ∧ cy < 4294967296 ∧ kv = .int .i64 k ∧ cv = .int .u64 cy ∧ MulI W0 wi w.heap.size (n + n') i n' k cy x (val (da.take i) * val db) db ys) (fun _ kv _ => n' - (intOf kv).toNat)
      case atStart => exact ⟨0, 0, xs, Nat.zero_le _, by omega, rfl, rfl, HI⟩
      case round =>
        clear HI hx
        obtain ⟨k, cy, ys, hk, hcy, rfl, rfl, HJ⟩ := hrel
        have hO := HJ.2.2.2.2.2
        by_cases hkn : k < n'
        · have hdb := (h'.below hB0).below (hO.below (Nat.le_refl _))
          obtain ⟨b', off', hA, _, hcell⟩ := hdb.at_ (by omega)
          subst hA
          have hy := hcell k hkn
          have hyl := h'.dig.getD k
          rw [BB_eq] at hyl
          obtain ⟨y, HY⟩ : ∃ y, Hid (y = db.getD k 0) := ⟨_, rfl⟩
          rw [← HY.out] at hy hyl
          have hz := HJ.1.cell (j := i + k) (by have := HJ.2.1; omega)
          have hzl := HJ.2.2.1.getD (i + k)
          rw [BB_eq] at hzl
          obtain ⟨z, HZ⟩ : ∃ z, Hid (z = ys.getD (i + k) 0) := ⟨_, rfl⟩
          rw [← HZ.out] at hz hzl
          have hfr := HJ.1.frozen (i + k)
          have hml := mul_le x y hxl hyl
          obtain ⟨m, HM⟩ : ∃ m, Hid (m = x * y) := ⟨_, rfl⟩
          rw [← HM.out] at hml
          have hmm : (x : Int) * (y : Int) = (m : Int) := by rw [HM.out]; exact (Int.natCast_mul x y).symm
          have k0 : (0 : Int) ≤ (k : Int) := by omega
          have k1 : (k : Int) < (n' : Int) := by omega
          have k2 : (k : Int) < (n' : Int) + 1 := by omega
          clear hcell hdb hO
          go_wp2
          go_roundw
          case rel => exact ⟨k + 1, (cy + (m + z)) / 4294967296, _, by omega, by omega, by go_num, by go_num, mul_step HJ hkn (by omega) HY.out HZ.out HM.out rfl (by omega)⟩
          case measure => simp [intOf]; omega
        · obtain rfl : k = n' := by omega
          have hst := HJ.1.cell (j := i + k) (by have := HJ.2.1; omega)
          have hfr := HJ.1.frozen (i + k)
          have k2 : (k : Int) < (k : Int) + 1 := by omega
          clear hO
          go_wp2
          go_roundw
          case rel => exact ⟨i + 1, _, by omega, by go_num, mul_rowEnd HJ HL'.out HX.out (by omega) hcy rfl⟩
          case measure => simp [intOf]; omega
    · obtain rfl : i = n := by omega
      have h1 := HO.1
      have HV : Hid (val xs = val da * val db) := by unfold Hid; rw [HO.2.2.2.2.1, List.take_of_length_le (by have := HL.out; omega)]
      have hd := h1.dgs HO.2.2.1
      rw [HO.2.1] at hd
      clear hda
      go_wp2_with (go_at_call 69; (with_reducible refine (trim_ret _ _ _ _ _ _ hd (Nat.le_refl _) (by unfold maxLen; omega)).mono ?_); rintro e w2 ⟨t, rfl, hd2, ht2, rfl⟩)
      go_ret
      rw [HV.out] at hd2
      exact RetD.mk_ hd2 (Nat.le_refl _) (by unfold maxLen; omega) (hB0.trans (hO.below (Nat.le_refl _)))
end Go.Proofs.Ytgjkgmlcfieodaa

