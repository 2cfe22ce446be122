/-
  The reference's order of digits.
  The reference's sums, differences, products and order of digits.
  The reference's products of digits.
-/
import Derived.Test.YtgjkgmlcfieodaaCmpC
import Derived.Deep.RegionWith
import Derived.Test.YtgjkgmlcfieodaaDig
set_option linter.unusedVariables false
set_option linter.unusedSimpArgs false
namespace Go.Proofs.Ytgjkgmlcfieodaa
open Go.RowKit

theorem trimLen_val {ds : List Nat} (hd : Dig ds) : trimLen ds = (digs (val ds)).length := by
  rw [← take_trimLen hd, List.length_take, Nat.min_eq_left (trimLen_le ds)]
theorem Dgs.trimmed {w : World} {B n N : Nat} {A : Option Addr} {ds : List Nat} (h : Dgs w B A n ds) (hN : Hid (N = (digs (val ds)).length)) : Dgs w B A N (digs (val ds)) := by
  rw [hN.out, ← trimLen_val h.dig, ← take_trimLen h.dig]
  exact h.take (by rw [← h.len]; exact trimLen_le ds)
theorem rtrim_fix (A : Option Addr) (n c B N : Nat) (ds : List Nat) (w : World) (h : Dgs w B A n ds) (hc : n ≤ c) (hm : c ≤ maxLen) (hN : Hid (N = (digs (val ds)).length)) :
    Calls Try.prog 79 #[.slice A n c] w fun e w' => e = .returned (.slice A N c) ∧ w = w' :=
  (rtrim_any A n c B ds w h hc hm).mono fun _ _ ⟨he, hw⟩ => ⟨by rw [he, hN.out, trimLen_val h.dig], hw⟩
theorem trim_len_le {w : World} {B n N : Nat} {A : Option Addr} {ds : List Nat} (h : Dgs w B A n ds) (hN : Hid (N = (digs (val ds)).length)) : N ≤ n := by
  rw [hN.out, ← trimLen_val h.dig, ← h.len]; exact trimLen_le ds

set_option maxHeartbeats 1000000 in
set_option maxRecDepth 100000 in
theorem rcompareDigits_any (A A' : Option Addr) (n n' c c' B B' : Nat) (da db : List Nat) (w : World) (h : Dgs w B A n da) (h' : Dgs w B' A' n' db) (hc : n ≤ c) (hm : c ≤ maxLen) (hc' : n' ≤ c') (hm' : c' ≤ maxLen) :
    Calls Try.prog 83 #[.slice A n c, .slice A' n' c'] w (RetC w (cmpI (val da) (val db))) := by
  obtain ⟨N, HN⟩ : ∃ N, Hid (N = (digs (val da)).length) := ⟨_, rfl⟩
  obtain ⟨N', HN'⟩ : ∃ N', Hid (N' = (digs (val db)).length) := ⟨_, rfl⟩
  have hd := h.trimmed HN
  have hd' := h'.trimmed HN'
  have hNc := Nat.le_trans (trim_len_le h HN) hc
  have hNc' := Nat.le_trans (trim_len_le h' HN') hc'
  have K := fun w1 (e : w = w1) => rtrim_fix A n c B N da w1 (e ▸ h) hc hm HN
  have K' := fun w1 (e : w = w1) => rtrim_fix A' n' c' B' N' db w1 (e ▸ h') hc' hm' HN'
  unfold maxLen at hm hm'
  generalize val da = x at *
  generalize val db = y at *
  clear h h'
  have HL := Lib.hid hd.len
  have HL' := Lib.hid hd'.len
  by_cases hn : N = N'
  · subst hn
    go_enter Try.func83, Try.ntmps83
    go_wp2_with (first
      | (go_at_call_of 79 (Value.slice A n c); (with_reducible refine (K _ rfl).mono ?_); rintro e w1 ⟨rfl, rfl⟩)
      | (go_at_call_of 79 (Value.slice A' n' c'); (with_reducible refine (K' _ rfl).mono ?_); rintro e w1 ⟨rfl, rfl⟩))
    clear K K'
    go_loopw [5] (fun i wr => ∃ k m : Nat, k ≤ N ∧ i = .int .i64 ((k : Int) - 1) ∧ (digs x).drop k = (digs y).drop k ∧ wr = w.drewN m) (fun i _ => (intOf i + 1).toNat)
    case atStart => exact ⟨N, 0, Nat.le_refl _, rfl, by rw [List.drop_of_length_le (by rw [HL.out]; omega), List.drop_of_length_le (by rw [HL'.out]; omega)], rfl⟩
    case round =>
      obtain ⟨k, m, hk, rfl, hdr, rfl⟩ := hrel
      have HD := Lib.hid hdr
      clear hdr
      by_cases hk0 : k = 0
      · subst hk0
        have HE := Lib.hid (show cmpI x y = 0 from cmpI_eq (by have := HD.out; simp only [List.drop_zero] at this; rw [digs_inj this]))
        go_wp2
        go_ret
        exact ⟨by rw [HE.out]; rfl, _, rfl⟩
      · obtain ⟨j, rfl⟩ : ∃ j, k = j + 1 := ⟨k - 1, by omega⟩
        have ej : (((j + 1 : Nat) : Int) - 1) = (j : Int) := by omega
        rw [ej]
        clear ej
        obtain ⟨b, off, hA, _, hcell⟩ := hd.at_ (by omega)
        subst hA
        obtain ⟨b', off', hA, _, hcell'⟩ := hd'.at_ (by omega)
        subst hA
        have hx := hcell j (by omega)
        have hy := hcell' j (by omega)
        obtain ⟨a, HX⟩ : ∃ a, Hid (a = (digs x).getD j 0) := ⟨_, rfl⟩
        obtain ⟨d, HY⟩ : ∃ d, Hid (d = (digs y).getD j 0) := ⟨_, rfl⟩
        rw [← HX.out] at hx
        rw [← HY.out] at hy
        have i0 : (0 : Int) ≤ (j : Int) := by omega
        have i1 : (j : Int) < (N : Int) := by omega
        clear hcell hcell'
        by_cases h1 : (a : Int) < (d : Int)
        · have HC := Lib.hid (show cmpI x y = -1 from cmpI_lt (by
            have := val_lt_of_digit (dig_digs x) j (by rw [HL.out]; omega) (by rw [HL'.out]; omega) HD.out (by rw [← HX.out, ← HY.out]; omega)
            rw [val_digs, val_digs] at this; omega))
          go_wp2
          go_quiet (fail)
          go_wp2
          go_ret
          exact ⟨by rw [HC.out]; rfl, _, by rw [World.drewN_drewN]⟩
        · have c1 : decide ((a : Int) < (d : Int)) = false := decide_eq_false h1
          by_cases h2 : (d : Int) < (a : Int)
          · have HC := Lib.hid (show cmpI x y = 1 from cmpI_gt (by
              have := val_lt_of_digit (dig_digs y) j (by rw [HL'.out]; omega) (by rw [HL.out]; omega) HD.out.symm (by rw [← HX.out, ← HY.out]; omega)
              rw [val_digs, val_digs] at this; omega))
            go_wp2
            go_quiet (fail)
            go_wp2
            go_quiet (fail)
            go_wp2
            go_ret
            exact ⟨by rw [HC.out]; rfl, _, by rw [World.drewN_drewN, World.drewN_drewN]⟩
          · have c2 : decide ((d : Int) < (a : Int)) = false := decide_eq_false h2
            have had : a = d := by omega
            go_wp2
            go_quiet (fail)
            go_wp2
            go_quiet (fail)
            go_wp2
            go_roundw
            case rel => exact ⟨j, _, by omega, rfl, drop_eq_cons (by rw [HL.out]; omega) (by rw [HL'.out]; omega) HD.out (by rw [← HX.out, ← HY.out, had]), rfl⟩
            case measure => simp [intOf]
  · have HLT : Hid (N < N' → cmpI x y = -1) := fun hlt => cmpI_lt (by have := @digs_len_lt x y (by rw [← HN.out, ← HN'.out]; exact hlt); omega)
    have HGT : Hid (N' < N → cmpI x y = 1) := fun hlt => cmpI_gt (by have := @digs_len_lt y x (by rw [← HN.out, ← HN'.out]; exact hlt); omega)
    by_cases hlt : N < N'
    · go_enter Try.func83, Try.ntmps83
      go_wp2_with (first
        | (go_at_call_of 79 (Value.slice A n c); (with_reducible refine (K _ rfl).mono ?_); rintro e w1 ⟨rfl, rfl⟩)
        | (go_at_call_of 79 (Value.slice A' n' c'); (with_reducible refine (K' _ rfl).mono ?_); rintro e w1 ⟨rfl, rfl⟩))
      go_ret
      exact ⟨by rw [HLT.out hlt]; rfl, 0, rfl⟩
    · go_enter Try.func83, Try.ntmps83
      go_wp2_with (first
        | (go_at_call_of 79 (Value.slice A n c); (with_reducible refine (K _ rfl).mono ?_); rintro e w1 ⟨rfl, rfl⟩)
        | (go_at_call_of 79 (Value.slice A' n' c'); (with_reducible refine (K' _ rfl).mono ?_); rintro e w1 ⟨rfl, rfl⟩))
      go_ret
      exact ⟨by rw [HGT.out (by omega)]; rfl, 0, rfl⟩

theorem rtrim_row {w : World} {B n c : Nat} {A : Option Addr} {ds : List Nat} (h : Dgs w B A n ds) (hc : n ≤ c) (hm : c ≤ maxLen) :
    Calls Try.prog 79 #[.slice A n c] w (RetR w B A (val ds) n c) := rtrim_ret A n c B ds w h hc hm

theorem add_stepN {w wr : World} {N k c x y : Nat} {xa xb xs : List Nat} (h : AddI w wr N k c (val (xa.take k)) (val (xb.take k)) xs) (hk : k < N) (hx : x = xa.getD k 0) (hy : y = xb.getD k 0) {v : Int} (hv : v = ((c + x + y) % 4294967296 : Nat)) :
    AddI w (wr.setCell ⟨w.heap.size, k, none⟩ (.int .u32 v)) N (k + 1) ((c + x + y) / 4294967296) (val (xa.take (k + 1))) (val (xb.take (k + 1))) (xs ++ [(c + x + y) % 4294967296]) := by
  obtain ⟨h1, h2, h3, h4, h5⟩ := h
  subst hv hx hy
  refine ⟨?_, by simp [h2], h3.append (Dig.cons (by rw [BB_eq]; omega) Dig.nil), ?_, h5.setCell (Nat.le_refl _) _⟩
  · have e : N - k = (N - (k + 1)) + 1 := by omega
    rw [e] at h1
    have := h1.set k ((c + xa.getD k 0 + xb.getD k 0) % 4294967296)
    rwa [← h2, set_zeros, h2] at this
  · rw [val_snoc, h2, val_take_any, val_take_any, Nat.pow_succ]
    exact add_arith _ _ _ _ _ _ _ h4

theorem add_lastN {w wr : World} {N c : Nat} {da db xs : List Nat} (h : AddI w wr N N c (val (da.take N)) (val (db.take N)) xs) (hda : Dig da) (hdb : Dig db) (h1 : da.length < N) (h2 : db.length < N) :
    Dgs wr wr.heap.size (some ⟨w.heap.size, 0, none⟩) N xs ∧ val xs = val da + val db ∧ Below w.heap.size w wr := by
  obtain ⟨r1, r2, r3, r4, r5⟩ := h
  rw [List.take_of_length_le (by omega), List.take_of_length_le (by omega)] at r4
  have ha := val_lt hda
  have hb := val_lt hdb
  have ha' : BB ^ da.length ≤ BB ^ (N - 1) := Nat.pow_le_pow_right BB_pos (by omega)
  have hb' : BB ^ db.length ≤ BB ^ (N - 1) := Nat.pow_le_pow_right BB_pos (by omega)
  have hN : BB ^ N = BB ^ (N - 1) * 4294967296 := by
    have : N = (N - 1) + 1 := by omega
    rw [this, Nat.pow_succ, BB_eq]; simp
  have hc : c = 0 := by
    rcases Nat.eq_zero_or_pos c with h0 | h0
    · exact h0
    · have : BB ^ N * 1 ≤ BB ^ N * c := Nat.mul_le_mul_left _ h0
      omega
  subst hc
  refine ⟨?_, by omega, r5⟩
  have := r1.dgs (by simpa using r3)
  simpa [r2] using this

theorem rsub_digit (x y bo : Nat) (hx : x < 4294967296) (hy : y < 4294967296) (hb : bo ≤ 1) :
    ∃ d bo' : Nat, bo' ≤ 1 ∧ d + y + bo = x + 4294967296 * bo' ∧ d < 4294967296 ∧ ((x : Int) + 4294967296 - y - bo) % 4294967296 = d ∧ 1 - ((x : Int) + 4294967296 - y - bo) / 4294967296 = (bo' : Int) := by
  by_cases h : x < y + bo
  · exact ⟨x + 4294967296 - y - bo, 1, by omega, by omega, by omega, by omega, by omega⟩
  · exact ⟨x - y - bo, 0, by omega, by omega, by omega, by omega, by omega⟩

set_option maxHeartbeats 1000000 in
set_option maxRecDepth 100000 in
theorem raddDigits_any (A A' : Option Addr) (n n' c c' : Nat) (da db : List Nat) (w : World) (h : Dgs w w.heap.size A n da) (h' : Dgs w w.heap.size A' n' db) (hc : n ≤ c) (hm : c ≤ maxLen) (hc' : n' ≤ c') (hm' : c' ≤ maxLen) (hs : n ≤ 1000000) (hs' : n' ≤ 1000000) :
    Calls Try.prog 97 #[.slice A n c, .slice A' n' c'] w (RetD w (val da + val db)) := by
  have HL := Lib.hid h.len
  have HL' := Lib.hid h'.len
  by_cases hlt : n < n'
  · have hle : (n : Int) < (n' : Int) := by omega
    have hN1 : n' + 1 ≤ 1000001 := by omega
    have hmk := run_make_row' (P := Try.prog) 22 69 (.int .u32 0) 4 Try.underlying22 u32_info rfl .i64 .i64 (n' + 1) (by omega) (by omega)
    have ec : ((n' + 1 : Nat) : Int) = (n' : Int) + 1 := by omega
    rw [ec] at hmk
    clear ec
    have H0 : AddI w (w.alloc (.cells (madeCells #[.int .u32 0] (n' + 1)) 69)) (n' + 1) 0 0 (val (da.take 0)) (val (db.take 0)) [] := ⟨by simpa using Row.made w (n' + 1), rfl, Dig.nil, rfl, bnew _ _⟩
    have HNn : Hid (n < n' + 1) := by unfold Hid; omega
    have HNn' : Hid (n' < n' + 1) := by unfold Hid; omega
    go_enter Try.func97, Try.ntmps97
    go_wp2
    clear hmk
    go_loopw [7, 8] (fun cv i wr => ∃ (k cy : Nat) (xs : List Nat), k ≤ n' + 1 ∧ cy ≤ 1 ∧ i = .int .i64 k ∧ cv = .int .u64 cy ∧ AddI w wr (n' + 1) k cy (val (da.take k)) (val (db.take k)) xs) (fun _ i _ => n' + 1 - (intOf i).toNat)
    case atStart => exact ⟨0, 0, [], Nat.zero_le _, Nat.zero_le _, rfl, rfl, H0⟩
    case round =>
      clear H0
      obtain ⟨k, cy, xs, hk, hcy, rfl, rfl, HI⟩ := hrel
      have h1 := HI.1
      have hB := HI.2.2.2.2
      have hda := h.below hB
      have hdb := h'.below hB
      by_cases hkn : k < n' + 1
      · have hlen : (xs ++ List.replicate (n' + 1 - k) 0).length = n' + 1 := by simp [HI.2.1]; omega
        have hstore := h1.cell (j := k) (by rw [hlen]; omega)
        have hfr := h1.frozen k
        have hxl := h.dig.getD k
        have hyl := h'.dig.getD k
        rw [BB_eq] at hxl hyl
        obtain ⟨x, HX⟩ : ∃ x, Hid (x = da.getD k 0) := ⟨_, rfl⟩
        obtain ⟨y, HY⟩ : ∃ y, Hid (y = db.getD k 0) := ⟨_, rfl⟩
        rw [← HX.out] at hxl
        rw [← HY.out] at hyl
        have i0 : (0 : Int) ≤ (k : Int) := by omega
        have i1 : (k : Int) < (n' : Int) + 1 := by omega
        clear h1 hlen
        go_wp2_with (first
          | (go_at_call_of 106 (Value.slice A n c); (with_reducible refine (digit_any A n c _ da k _ hda hc hm (by unfold maxLen; omega)).mono ?_); rw [← HX.out]; rintro e w' ⟨rfl, rfl⟩)
          | (go_at_call_of 106 (Value.slice A' n' c'); (with_reducible refine (digit_any A' n' c' _ db k _ hdb hc' hm' (by unfold maxLen; omega)).mono ?_); rw [← HY.out]; rintro e w' ⟨rfl, rfl⟩)
          | fail)
        go_roundw
        case rel => exact ⟨k + 1, (cy + x + y) / 4294967296, _, by omega, by omega, by go_num, by go_num, add_stepN HI hkn HX.out HY.out (by omega)⟩
        case measure => simp [intOf]; omega
      · obtain rfl : k = n' + 1 := by omega
        have hkk : ¬ ((n' : Int) + 1 < (n' : Int) + 1) := by omega
        obtain ⟨f1, f2, f3⟩ := add_lastN HI h.dig h'.dig (by rw [HL.out]; exact HNn.out) (by rw [HL'.out]; exact HNn'.out)
        have F2 := Lib.hid f2
        clear f2 hda hdb
        go_wp2_with (go_at_call 79; (with_reducible refine (rtrim_ret _ _ _ _ _ _ f1 (Nat.le_refl _) (by unfold maxLen; omega)).mono ?_); rintro e w2 ⟨t, rfl, hd2, ht2, rfl⟩)
        go_ret
        rw [F2.out] at hd2
        exact RetD.mk_ hd2 ht2 (by unfold maxLen; omega) f3
  · have hle : ¬ ((n : Int) < (n' : Int)) := by omega
    have hN1 : n + 1 ≤ 1000001 := by omega
    have hmk := run_make_row' (P := Try.prog) 22 69 (.int .u32 0) 4 Try.underlying22 u32_info rfl .i64 .i64 (n + 1) (by omega) (by omega)
    have ec : ((n + 1 : Nat) : Int) = (n : Int) + 1 := by omega
    rw [ec] at hmk
    clear ec
    have H0 : AddI w (w.alloc (.cells (madeCells #[.int .u32 0] (n + 1)) 69)) (n + 1) 0 0 (val (da.take 0)) (val (db.take 0)) [] := ⟨by simpa using Row.made w (n + 1), rfl, Dig.nil, rfl, bnew _ _⟩
    have HNn : Hid (n < n + 1) := by unfold Hid; omega
    have HNn' : Hid (n' < n + 1) := by unfold Hid; omega
    go_enter Try.func97, Try.ntmps97
    go_wp2
    clear hmk
    go_loopw [7, 8] (fun cv i wr => ∃ (k cy : Nat) (xs : List Nat), k ≤ n + 1 ∧ cy ≤ 1 ∧ i = .int .i64 k ∧ cv = .int .u64 cy ∧ AddI w wr (n + 1) k cy (val (da.take k)) (val (db.take k)) xs) (fun _ i _ => n + 1 - (intOf i).toNat)
    case atStart => exact ⟨0, 0, [], Nat.zero_le _, Nat.zero_le _, rfl, rfl, H0⟩
    case round =>
      clear H0
      obtain ⟨k, cy, xs, hk, hcy, rfl, rfl, HI⟩ := hrel
      have h1 := HI.1
      have hB := HI.2.2.2.2
      have hda := h.below hB
      have hdb := h'.below hB
      by_cases hkn : k < n + 1
      · have hlen : (xs ++ List.replicate (n + 1 - k) 0).length = n + 1 := by simp [HI.2.1]; omega
        have hstore := h1.cell (j := k) (by rw [hlen]; omega)
        have hfr := h1.frozen k
        have hxl := h.dig.getD k
        have hyl := h'.dig.getD k
        rw [BB_eq] at hxl hyl
        obtain ⟨x, HX⟩ : ∃ x, Hid (x = da.getD k 0) := ⟨_, rfl⟩
        obtain ⟨y, HY⟩ : ∃ y, Hid (y = db.getD k 0) := ⟨_, rfl⟩
        rw [← HX.out] at hxl
        rw [← HY.out] at hyl
        have i0 : (0 : Int) ≤ (k : Int) := by omega
        have i1 : (k : Int) < (n : Int) + 1 := by omega
        clear h1 hlen
        go_wp2_with (first
          | (go_at_call_of 106 (Value.slice A n c); (with_reducible refine (digit_any A n c _ da k _ hda hc hm (by unfold maxLen; omega)).mono ?_); rw [← HX.out]; rintro e w' ⟨rfl, rfl⟩)
          | (go_at_call_of 106 (Value.slice A' n' c'); (with_reducible refine (digit_any A' n' c' _ db k _ hdb hc' hm' (by unfold maxLen; omega)).mono ?_); rw [← HY.out]; rintro e w' ⟨rfl, rfl⟩)
          | fail)
        go_roundw
        case rel => exact ⟨k + 1, (cy + x + y) / 4294967296, _, by omega, by omega, by go_num, by go_num, add_stepN HI hkn HX.out HY.out (by omega)⟩
        case measure => simp [intOf]; omega
      · obtain rfl : k = n + 1 := by omega
        have hkk : ¬ ((n : Int) + 1 < (n : Int) + 1) := by omega
        obtain ⟨f1, f2, f3⟩ := add_lastN HI h.dig h'.dig (by rw [HL.out]; exact HNn.out) (by rw [HL'.out]; exact HNn'.out)
        have F2 := Lib.hid f2
        clear f2 hda hdb
        go_wp2_with (go_at_call 79; (with_reducible refine (rtrim_ret _ _ _ _ _ _ f1 (Nat.le_refl _) (by unfold maxLen; omega)).mono ?_); rintro e w2 ⟨t, rfl, hd2, ht2, rfl⟩)
        go_ret
        rw [F2.out] at hd2
        exact RetD.mk_ hd2 ht2 (by unfold maxLen; omega) f3

set_option maxHeartbeats 1000000 in
set_option maxRecDepth 100000 in
theorem rsubDigits_any (A A' : Option Addr) (n n' c c' : Nat) (da db : List Nat) (w : World) (h : Dgs w w.heap.size A n da) (h' : Dgs w w.heap.size A' n' db) (hc : n ≤ c) (hm : c ≤ maxLen) (hc' : n' ≤ c') (hm' : c' ≤ maxLen) (hs : n ≤ 1000000) (hle : val db ≤ val da) :
    Calls Try.prog 95 #[.slice A n c, .slice A' n' c'] w (RetD w (val da - val db)) := by
  have hmk := run_make_row' (P := Try.prog) 22 69 (.int .u32 0) 4 Try.underlying22 u32_info rfl .i64 .i64 n (by omega) (by omega)
  have H0 : SubI w (w.alloc (.cells (madeCells #[.int .u32 0] n) 69)) n 0 0 (val (da.take 0)) (val (db.take 0)) [] := ⟨by simpa using Row.made w n, rfl, Dig.nil, rfl, bnew _ _⟩
  have HL := Lib.hid h.len
  have HLE := Lib.hid hle
  clear hle
  go_enter Try.func95, Try.ntmps95
  go_wp2
  clear hmk
  go_loopw [6, 7] (fun cv i wr => ∃ (k bo : Nat) (xs : List Nat), k ≤ n ∧ bo ≤ 1 ∧ i = .int .i64 k ∧ cv = .int .u64 bo ∧ SubI w wr n k bo (val (da.take k)) (val (db.take k)) xs) (fun _ i _ => n - (intOf i).toNat)
  case atStart => exact ⟨0, 0, [], Nat.zero_le _, Nat.zero_le _, rfl, rfl, H0⟩
  case round =>
    clear H0
    obtain ⟨k, bo, xs, hk, hbo, rfl, rfl, HI⟩ := hrel
    have h1 := HI.1
    have hB := HI.2.2.2.2
    have hda := h.below hB
    have hdb := h'.below hB
    by_cases hkn : k < n
    · have hlen : (xs ++ List.replicate (n - k) 0).length = n := by simp [HI.2.1]; omega
      have hstore := h1.cell (j := k) (by rw [hlen]; omega)
      have hfr := h1.frozen k
      have hxl := h.dig.getD k
      have hyl := h'.dig.getD k
      rw [BB_eq] at hxl hyl
      obtain ⟨x, HX⟩ : ∃ x, Hid (x = da.getD k 0) := ⟨_, rfl⟩
      obtain ⟨y, HY⟩ : ∃ y, Hid (y = db.getD k 0) := ⟨_, rfl⟩
      rw [← HX.out] at hxl
      rw [← HY.out] at hyl
      have i0 : (0 : Int) ≤ (k : Int) := by omega
      have i1 : (k : Int) < (n : Int) := by omega
      clear h1 hlen
      go_wp2_with (first
        | (go_at_call_of 106 (Value.slice A n c); (with_reducible refine (digit_any A n c _ da k _ hda hc hm (by unfold maxLen; omega)).mono ?_); rw [← HX.out]; rintro e w' ⟨rfl, rfl⟩)
        | (go_at_call_of 106 (Value.slice A' n' c'); (with_reducible refine (digit_any A' n' c' _ db k _ hdb hc' hm' (by unfold maxLen; omega)).mono ?_); rw [← HY.out]; rintro e w' ⟨rfl, rfl⟩)
        | fail)
      obtain ⟨d, bo', e1, e2, e3, e4, e5⟩ := rsub_digit x y bo hxl hyl hbo
      go_roundw
      case rel => exact ⟨k + 1, bo', _, by omega, e1, by go_num, int_val e5, sub_step HI hkn HX.out HY.out e2 e3 e4⟩
      case measure => simp [intOf]; omega
    · obtain rfl : k = n := by omega
      obtain ⟨f1, f2, f3⟩ := sub_last HI HL.out h.dig HLE.out
      have F2 := Lib.hid f2
      clear f2 hda hdb
      go_wp2_with (go_at_call 79; (with_reducible refine (rtrim_ret _ _ _ _ _ _ f1 (Nat.le_refl _) (by unfold maxLen; omega)).mono ?_); rintro e w2 ⟨t, rfl, hd2, ht2, rfl⟩)
      go_ret
      rw [F2.out] at hd2
      exact RetD.mk_ hd2 ht2 (by unfold maxLen; omega) f3

theorem MulI.drewN {w wr : World} {g N i n' k cy x V0 : Nat} {db xs : List Nat} (h : MulI w wr g N i n' k cy x V0 db xs) (q : Nat) : MulI w (wr.drewN q) g N i n' k cy x V0 db xs := by
  obtain ⟨h1, h2, h3, h4, h5, h6⟩ := h
  exact ⟨h1, h2, h3, h4, h5, h6.drewN q⟩

set_option maxHeartbeats 2000000 in
set_option maxRecDepth 100000 in
theorem rmulDigits_any (A A' : Option Addr) (n n' c c' : Nat) (da db : List Nat) (w : World) (h : Dgs w w.heap.size A n da) (h' : Dgs w w.heap.size A' n' db) (hc : n ≤ c) (hm : c ≤ maxLen) (hc' : n' ≤ c') (hm' : c' ≤ maxLen) (hs : n ≤ 1000000) (hs' : n' ≤ 1000000) :
    Calls Try.prog 84 #[.slice A n c, .slice A' n' c'] w (RetD w (val da * val db)) := by
  have hmk := run_make_row' (P := Try.prog) 22 69 (.int .u32 0) 4 Try.underlying22 u32_info rfl .i64 .i64 (n + n') (by omega) (by omega)
  have ec : ((n + n' : Nat) : Int) = (n : Int) + (n' : Int) := by omega
  rw [ec] at hmk
  clear ec
  have HL := Lib.hid h.len
  have HL' := Lib.hid h'.len
  have H0 : MulO (w.alloc (.cells (madeCells #[.int .u32 0] (n + n')) 69)) (w.alloc (.cells (madeCells #[.int .u32 0] (n + n')) 69)) w.heap.size (n + n') 0 n' da db (List.replicate (n + n') 0) :=
    ⟨Row.made w _, by simp, dig_zeros _, fun j _ => by simp [List.getD, List.getElem?_replicate]; split <;> rfl, by rw [val_zeros]; simp [val], Only.refl _ _⟩
  have hB0 := bnew w (.cells (madeCells #[.int .u32 0] (n + n')) 69)
  go_enter Try.func84, Try.ntmps84
  go_wp2
  clear hmk
  generalize (w.alloc (.cells (madeCells #[.int .u32 0] (n + n')) 69)) = W0 at H0 hB0 ⊢
  go_loopw [6] (fun i wr => ∃ (k : Nat) (xs : List Nat), k ≤ n ∧ i = .int .i64 k ∧ MulO W0 wr w.heap.size (n + n') k n' da db xs) (fun i _ => n - (intOf i).toNat)
  case atStart => exact ⟨0, _, Nat.zero_le _, rfl, H0⟩
  case round =>
    clear H0
    obtain ⟨i, xs, hi, rfl, HO⟩ := hrel
    have hO := HO.2.2.2.2.2
    have hda := (h.below hB0).below (hO.below (Nat.le_refl _))
    by_cases hin : i < n
    · obtain ⟨x, HX⟩ : ∃ x, Hid (x = da.getD i 0) := ⟨_, rfl⟩
      have hxl := h.dig.getD i
      rw [BB_eq, ← HX.out] at hxl
      have i0 : (0 : Int) ≤ (i : Int) := by omega
      have i1 : (i : Int) < (n : Int) := by omega
      clear hda
      have HI := HO.start (x := x)
      clear HO hO
      go_wp2
      go_loopw [7, 8] (fun cv kv wi => ∃ (k cy : Nat) (ys : List Nat), k ≤ n' ∧ cy < 4294967296 ∧ kv = .int .i64 k ∧ cv = .int .u64 cy ∧ MulI W0 wi w.heap.size (n + n') i n' k cy x (val (da.take i) * val db) db ys) (fun _ kv _ => n' - (intOf kv).toNat)
      case atStart => exact ⟨0, 0, xs, Nat.zero_le _, by omega, rfl, rfl, HI⟩
      case round =>
        clear HI
        obtain ⟨k, cy, ys, hk, hcy, rfl, rfl, HJ⟩ := hrel
        have hO := HJ.2.2.2.2.2
        by_cases hkn : k < n'
        · have hdb := (h'.below hB0).below (hO.below (Nat.le_refl _))
          obtain ⟨b', off', hA, _, hcell⟩ := hdb.at_ (by omega)
          subst hA
          have hda := (h.below hB0).below (hO.below (Nat.le_refl _))
          obtain ⟨b, off, hA, _, hcellA⟩ := hda.at_ (by omega)
          subst hA
          have hx := hcellA i hin
          rw [← HX.out] at hx
          have hy := hcell k hkn
          have hyl := h'.dig.getD k
          rw [BB_eq] at hyl
          obtain ⟨y, HY⟩ : ∃ y, Hid (y = db.getD k 0) := ⟨_, rfl⟩
          rw [← HY.out] at hy hyl
          have hz := HJ.1.cell (j := i + k) (by have := HJ.2.1; omega)
          have hzl := HJ.2.2.1.getD (i + k)
          rw [BB_eq] at hzl
          obtain ⟨z, HZ⟩ : ∃ z, Hid (z = ys.getD (i + k) 0) := ⟨_, rfl⟩
          rw [← HZ.out] at hz hzl
          have hfr := HJ.1.frozen (i + k)
          have hml := mul_le x y hxl hyl
          obtain ⟨m, HM⟩ : ∃ m, Hid (m = x * y) := ⟨_, rfl⟩
          rw [← HM.out] at hml
          have hmm : (x : Int) * (y : Int) = (m : Int) := by rw [HM.out]; exact (Int.natCast_mul x y).symm
          have k0 : (0 : Int) ≤ (k : Int) := by omega
          have k1 : (k : Int) < (n' : Int) := by omega
          have HJd := fun q => HJ.drewN q
          have l1 : (0 : Int) ≤ (i : Int) + (k : Int) := by omega
          have l2 : (i : Int) + (k : Int) < ((n + n' : Nat) : Int) := by omega
          have l3 : ((i : Int) + (k : Int)).toNat = i + k := by omega
          have l4 : IntKind.i64.wrap ((i : Int) + (k : Int)) = (i : Int) + (k : Int) := IntWalk.i64_in _ (by omega)
          have l5 : IntKind.u64.wrap ((x : Int) * (y : Int)) = (m : Int) := by rw [hmm]; exact IntWalk.u64_in _ (by omega)
          have l6 : IntKind.u64.wrap ((cy : Int) + (z : Int)) = (cy : Int) + (z : Int) := IntWalk.u64_in _ (by omega)
          have l7 : IntKind.u64.wrap ((cy : Int) + (z : Int) + (m : Int)) = ((cy + (m + z) : Nat) : Int) := by rw [IntWalk.u64_in _ (by omega)]; omega
          clear hcell hcellA hda hdb hO
          go_wp2
          go_quiet (fail)
          clear l1 l2 l3 l4 l5 l6 l7
          go_wp2
          go_roundw
          case rel => exact ⟨k + 1, (cy + (m + z)) / 4294967296, _, by omega, by omega, by go_num, by go_num, mul_step (HJd _) hkn (by omega) HY.out HZ.out HM.out rfl (by omega)⟩
          case measure => simp [intOf]; omega
        · obtain rfl : k = n' := by omega
          have hst := HJ.1.cell (j := i + k) (by have := HJ.2.1; omega)
          have hfr := HJ.1.frozen (i + k)
          clear hO
          go_wp2
          go_roundw
          case rel => exact ⟨i + 1, _, by omega, by go_num, mul_rowEnd HJ HL'.out HX.out (by omega) hcy rfl⟩
          case measure => simp [intOf]; omega
    · obtain rfl : i = n := by omega
      have h1 := HO.1
      have HV : Hid (val xs = val da * val db) := by unfold Hid; rw [HO.2.2.2.2.1, List.take_of_length_le (by have := HL.out; omega)]
      have hd := h1.dgs HO.2.2.1
      rw [HO.2.1] at hd
      clear hda
      go_wp2_with (go_at_call 79; (with_reducible refine (rtrim_ret _ _ _ _ _ _ hd (Nat.le_refl _) (by unfold maxLen; omega)).mono ?_); rintro e w2 ⟨t, rfl, hd2, ht2, rfl⟩)
      go_ret
      rw [HV.out] at hd2
      exact RetD.mk_ hd2 ht2 (by unfold maxLen; omega) (hB0.trans (hO.below (Nat.le_refl _)))
end Go.Proofs.Ytgjkgmlcfieodaa

