/-
  Texts of integers: the digits of a decimal number.
-/
import Derived.Test.YtekoeohkkabkdaaGreatTxD
set_option linter.unusedVariables false
set_option linter.unusedSimpArgs false
namespace Go.Proofs.YtekoeohkkabkdaaGreat
open Go.RowKit

theorem snoc_ind {α : Type} {P : List α → Prop} (h0 : P []) (h1 : ∀ m b, P m → P (m ++ [b])) (l : List α) : P l := by
  have : ∀ n (l : List α), l.length = n → P l := by
    intro n
    induction n with
    | zero => intro l h; rw [List.eq_nil_of_length_eq_zero h]; exact h0
    | succ n ih =>
      intro l h
      have hne : l ≠ [] := by intro e; rw [e] at h; simp at h
      rw [← List.dropLast_concat_getLast hne]
      exact h1 _ _ (ih _ (by simp [h]))
  exact this _ l rfl
/-- The value of a decimal number. -/
def decV (l : List UInt8) : Nat := l.foldl (fun v b => 10 * v + (b.toNat - 48)) 0
theorem decV_nil : decV [] = 0 := rfl
theorem decV_snoc (l : List UInt8) (b : UInt8) : decV (l ++ [b]) = 10 * decV l + (b.toNat - 48) := by unfold decV; rw [List.foldl_append]; rfl
theorem decV_append (l m : List UInt8) : decV (l ++ m) = decV l * 10 ^ m.length + decV m := by
  refine snoc_ind (P := fun m => decV (l ++ m) = decV l * 10 ^ m.length + decV m) ?_ ?_ m
  · simp [decV_nil]
  · intro m b ih
    rw [← List.append_assoc, decV_snoc, decV_snoc, ih, List.length_append, Nat.pow_add]
    simp only [List.length_singleton, Nat.pow_one]
    rw [Nat.mul_add, ← Nat.mul_assoc (decV l), Nat.mul_comm 10 (decV l * 10 ^ m.length)]
    omega
theorem take_snocB {l : List UInt8} {k : Nat} (hk : k < l.length) : l.take (k + 1) = l.take k ++ [byteAt l k] := by
  rw [List.take_add_one, List.getElem?_eq_getElem hk]
  unfold byteAt
  simp [List.getD, hk]
theorem allD_at {l : List UInt8} (h : allD l = true) {k : Nat} (hk : k < l.length) : 48 ≤ (byteAt l k).toNat ∧ (byteAt l k).toNat ≤ 57 := by
  unfold allD at h
  rw [List.all_eq_true] at h
  have := h (byteAt l k) (by unfold byteAt; simp [List.getD, hk])
  unfold isD at this
  exact of_decide_eq_true this
theorem allD_drop {l : List UInt8} (h : allD l = true) (k : Nat) : allD (l.drop k) = true := by
  unfold allD at *
  rw [List.all_eq_true] at *
  exact fun x hx => h x (List.mem_of_mem_drop hx)
theorem decV_lt {l : List UInt8} : allD l = true → decV l < 10 ^ l.length := by
  refine snoc_ind (P := fun l => allD l = true → decV l < 10 ^ l.length) ?_ ?_ l
  · intro _; simp [decV_nil]
  · intro m b ih h
    unfold allD at h ih
    rw [List.all_append, Bool.and_eq_true] at h
    have h1 := ih h.1
    have h2 := h.2
    simp [isD] at h2
    rw [decV_snoc, List.length_append, Nat.pow_add]
    simp only [List.length_singleton, Nat.pow_one]
    omega
theorem allD_takeD {l : List UInt8} (h : allD l = true) (k : Nat) : allD (l.take k) = true := by
  unfold allD at *
  rw [List.all_eq_true] at *
  exact fun x hx => h x (List.mem_of_mem_take hx)
theorem made_C (w : World) (n : Nat) : RowC (w.alloc (.cells (madeCells #[.int .u32 0] n) 74)) w.heap.size n [] := by
  obtain ⟨rest, h⟩ := Row.made w n
  have h2 := Go.Deep.blk_alloc_new w (.cells (madeCells #[.int .u32 0] n) 74)
  refine ⟨(madeCells #[.int .u32 0] n).toList, by simpa using h2, by simp [size_madeCells]⟩

theorem make_room (W : World) (n : Nat) (hn : n ≤ 1000000) : (Instr.makeSlice 22 (.int .i64 0) (.int .i64 (n : Int))).run Tryz.prog W = .ok (.slice (some ⟨W.heap.size, 0, none⟩) 0 n) (W.alloc (.cells (madeCells #[.int .u32 0] n) 74)) := by
  obtain ⟨i0, hi, hz0, hz1, hz2⟩ := info_parts u32_info
  have := run_make (P := Tryz.prog) W 22 74 i0 _ Tryz.underlying22 hi hz0 .i64 .i64 0 n (by omega) (by omega) (by rw [hz2]; omega) (by omega)
  rw [hz1, Int.toNat_natCast] at this
  rw [this]
  simp [madeCells, Value.cells]

set_option maxHeartbeats 4000000 in
set_option maxRecDepth 100000 in
theorem fromDecimal_any (l : List UInt8) (hl : l.length ≤ 100000) (hD : allD l = true) (w : World) :
    Calls Tryz.prog 61 #[.string ⟨l.toArray⟩] w (RetMa w.heap.size w 100000 (decV l)) := by
  obtain ⟨L, HL⟩ : ∃ v, Hid (l.length = v) := ⟨_, rfl⟩
  have hsz := str_size l
  rw [HL.out] at hl hsz
  obtain ⟨q, HQ⟩ : ∃ q, Hid (L / 9 = q) := ⟨_, rfl⟩
  have hq : (L : Int) / 9 = (q : Int) := by have := HQ.out; omega
  have hqs : q ≤ 100000 := by have := HQ.out; omega
  have hqL : L ≤ 9 * q + 8 := by have := HQ.out; omega
  go_enter Tryz.func61, Tryz.ntmps61
  have hmk := make_room w (q + 1) (by omega)
  rw [show ((q + 1 : Nat) : Int) = (q : Int) + 1 by omega] at hmk
  obtain ⟨i0, hi, hz0, hz1, hz2⟩ := info_parts u32_info
  go_upto_region 2 with fail
  go_loopg [0, 3] L (fun r sv dv wr => ∃ (done todo : List UInt8) (g m cap : Nat) (ds : List Nat), l = done ++ todo ∧ todo.length = r ∧ (done = [] ∨ r % 9 = 0) ∧ sv = .string ⟨todo.toArray⟩ ∧ dv = .slice (some ⟨g, 0, none⟩) m cap ∧
    RowC wr g cap ds ∧ ds.length = m ∧ m + r ≤ L ∧ Dig ds ∧ val ds = decV done ∧ w.heap.size ≤ g ∧ cap ≤ maxLen ∧ Below w.heap.size w wr)
  case atStart => exact ⟨[], l, w.heap.size, 0, q + 1, [], rfl, HL.out, .inl rfl, rfl, rfl, made_C w _, rfl, by omega, Dig.nil, rfl, Nat.le_refl _, by unfold maxLen; omega, bnew _ _⟩
  case round =>
    obtain ⟨done, todo, g, m, cap, ds, hdt, hr, h9, rfl, rfl, R1, R2, R3, R4, R5, R6, R7, R8⟩ := hrel
    have hsz2 := str_size todo
    rw [hr] at hsz2
    by_cases h0 : gk = 0
    · subst h0
      have htn : todo = [] := List.eq_nil_of_length_eq_zero hr
      subst htn
      rw [List.append_nil] at hdt
      subst hdt
      clear hsz2 hr
      go_wp2_with fail
      go_ret
      exact ⟨g, m, cap, ds, rfl, R1, R2, by omega, R4, R5, R6, R7, R8⟩
    · obtain ⟨n, HN⟩ : ∃ n, Hid ((gk - 1) % 9 + 1 = n) := ⟨_, rfl⟩
      have hnn : ((gk : Int) - 1) % 9 + 1 = (n : Int) := by have := HN.out; omega
      have hn9 : n ≤ 9 := by have := HN.out; omega
      have hng : n ≤ gk := by have := HN.out; omega
      have hg0 : (0 : Int) < (gk : Int) := by omega
      have hDt : allD todo = true := by
        have := allD_drop hD done.length
        rw [hdt, List.drop_left] at this
        exact this
      have HDT := Lib.hid hdt
      have H9 := Lib.hid h9
      have HR1 := Lib.hid R1
      have HR2 := Lib.hid R2
      have HR4 := Lib.hid R4
      have HR5 := Lib.hid R5
      have HR7 := Lib.hid R7
      have HR8 := Lib.hid R8
      have HTL := Lib.hid hr
      have HDt := Lib.hid hDt
      clear hdt h9 R1 R2 R4 R5 R7 R8 hr hDt
      go_upto_region 6 with fail
      go_loopw [5, 21] (fun vv iv wi => ∃ i v : Nat, i ≤ n ∧ vv = .int .u32 v ∧ iv = .int .i64 i ∧ wi = wr ∧ v = decV (todo.take i) ∧ v < 10 ^ i) (fun _ iv _ => n - (intOf iv).toNat)
      case atStart => exact ⟨0, 0, by omega, rfl, rfl, rfl, rfl, by decide⟩
      case round =>
        obtain ⟨i, v, hin9, rfl, rfl, rfl, hv, hvb⟩ := hrel
        have HV := Lib.hid hv
        have HVB := Lib.hid hvb
        clear hv hvb
        by_cases hin : i < n
        · have hgt := str_get (l := todo) (k := i) (by rw [HTL.out]; omega)
          have hcb := allD_at HDt.out (k := i) (by rw [HTL.out]; omega)
          have hts := Lib.hid (take_snocB (l := todo) (k := i) (by rw [HTL.out]; omega))
          obtain ⟨c, HC⟩ : ∃ c, Hid ((byteAt todo i).toNat = c) := ⟨_, rfl⟩
          have hg2 : ∀ h, ((⟨todo.toArray⟩ : ByteArray)[i]'h).toNat = c := fun h => by rw [hgt h]; exact HC.out
          rw [HC.out] at hcb
          obtain ⟨hc1, hc2⟩ := hcb
          have hvs : v ≤ 99999999 := by
            have : 10 ^ i ≤ 10 ^ 8 := Nat.pow_le_pow_right (by omega) (by omega)
            have := HVB.out
            omega
          have hnew : Hid (decV (todo.take (i + 1)) = 10 * v + (c - 48)) := by unfold Hid; rw [hts.out, decV_snoc, HC.out, ← HV.out]
          have hpw : Hid (10 * v + (c - 48) < 10 ^ (i + 1)) := by unfold Hid; have := HVB.out; rw [Nat.pow_succ]; omega
          have q1 : (0 : Int) ≤ (i : Int) := by omega
          have q2 : (i : Int) < (n : Int) := by omega
          have q3 : (i : Int) < (gk : Int) := by omega
          clear hgt
          go_wp2_with fail
          go_roundw
          case rel => exact ⟨i + 1, 10 * v + (c - 48), by omega, by go_num, by go_num, by first | rfl | trivial, hnew.out.symm, hpw.out⟩
          case measure => simp [intOf]; omega
        · have hie : i = n := by omega
          subst hie
          have q2 : ¬ (i : Int) < (i : Int) := by omega
          have q3 : (i : Int) ≤ (gk : Int) := by omega
          have hv32 : v < 4294967296 := by
            have : 10 ^ i ≤ 10 ^ 9 := Nat.pow_le_pow_right (by omega) (by omega)
            have := HVB.out
            omega
          have hBw : w.heap.size ≤ wr.heap.size := HR8.out.size
          have hx : (⟨todo.toArray⟩ : ByteArray).extract i gk = ⟨(todo.drop i).toArray⟩ := by
            rw [extract_data, List.take_of_length_le (by rw [HTL.out]; exact Nat.le_refl _)]
          have hma : Calls Tryz.prog 89 #[.slice (some ⟨g, 0, none⟩) m cap, .int .u32 1000000000, .int .u32 (v : Nat)] wr (RetMa w.heap.size wr m (val ds * 1000000000 + v)) :=
            mulAddSmall_any g m cap 1000000000 v w.heap.size ds wr HR1.out HR2.out HR4.out (by omega) hv32 (by omega) R6 hBw HR7.out
          go_wp2_with (first
            | (go_at_call 89; (with_reducible refine hma.mono ?_); rintro e w1 ⟨g1, m1, cap1, ds1, rfl, k1, k2, k3, k4, k5, k6, k7, k8⟩)
            | fail)
          go_roundg (gk - i)
          case rel =>
            refine ⟨done ++ todo.take i, todo.drop i, g1, m1, cap1, ds1, ?_, ?_, .inr ?_, ?_, rfl, k1, k2, by omega, k4, ?_, k6, k7, HR8.out.trans k8⟩
            · rw [List.append_assoc, List.take_append_drop]; exact HDT.out
            · rw [List.length_drop, HTL.out]
            · have := HN.out; omega
            · rfl
            · rw [k5, HR5.out, decV_append, ← HV.out, List.length_take, HTL.out, Nat.min_eq_left hng]
              rcases H9.out with hd0 | h90
              · rw [hd0]; simp [decV_nil]
              · have : i = 9 := by have := HN.out; omega
                rw [this]
          case measure => omega
end Go.Proofs.YtekoeohkkabkdaaGreat

