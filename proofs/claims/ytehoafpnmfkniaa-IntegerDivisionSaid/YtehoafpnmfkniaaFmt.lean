/-
  The decimal notation of digits.
-/
import Derived.Test.YtehoafpnmfkniaaDec
set_option linter.unusedVariables false
set_option linter.unusedSimpArgs false
namespace Go.Proofs.Ytehoafpnmfkniaa
open Go.RowKit

/-- A string is handed back; what was there is as it was. -/
def RetS (w : World) (l : List UInt8) (e : Ending) (w' : World) : Prop := e = .returned (.string ⟨l.toArray⟩) ∧ Below w.heap.size w w'

/-- At the head of the outer loop: k decimal digits are written, p places are left, and rest holds V. -/
def DecI (w wr : World) (g gt T p k t v V : Nat) : Prop :=
  Row wr g (digs V) ∧ (digs V).length = t ∧ V = v / 10 ^ k ∧ p + k = T ∧ BRow wr gt (List.replicate p 0 ++ pad k v) ∧ Below w.heap.size w wr ∧ w.heap.size ≤ g ∧ w.heap.size ≤ gt ∧ g ≠ gt

/-- In the inner loop. -/
def DecJ (w wr : World) (g gt T p k v : Nat) (qs : List Nat) : Prop :=
  Row wr g qs ∧ p + k = T ∧ BRow wr gt (List.replicate p 0 ++ pad k v) ∧ Below w.heap.size w wr

theorem decJ_step {w wr : World} {g gt T p k v u : Nat} {qs : List Nat} (h : DecJ w wr g gt T (p + 1) k v qs) (hg : w.heap.size ≤ gt) (hne : g ≠ gt) (hu : u % 10 = v / 10 ^ k % 10) {z : Int} (hz : z = (48 + u % 10 : Nat)) :
    DecJ w (wr.setCell ⟨gt, p, none⟩ (.int .u8 z)) g gt T p (k + 1) v qs := by
  obtain ⟨h1, h2, h3, h4⟩ := h
  refine ⟨h1.far hne _, by omega, ?_, h4.setCell hg _⟩
  have := h3.set p (dch (u % 10)) (z := z) (by rw [hz, dch_toNat (Nat.mod_lt _ (by omega))])
  rw [set_before, hu, ← pad_front] at this
  exact this

theorem digit_of (V i : Nat) (hi : i < 9) : V % 1000000000 / 10 ^ i % 10 = V / 10 ^ i % 10 := by
  obtain rfl | rfl | rfl | rfl | rfl | rfl | rfl | rfl | rfl : i = 0 ∨ i = 1 ∨ i = 2 ∨ i = 3 ∨ i = 4 ∨ i = 5 ∨ i = 6 ∨ i = 7 ∨ i = 8 := by omega
  all_goals (simp only [Nat.reducePow]; omega)

theorem ten_pow_lt {v n : Nat} (h : v < BB ^ n) (k : Nat) (hk : 10 ^ k ≤ v) : k < 10 * n ∨ v = 0 := by
  rcases Nat.lt_or_ge k (10 * n) with h1 | h1
  · exact Or.inl h1
  · have h2 : BB ^ n ≤ (10 ^ 10) ^ n := Nat.pow_le_pow_left (by rw [BB_eq]; decide) n
    rw [← Nat.pow_mul] at h2
    have h3 : 10 ^ (10 * n) ≤ 10 ^ k := Nat.pow_le_pow_right (by omega) h1
    omega

theorem divSmall_e9 (g t c V : Nat) (w : World) (hr : Row w g (digs V)) (ht : (digs V).length = t) (hs : t ≤ 1000000) :
    Calls Try.prog 130 #[.slice (some ⟨g, 0, none⟩) t c, .slice (some ⟨g, 0, none⟩) t c, .int .u32 1000000000] w fun e w' =>
      ∃ qs, e = .returned (.int .u32 (V % 1000000000 : Nat)) ∧ Row w' g qs ∧ qs.length = t ∧ Dig qs ∧ val qs = V / 1000000000 ∧ Only g w w' := by
  have := divSmall_any (some ⟨g, 0, none⟩) g t c c 1000000000 (digs V) (digs V) w hr ht (by omega) (by omega) hs (dig_digs V) ht (fun _ => ⟨g, 0, rfl, fun j hj => by rw [Nat.zero_add]; exact hr.cell (by omega), fun _ => rfl⟩)
  rw [val_digs] at this
  exact this

theorem pad_cells {w : World} {gt T p k q m v j : Nat} (h : BRow w gt (List.replicate p 0 ++ pad k v)) (hp : p + k = T) (hq : q + m = T) (hm : m ≤ k) (hj : j < m) :
    w.cell? ⟨gt, q + j, none⟩ = some (.int .u8 (((pad m v)[j]'(by rw [pad_length]; exact hj)).toNat : Nat)) := by
  have h1 : q + j < (List.replicate p (0 : UInt8) ++ pad k v).length := by rw [List.length_append, List.length_replicate, pad_length]; omega
  have h2 : j < (pad m v).length := by rw [pad_length]; exact hj
  have e : (pad m v)[j]? = (List.replicate p (0 : UInt8) ++ pad k v)[q + j]? := by
    rw [← pad_drop v k m hm, List.getElem?_drop, List.getElem?_append_right (by simp; omega), List.length_replicate]
    congr 1
    omega
  rw [List.getElem?_eq_getElem h1, List.getElem?_eq_getElem h2] at e
  rw [h.cell h1, Option.some.inj e]

set_option maxHeartbeats 2000000 in
set_option maxRecDepth 100000 in
theorem toDecimal_any (A : Option Addr) (n c v : Nat) (w : World) (h : Dgs w w.heap.size A n (digs v)) (hc : n ≤ c) (hm : c ≤ maxLen) (hs : n ≤ 100000) (hv : v ≠ 0) :
    Calls Try.prog 107 #[.slice A n c] w (RetS w (decs v)) := by
  have hn : 0 < n := by rw [← h.len]; exact digs_pos_len hv
  obtain ⟨b, off, hA, hb, _⟩ := h.at_ hn
  subst hA
  have hvn : v < BB ^ n := by rw [← h.len]; exact lt_pow_digs v
  obtain ⟨T, HT⟩ : ∃ T, Hid (T = 10 * n + 9) := ⟨_, rfl⟩
  have hTn : (T : Int) = 10 * (n : Int) + 9 := by rw [HT.out]; omega
  have hTb : T ≤ 10000000 := by rw [HT.out]; omega
  have hmk := run_make_row' (P := Try.prog) 87 5 (.int .u8 0) 1 Try.underlying87 u8_info rfl .i64 .i64 T (by omega) (by omega)
  rw [hTn] at hmk
  have HTN := Lib.hid hTn
  clear hTn
  go_enter Try.func107, Try.ntmps107
  go_wp2_with (go_at_call 90; (with_reducible refine (clone_row b off n c (digs v) _ h hc hm (by omega) hn).mono ?_); rintro e w1 ⟨g, c1, rfl, hr1, hg1, hc1, hm1, hb1⟩)
  clear hmk
  have H0 : DecI w (w1.alloc (.cells (madeCells #[.int .u8 0] T) 5)) g w1.heap.size T T 0 n v v :=
    ⟨hr1.alloc _, h.len, by simp, by omega, by have := BRow.made w1 T; simpa [pad] using this, hb1.alloc hb1.size _, hg1, hb1.size, by have := hr1.lt; omega⟩
  generalize w1.heap.size = gt at H0 ⊢
  go_loopw [3, 5] (fun rs a wr => ∃ (p k t c2 V : Nat), rs = .slice (some ⟨g, 0, none⟩) t c2 ∧ a = .int .i64 p ∧ t ≤ c2 ∧ c2 ≤ maxLen ∧ DecI w wr g gt T p k t v V) (fun _ a _ => (intOf a).toNat)
  case atStart => exact ⟨T, 0, n, c1, v, rfl, rfl, hc1, hm1, H0⟩
  case round =>
    clear H0 hr1 hb1
    obtain ⟨p, k, t, c2, V, rfl, rfl, htc, hcm, HI⟩ := hrel
    have hpT : p ≤ T := by have := HI.2.2.2.1; omega
    by_cases hV : V = 0
    · have ht0 : t = 0 := by rw [← HI.2.1, hV, digs_zero]; rfl
      have HVK : Hid (v < 10 ^ k) := by
        have h3 := HI.2.2.1
        rw [hV] at h3
        rcases Nat.lt_or_ge v (10 ^ k) with h4 | h4
        · exact h4
        · have := Nat.div_pos h4 (Nat.pow_pos (by omega : 0 < 10)); omega
      subst ht0 hV
      have hTp := HI.2.2.2.1
      have hR := HI.2.2.2.2.1
      have hB := HI.2.2.2.2.2.1
      have HTP := Lib.hid hTp
      clear hTp
      go_wp2
      go_loop [5] (fun a => ∃ (q m : Nat), q + m = T ∧ m ≤ k ∧ a = .int .i64 q ∧ v < 10 ^ m) (fun a => T - (intOf a).toNat)
      case atStart => exact ⟨p, k, HTP.out, Nat.le_refl _, rfl, HVK.out⟩
      case round =>
        obtain ⟨q, m, hqm, hmk, rfl, hvm⟩ := hrel
        have HQM := Lib.hid hqm
        have HVM := Lib.hid hvm
        have hm0 : m ≠ 0 := by rintro rfl; simp at hvm; omega
        obtain ⟨m', rfl⟩ : ∃ m', m = m' + 1 := ⟨m - 1, by omega⟩
        have hqT : q < T := by omega
        obtain ⟨ch, HCH⟩ : ∃ ch, Hid (ch = 48 + v / 10 ^ m' % 10) := ⟨_, rfl⟩
        have hx : wr.cell? ⟨gt, q, none⟩ = some (.int .u8 (ch : Nat)) := by
          have := pad_cells (j := 0) hR HTP.out HQM.out hmk (Nat.succ_pos _)
          simp only [pad_front, List.getElem_cons_zero, Nat.add_zero] at this
          rw [this, dch_toNat (Nat.mod_lt _ (by omega)), HCH.out]
        have i0 : (0 : Int) ≤ (q : Int) := by omega
        have i1 : (q : Int) < (T : Int) := by omega
        clear hqm hvm
        by_cases hch : ch = 48
        · have HE := Lib.hid hch
          subst hch
          go_wp2
          go_round
          case rel =>
            refine ⟨q + 1, m', by have := HQM.out; omega, by omega, by go_num, ?_⟩
            have h1 := HCH.out
            have h2 := HVM.out
            rw [Nat.pow_succ] at h2
            rcases Nat.lt_or_ge v (10 ^ m') with h3 | h3
            · exact h3
            · have h4 : v / 10 ^ m' < 10 := by rw [Nat.div_lt_iff_lt_mul (Nat.pow_pos (by omega))]; rw [Nat.mul_comm]; exact h2
              have h5 := Nat.div_pos h3 (Nat.pow_pos (by omega : 0 < 10))
              omega
          case measure => simp [intOf]; omega
        · have hcb : ((ch : Int) == 48) = false := by simp; omega
          have HD : Hid (pad (m' + 1) v = decs v) := pad_decs m' v HVM.out (by
            rcases Nat.lt_or_ge v (10 ^ m') with h3 | h3
            · exact absurd (by rw [HCH.out, Nat.div_eq_of_lt h3]) hch
            · exact h3)
          have hl : (pad (m' + 1) v).length = T - q := by rw [pad_length]; have := HQM.out; omega
          have hcv := run_convert_bytes_back (P := Try.prog) wr 87 9 5 ⟨gt, q, none⟩ (T - q) (pad (m' + 1) v) Try.underlying87 Try.underlying5 Try.underlying9 (fun j hj => by rw [Addr.add_lit]; exact pad_cells hR HTP.out HQM.out hmk (by rw [pad_length] at hj; exact hj))
          rw [hl, HD.out] at hcv
          clear hl
          go_wp2
          go_ret
          exact ⟨rfl, hB⟩
    · have hk10 : k < 10 * n := by
        have h3 := HI.2.2.1
        rcases Nat.lt_or_ge v (10 ^ k) with h4 | h4
        · rw [Nat.div_eq_of_lt h4] at h3; exact absurd h3 hV
        · rcases ten_pow_lt hvn k h4 with h5 | h5
          · exact h5
          · exact absurd h5 hv
      have hp9 : 9 ≤ p := by have := HI.2.2.2.1; have := HT.out; omega
      have ht0 : 0 < t := by rw [← HI.2.1]; exact digs_pos_len hV
      have ht1 : t ≤ 1000000 := by
        rw [← HI.2.1]
        have h3 : V ≤ v := by rw [HI.2.2.1]; exact Nat.div_le_self _ _
        have h4 := digs_length_le (n := V) (k := n) (by omega)
        omega
      obtain ⟨U, HU⟩ : ∃ U, Hid (U = V % 1000000000) := ⟨_, rfl⟩
      have hU : U < 1000000000 := by rw [HU.out]; omega
      have r1 := HI.1
      have r2 := Lib.hid HI.2.1
      go_wp2_with (first
        | (go_at_call 130; (with_reducible refine (divSmall_e9 g t c2 V _ r1 r2.out ht1).mono ?_); rw [← HU.out]; rintro e w2 ⟨qs, rfl, hr2, hq2, hq3, hq4, ho2⟩; have hd2 := hr2.dgs hq3; rw [hq2] at hd2)
        | (go_at_call 99; (with_reducible refine (trim_ret _ _ _ _ _ _ hd2 htc hcm).mono ?_); rw [hq4]; rintro e w3 ⟨t3, rfl, hd3, ht3, rfl⟩))
      have HJ : DecJ w w2 g gt T p k v (digs (V / 1000000000)) ∧ (digs (V / 1000000000)).length = t3 := by
        obtain ⟨h1, h2, h3, h4, h5, h6, h7, h8, h9⟩ := HI
        have e := take_trimLen hq3
        rw [hq4] at e
        refine ⟨⟨?_, h4, h5.of_block (ho2.block gt (Ne.symm h9)), h6.trans (ho2.below h7)⟩, hd3.len⟩
        rw [← e]
        exact hr2.take _
      clear hd2 hd3 hr2 hq4 hq3 hq2 ho2
      have hng : g ≠ gt := HI.2.2.2.2.2.2.2.2
      have hwg : w.heap.size ≤ gt := HI.2.2.2.2.2.2.2.1
      have hwg' : w.heap.size ≤ g := HI.2.2.2.2.2.2.1
      have HVD := Lib.hid HI.2.2.1
      have HPT := Lib.hid HI.2.2.2.1
      have HT3 := Lib.hid HJ.2
      have HJ1 := HJ.1
      clear HI HJ r1 r2
      go_loopw [5, 6, 24] (fun a uv iv wi => ∃ (i q u : Nat), i ≤ 9 ∧ q + i = p ∧ a = .int .i64 q ∧ uv = .int .u32 u ∧ iv = .int .i64 i ∧ u = U / 10 ^ i ∧ DecJ w wi g gt T q (k + i) v (digs (V / 1000000000))) (fun _ _ iv _ => 9 - (intOf iv).toNat)
      case atStart => exact ⟨0, p, U, Nat.zero_le _, rfl, rfl, rfl, rfl, by simp, HJ1⟩
      case round =>
        clear HJ1
        obtain ⟨i, q, u, hi, hqi, rfl, rfl, rfl, hu, HK⟩ := hrel
        have HQI := Lib.hid hqi
        have HUU := Lib.hid hu
        have hub : u < 1000000000 := by rw [hu]; exact Nat.lt_of_le_of_lt (Nat.div_le_self _ _) hU
        by_cases hi9 : i < 9
        · obtain ⟨q', rfl⟩ : ∃ q', q = q' + 1 := ⟨q - 1, by omega⟩
          have hqT : q' < T := by omega
          clear hqi hu
          obtain ⟨x0, hst⟩ : ∃ x, wr.cell? ⟨gt, q', none⟩ = some x := ⟨_, HK.2.2.1.cell (j := q') (by rw [List.length_append, List.length_replicate]; omega)⟩
          have hfr := HK.2.2.1.frozen q'
          have i0 : (0 : Int) ≤ (q' : Int) := by omega
          have i1 : (q' : Int) < (T : Int) := by omega
          have HD : Hid (u % 10 = v / 10 ^ (k + i) % 10) := by
            unfold Hid
            rw [HUU.out, HU.out, digit_of V i hi9, HVD.out, Nat.div_div_eq_div_mul, ← Nat.pow_add]
          go_wp2
          go_roundw
          case rel => exact ⟨i + 1, q', u / 10, by omega, by have := HQI.out; omega, rfl, int_val (by omega), by go_num, by rw [HUU.out, Nat.div_div_eq_div_mul, ← Nat.pow_succ], decJ_step HK hwg hng HD.out (by omega)⟩
          case measure => simp [intOf]; omega
        · obtain rfl : i = 9 := by omega
          clear hu hqi
          go_wp2
          go_roundw
          case rel =>
            obtain ⟨h1, h2, h3, h4⟩ := HK
            exact ⟨q, k + 9, t3, t3, V / 1000000000, rfl, rfl, Nat.le_refl _, by omega, h1, HT3.out, by rw [HVD.out, Nat.div_div_eq_div_mul, Nat.pow_add], h2, h3, h4, hwg', hwg, hng⟩
          case measure => simp [intOf]; have := HQI.out; omega
end Go.Proofs.Ytehoafpnmfkniaa
