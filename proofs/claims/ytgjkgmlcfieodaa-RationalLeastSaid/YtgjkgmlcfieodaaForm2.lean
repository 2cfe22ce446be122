/-
  Decimal digits.
  The decimal notation of digits.
  The decimal notation of integers.
  The laws' own bound on sizes.
  The laws' own check that the package is there: -7 divided by 2 is -4 with the remainder 1.
  An integer among a law's arguments, opened; and the law's last step.
-/
import Derived.Test.YtgjkgmlcfieodaaCmpC
import Derived.Laws.IdiomStrings
import Derived.Test.YtgjkgmlcfieodaaDivM
import Derived.Test.YtgjkgmlcfieodaaRows2
import Derived.Test.YtgjkgmlcfieodaaRows
import Derived.WalkKit
import Derived.ProofKit
import Derived.OpenShut
import Derived.ShutString
import Derived.ChangeOld
import Derived.Below
import Derived.SizedLaws
import Derived.Lib.SmallJoins
set_option linter.unusedVariables false
set_option linter.unusedSimpArgs false
namespace Go.Proofs.Ytgjkgmlcfieodaa
open Go.RowKit

/-- The decimal digit of a number below 10. -/
def dch (d : Nat) : UInt8 := UInt8.ofNat (48 + d)
theorem dch_toNat {d : Nat} (h : d < 10) : (dch d).toNat = 48 + d := by simp [dch, UInt8.toNat_ofNat']; omega

/-- The lowest k decimal digits. -/
def pad : Nat → Nat → List UInt8
  | 0, _ => []
  | k + 1, v => pad k (v / 10) ++ [dch (v % 10)]
theorem pad_length (k v : Nat) : (pad k v).length = k := by
  induction k generalizing v with
  | zero => rfl
  | succ k ih => simp [pad, ih]
theorem pad_front (k v : Nat) : pad (k + 1) v = dch (v / 10 ^ k % 10) :: pad k v := by
  induction k generalizing v with
  | zero => simp [pad]
  | succ k ih =>
    rw [pad, ih, Nat.div_div_eq_div_mul, Nat.mul_comm 10, ← Nat.pow_succ]
    simp [pad]
theorem pad_drop (v k m : Nat) (h : m ≤ k) : (pad k v).drop (k - m) = pad m v := by
  induction k with
  | zero => have : m = 0 := by omega
            subst this; rfl
  | succ k ih =>
    by_cases e : m = k + 1
    · subst e; simp
    · rw [pad_front, show k + 1 - m = (k - m) + 1 by omega, List.drop_succ_cons, ih (by omega)]

/-- The decimal notation. -/
def decs (v : Nat) : List UInt8 := if _h : v < 10 then [dch v] else decs (v / 10) ++ [dch (v % 10)]
termination_by v
decreasing_by omega
theorem pad_decs (m v : Nat) (h1 : v < 10 ^ (m + 1)) (h2 : 10 ^ m ≤ v) : pad (m + 1) v = decs v := by
  induction m generalizing v with
  | zero =>
    rw [decs, dif_pos (by simpa using h1)]
    simp [pad, Nat.mod_eq_of_lt (show v < 10 by simpa using h1)]
  | succ m ih =>
    have hp : 10 ≤ v := by
      have : 10 ^ 1 ≤ 10 ^ (m + 1) := Nat.pow_le_pow_right (by omega) (by omega)
      omega
    rw [decs, dif_neg (by omega), pad, ih]
    · rw [Nat.div_lt_iff_lt_mul (by omega), ← Nat.pow_succ]; exact h1
    · rw [Nat.le_div_iff_mul_le (by omega), ← Nat.pow_succ]; exact h2

def bcellv (c : UInt8) : Value := .int .u8 (c.toNat : Nat)
/-- Block b is a row of bytes of its own. -/
def BRow (w : World) (b : Nat) (ls : List UInt8) : Prop := w.heap[b]? = some (.cells (ls.map bcellv).toArray 5 (0, 0))
section
variable {w w' : World} {b : Nat} {ls : List UInt8}
theorem BRow.lt (h : BRow w b ls) : b < w.heap.size := by
  rcases Nat.lt_or_ge b w.heap.size with hlt | hge
  · exact hlt
  · unfold BRow at h; rw [Array.getElem?_eq_none hge] at h; cases h
theorem BRow.cell (h : BRow w b ls) {j : Nat} (hj : j < ls.length) : w.cell? ⟨b, j, none⟩ = some (.int .u8 ((ls[j]).toNat : Nat)) := by
  unfold BRow at h
  simp [World.cell?, h, hj, bcellv]
theorem BRow.frozen (h : BRow w b ls) (j : Nat) : w.frozen? ⟨b, j, none⟩ = false := by
  unfold BRow at h
  simp [World.frozen?, h]
theorem BRow.of_block (h : BRow w b ls) (hb : w'.heap[b]? = w.heap[b]?) : BRow w' b ls := hb.trans h
theorem BRow.set (h : BRow w b ls) (i : Nat) (v : UInt8) {z : Int} (hz : z = (v.toNat : Nat)) : BRow (w.setCell ⟨b, i, none⟩ (.int .u8 z)) b (ls.set i v) := by
  subst hz
  unfold BRow at h ⊢
  have e : (((ls.set i v).map bcellv).toArray) = ((ls.map bcellv).toArray).setIfInBounds i (bcellv v) := by
    apply Array.ext'
    simp [List.map_set]
  rw [e]
  simp [World.setCell, Array.getElem?_modify, h, bcellv]
theorem BRow.made (w : World) (n : Nat) : BRow (w.alloc (.cells (madeCells #[.int .u8 0] n) 5)) w.heap.size (List.replicate n 0) := by
  have e : (((List.replicate n (0 : UInt8)).map bcellv).toArray) = madeCells #[.int .u8 0] n := by
    apply Array.ext
    · simp [size_madeCells]
    · intro i h1 h2
      simp [size_madeCells] at h2
      simp [madeCells, bcellv, Nat.mod_one]
  unfold BRow
  rw [e]
  exact Go.Deep.blk_alloc_new _ _
end
theorem set_before (p : Nat) (x : UInt8) (l : List UInt8) : (List.replicate (p + 1) (0 : UInt8) ++ l).set p x = List.replicate p 0 ++ (x :: l) := by
  rw [List.replicate_succ', List.append_assoc, List.set_append_right _ _ (by simp)]
  simp
theorem u8_info : (Try.prog.info? 5).map (fun i => (i.zero, i.size, i.bytes)) = some (some (.int .u8 0), 1, 1) := by kernel_rfl

/-- A string is handed back; what was there is as it was. -/
def RetS (w : World) (l : List UInt8) (e : Ending) (w' : World) : Prop := e = .returned (.string ⟨l.toArray⟩) ∧ Below w.heap.size w w'

/-- At the head of the outer loop: k decimal digits are written, p places are left, and rest holds V. -/
def DecI (w wr : World) (g gt T p k t v V : Nat) : Prop :=
  Row wr g (digs V) ∧ (digs V).length = t ∧ V = v / 10 ^ k ∧ p + k = T ∧ BRow wr gt (List.replicate p 0 ++ pad k v) ∧ Below w.heap.size w wr ∧ w.heap.size ≤ g ∧ w.heap.size ≤ gt ∧ g ≠ gt

/-- In the inner loop. -/
def DecJ (w wr : World) (g gt T p k v : Nat) (qs : List Nat) : Prop :=
  Row wr g qs ∧ p + k = T ∧ BRow wr gt (List.replicate p 0 ++ pad k v) ∧ Below w.heap.size w wr

theorem decJ_step {w wr : World} {g gt T p k v u : Nat} {qs : List Nat} (h : DecJ w wr g gt T (p + 1) k v qs) (hg : w.heap.size ≤ gt) (hne : g ≠ gt) (hu : u % 10 = v / 10 ^ k % 10) {z : Int} (hz : z = (48 + u % 10 : Nat)) :
    DecJ w (wr.setCell ⟨gt, p, none⟩ (.int .u8 z)) g gt T p (k + 1) v qs := by
  obtain ⟨h1, h2, h3, h4⟩ := h
  refine ⟨h1.far hne _, by omega, ?_, h4.setCell hg _⟩
  have := h3.set p (dch (u % 10)) (z := z) (by rw [hz, dch_toNat (Nat.mod_lt _ (by omega))])
  rw [set_before, hu, ← pad_front] at this
  exact this

theorem digit_of (V i : Nat) (hi : i < 9) : V % 1000000000 / 10 ^ i % 10 = V / 10 ^ i % 10 := by
  obtain rfl | rfl | rfl | rfl | rfl | rfl | rfl | rfl | rfl : i = 0 ∨ i = 1 ∨ i = 2 ∨ i = 3 ∨ i = 4 ∨ i = 5 ∨ i = 6 ∨ i = 7 ∨ i = 8 := by omega
  all_goals (simp only [Nat.reducePow]; omega)

theorem ten_pow_lt {v n : Nat} (h : v < BB ^ n) (k : Nat) (hk : 10 ^ k ≤ v) : k < 10 * n ∨ v = 0 := by
  rcases Nat.lt_or_ge k (10 * n) with h1 | h1
  · exact Or.inl h1
  · have h2 : BB ^ n ≤ (10 ^ 10) ^ n := Nat.pow_le_pow_left (by rw [BB_eq]; decide) n
    rw [← Nat.pow_mul] at h2
    have h3 : 10 ^ (10 * n) ≤ 10 ^ k := Nat.pow_le_pow_right (by omega) h1
    omega

theorem divSmall_e9 (g t c V : Nat) (w : World) (hr : Row w g (digs V)) (ht : (digs V).length = t) (hs : t ≤ 1000000) :
    Calls Try.prog 87 #[.slice (some ⟨g, 0, none⟩) t c, .slice (some ⟨g, 0, none⟩) t c, .int .u32 1000000000] w fun e w' =>
      ∃ qs, e = .returned (.int .u32 (V % 1000000000 : Nat)) ∧ Row w' g qs ∧ qs.length = t ∧ Dig qs ∧ val qs = V / 1000000000 ∧ Only g w w' := by
  have := divSmall_any (some ⟨g, 0, none⟩) g t c c 1000000000 (digs V) (digs V) w hr ht (by omega) (by omega) hs (dig_digs V) ht (fun _ => ⟨g, 0, rfl, fun j hj => by rw [Nat.zero_add]; exact hr.cell (by omega), fun _ => rfl⟩)
  rw [val_digs] at this
  exact this

theorem pad_cells {w : World} {gt T p k q m v j : Nat} (h : BRow w gt (List.replicate p 0 ++ pad k v)) (hp : p + k = T) (hq : q + m = T) (hm : m ≤ k) (hj : j < m) :
    w.cell? ⟨gt, q + j, none⟩ = some (.int .u8 (((pad m v)[j]'(by rw [pad_length]; exact hj)).toNat : Nat)) := by
  have h1 : q + j < (List.replicate p (0 : UInt8) ++ pad k v).length := by rw [List.length_append, List.length_replicate, pad_length]; omega
  have h2 : j < (pad m v).length := by rw [pad_length]; exact hj
  have e : (pad m v)[j]? = (List.replicate p (0 : UInt8) ++ pad k v)[q + j]? := by
    rw [← pad_drop v k m hm, List.getElem?_drop, List.getElem?_append_right (by simp; omega), List.length_replicate]
    congr 1
    omega
  rw [List.getElem?_eq_getElem h1, List.getElem?_eq_getElem h2] at e
  rw [h.cell h1, Option.some.inj e]

set_option maxHeartbeats 2000000 in
set_option maxRecDepth 100000 in
theorem toDecimal_any (A : Option Addr) (n c v : Nat) (w : World) (h : Dgs w w.heap.size A n (digs v)) (hc : n ≤ c) (hm : c ≤ maxLen) (hs : n ≤ 100000) (hv : v ≠ 0) :
    Calls Try.prog 71 #[.slice A n c] w (RetS w (decs v)) := by
  have hn : 0 < n := by rw [← h.len]; exact digs_pos_len hv
  obtain ⟨b, off, hA, hb, _⟩ := h.at_ hn
  subst hA
  have hvn : v < BB ^ n := by rw [← h.len]; exact lt_pow_digs v
  obtain ⟨T, HT⟩ : ∃ T, Hid (T = 10 * n + 9) := ⟨_, rfl⟩
  have hTn : (T : Int) = 10 * (n : Int) + 9 := by rw [HT.out]; omega
  have hTb : T ≤ 10000000 := by rw [HT.out]; omega
  have hmk := run_make_row' (P := Try.prog) 81 5 (.int .u8 0) 1 Try.underlying81 u8_info rfl .i64 .i64 T (by omega) (by omega)
  rw [hTn] at hmk
  have HTN := Lib.hid hTn
  clear hTn
  go_enter Try.func71, Try.ntmps71
  go_wp2_with (go_at_call 70; (with_reducible refine (clone_row b off n c (digs v) _ h hc hm (by omega) hn).mono ?_); rintro e w1 ⟨g, c1, rfl, hr1, hg1, hc1, hm1, hb1⟩)
  clear hmk
  have H0 : DecI w (w1.alloc (.cells (madeCells #[.int .u8 0] T) 5)) g w1.heap.size T T 0 n v v :=
    ⟨hr1.alloc _, h.len, by simp, by omega, by have := BRow.made w1 T; simpa [pad] using this, hb1.alloc hb1.size _, hg1, hb1.size, by have := hr1.lt; omega⟩
  generalize w1.heap.size = gt at H0 ⊢
  go_loopw [3, 5] (fun rs a wr => ∃ (p k t c2 V : Nat), rs = .slice (some ⟨g, 0, none⟩) t c2 ∧ a = .int .i64 p ∧ t ≤ c2 ∧ c2 ≤ maxLen ∧ DecI w wr g gt T p k t v V) (fun _ a _ => (intOf a).toNat)
  case atStart => exact ⟨T, 0, n, c1, v, rfl, rfl, hc1, hm1, H0⟩
  case round =>
    clear H0 hr1 hb1
    obtain ⟨p, k, t, c2, V, rfl, rfl, htc, hcm, HI⟩ := hrel
    have hpT : p ≤ T := by have := HI.2.2.2.1; omega
    by_cases hV : V = 0
    · have ht0 : t = 0 := by rw [← HI.2.1, hV, digs_zero]; rfl
      have HVK : Hid (v < 10 ^ k) := by
        have h3 := HI.2.2.1
        rw [hV] at h3
        rcases Nat.lt_or_ge v (10 ^ k) with h4 | h4
        · exact h4
        · have := Nat.div_pos h4 (Nat.pow_pos (by omega : 0 < 10)); omega
      subst ht0 hV
      have hTp := HI.2.2.2.1
      have hR := HI.2.2.2.2.1
      have hB := HI.2.2.2.2.2.1
      have HTP := Lib.hid hTp
      clear hTp
      go_wp2
      go_loop [5] (fun a => ∃ (q m : Nat), q + m = T ∧ m ≤ k ∧ a = .int .i64 q ∧ v < 10 ^ m) (fun a => T - (intOf a).toNat)
      case atStart => exact ⟨p, k, HTP.out, Nat.le_refl _, rfl, HVK.out⟩
      case round =>
        obtain ⟨q, m, hqm, hmk, rfl, hvm⟩ := hrel
        have HQM := Lib.hid hqm
        have HVM := Lib.hid hvm
        have hm0 : m ≠ 0 := by rintro rfl; simp at hvm; omega
        obtain ⟨m', rfl⟩ : ∃ m', m = m' + 1 := ⟨m - 1, by omega⟩
        have hqT : q < T := by omega
        obtain ⟨ch, HCH⟩ : ∃ ch, Hid (ch = 48 + v / 10 ^ m' % 10) := ⟨_, rfl⟩
        have hx : wr.cell? ⟨gt, q, none⟩ = some (.int .u8 (ch : Nat)) := by
          have := pad_cells (j := 0) hR HTP.out HQM.out hmk (Nat.succ_pos _)
          simp only [pad_front, List.getElem_cons_zero, Nat.add_zero] at this
          rw [this, dch_toNat (Nat.mod_lt _ (by omega)), HCH.out]
        have i0 : (0 : Int) ≤ (q : Int) := by omega
        have i1 : (q : Int) < (T : Int) := by omega
        clear hqm hvm
        by_cases hch : ch = 48
        · have HE := Lib.hid hch
          subst hch
          go_wp2
          go_round
          case rel =>
            refine ⟨q + 1, m', by have := HQM.out; omega, by omega, by go_num, ?_⟩
            have h1 := HCH.out
            have h2 := HVM.out
            rw [Nat.pow_succ] at h2
            rcases Nat.lt_or_ge v (10 ^ m') with h3 | h3
            · exact h3
            · have h4 : v / 10 ^ m' < 10 := by rw [Nat.div_lt_iff_lt_mul (Nat.pow_pos (by omega))]; rw [Nat.mul_comm]; exact h2
              have h5 := Nat.div_pos h3 (Nat.pow_pos (by omega : 0 < 10))
              omega
          case measure => simp [intOf]; omega
        · have hcb : ((ch : Int) == 48) = false := by simp; omega
          have HD : Hid (pad (m' + 1) v = decs v) := pad_decs m' v HVM.out (by
            rcases Nat.lt_or_ge v (10 ^ m') with h3 | h3
            · exact absurd (by rw [HCH.out, Nat.div_eq_of_lt h3]) hch
            · exact h3)
          have hl : (pad (m' + 1) v).length = T - q := by rw [pad_length]; have := HQM.out; omega
          have hcv := run_convert_bytes_back (P := Try.prog) wr 81 9 5 ⟨gt, q, none⟩ (T - q) (pad (m' + 1) v) Try.underlying81 Try.underlying5 Try.underlying9 (fun j hj => by rw [Addr.add_lit]; exact pad_cells hR HTP.out HQM.out hmk (by rw [pad_length] at hj; exact hj))
          rw [hl, HD.out] at hcv
          clear hl
          go_wp2
          go_ret
          exact ⟨rfl, hB⟩
    · have hk10 : k < 10 * n := by
        have h3 := HI.2.2.1
        rcases Nat.lt_or_ge v (10 ^ k) with h4 | h4
        · rw [Nat.div_eq_of_lt h4] at h3; exact absurd h3 hV
        · rcases ten_pow_lt hvn k h4 with h5 | h5
          · exact h5
          · exact absurd h5 hv
      have hp9 : 9 ≤ p := by have := HI.2.2.2.1; have := HT.out; omega
      have ht0 : 0 < t := by rw [← HI.2.1]; exact digs_pos_len hV
      have ht1 : t ≤ 1000000 := by
        rw [← HI.2.1]
        have h3 : V ≤ v := by rw [HI.2.2.1]; exact Nat.div_le_self _ _
        have h4 := digs_length_le (n := V) (k := n) (by omega)
        omega
      obtain ⟨U, HU⟩ : ∃ U, Hid (U = V % 1000000000) := ⟨_, rfl⟩
      have hU : U < 1000000000 := by rw [HU.out]; omega
      have r1 := HI.1
      have r2 := Lib.hid HI.2.1
      go_wp2_with (first
        | (go_at_call 87; (with_reducible refine (divSmall_e9 g t c2 V _ r1 r2.out ht1).mono ?_); rw [← HU.out]; rintro e w2 ⟨qs, rfl, hr2, hq2, hq3, hq4, ho2⟩; have hd2 := hr2.dgs hq3; rw [hq2] at hd2)
        | (go_at_call 69; (with_reducible refine (trim_ret _ _ _ _ _ _ hd2 htc hcm).mono ?_); rw [hq4]; rintro e w3 ⟨t3, rfl, hd3, ht3, rfl⟩))
      have HJ : DecJ w w2 g gt T p k v (digs (V / 1000000000)) ∧ (digs (V / 1000000000)).length = t3 := by
        obtain ⟨h1, h2, h3, h4, h5, h6, h7, h8, h9⟩ := HI
        have e := take_trimLen hq3
        rw [hq4] at e
        refine ⟨⟨?_, h4, h5.of_block (ho2.block gt (Ne.symm h9)), h6.trans (ho2.below h7)⟩, hd3.len⟩
        rw [← e]
        exact hr2.take _
      clear hd2 hd3 hr2 hq4 hq3 hq2 ho2
      have hng : g ≠ gt := HI.2.2.2.2.2.2.2.2
      have hwg : w.heap.size ≤ gt := HI.2.2.2.2.2.2.2.1
      have hwg' : w.heap.size ≤ g := HI.2.2.2.2.2.2.1
      have HVD := Lib.hid HI.2.2.1
      have HPT := Lib.hid HI.2.2.2.1
      have HT3 := Lib.hid HJ.2
      have HJ1 := HJ.1
      clear HI HJ r1 r2
      go_loopw [5, 6, 24] (fun a uv iv wi => ∃ (i q u : Nat), i ≤ 9 ∧ q + i = p ∧ a = .int .i64 q ∧ uv = .int .u32 u ∧ iv = .int .i64 i ∧ u = U / 10 ^ i ∧ DecJ w wi g gt T q (k + i) v (digs (V / 1000000000))) (fun _ _ iv _ => 9 - (intOf iv).toNat)
      case atStart => exact ⟨0, p, U, Nat.zero_le _, rfl, rfl, rfl, rfl, by simp, HJ1⟩
      case round =>
        clear HJ1
        obtain ⟨i, q, u, hi, hqi, rfl, rfl, rfl, hu, HK⟩ := hrel
        have HQI := Lib.hid hqi
        have HUU := Lib.hid hu
        have hub : u < 1000000000 := by rw [hu]; exact Nat.lt_of_le_of_lt (Nat.div_le_self _ _) hU
        by_cases hi9 : i < 9
        · obtain ⟨q', rfl⟩ : ∃ q', q = q' + 1 := ⟨q - 1, by omega⟩
          have hqT : q' < T := by omega
          clear hqi hu
          obtain ⟨x0, hst⟩ : ∃ x, wr.cell? ⟨gt, q', none⟩ = some x := ⟨_, HK.2.2.1.cell (j := q') (by rw [List.length_append, List.length_replicate]; omega)⟩
          have hfr := HK.2.2.1.frozen q'
          have i0 : (0 : Int) ≤ (q' : Int) := by omega
          have i1 : (q' : Int) < (T : Int) := by omega
          have HD : Hid (u % 10 = v / 10 ^ (k + i) % 10) := by
            unfold Hid
            rw [HUU.out, HU.out, digit_of V i hi9, HVD.out, Nat.div_div_eq_div_mul, ← Nat.pow_add]
          go_wp2
          go_roundw
          case rel => exact ⟨i + 1, q', u / 10, by omega, by have := HQI.out; omega, rfl, int_val (by omega), by go_num, by rw [HUU.out, Nat.div_div_eq_div_mul, ← Nat.pow_succ], decJ_step HK hwg hng HD.out (by omega)⟩
          case measure => simp [intOf]; omega
        · obtain rfl : i = 9 := by omega
          clear hu hqi
          go_wp2
          go_roundw
          case rel =>
            obtain ⟨h1, h2, h3, h4⟩ := HK
            exact ⟨q, k + 9, t3, t3, V / 1000000000, rfl, rfl, Nat.le_refl _, by omega, h1, HT3.out, by rw [HVD.out, Nat.div_div_eq_div_mul, Nat.pow_add], h2, h3, h4, hwg', hwg, hng⟩
          case measure => simp [intOf]; have := HQI.out; omega

theorem decs_small {v : Nat} (h : v < 10) : decs v = [dch v] := by rw [decs, dif_pos h]
/-- The decimal notation of an integer. -/
def decZ (z : Int) : List UInt8 := if z < 0 then 45 :: decs z.natAbs else decs z.natAbs

theorem decs_len (k : Nat) : ∀ v, v < 10 ^ (k + 1) → (decs v).length ≤ k + 1 := by
  induction k with
  | zero => intro v hv; rw [decs_small (by simpa using hv)]; simp
  | succ k ih =>
    intro v hv
    rw [decs]
    split
    · simp
    · rw [List.length_append]
      have := ih (v / 10) (by rw [Nat.div_lt_iff_lt_mul (by omega), ← Nat.pow_succ]; exact hv)
      simp; omega
theorem decs_len' {v n : Nat} (h : v < BB ^ n) : (decs v).length ≤ 10 * n + 1 := by
  apply decs_len
  have h2 : BB ^ n ≤ (10 ^ 10) ^ n := Nat.pow_le_pow_left (by rw [BB_eq]; decide) n
  rw [← Nat.pow_mul] at h2
  have : 10 ^ (10 * n) ≤ 10 ^ (10 * n + 1) := Nat.pow_le_pow_right (by omega) (by omega)
  omega
theorem str_cons (l : List UInt8) : (({ data := #[45] } : ByteArray) ++ { data := l.toArray }) = { data := (45 :: l).toArray } := by
  apply ByteArray.ext
  simp [ByteArray.data_append]

set_option maxHeartbeats 1000000 in
set_option maxRecDepth 100000 in
theorem format_any (neg : Bool) (A : Option Addr) (n c : Nat) (ds : List Nat) (w : World) (h : Dgs w w.heap.size A n ds) (hc : n ≤ c) (hm : c ≤ maxLen) (hs : n ≤ 100000) :
    Calls Try.prog 42 #[.agg #[.bool neg, .slice A n c]] w (RetS w (decZ (zOf neg (val ds)))) := by
  have hcan := fun w' h' => canonical_any neg A n c ds w' h' hc hm
  have hsz : (digs (zOf neg (val ds)).natAbs).length ≤ 100000 := by
    rw [zOf_natAbs]
    have h1 : val ds < BB ^ n := by rw [← h.len]; exact val_lt h.dig
    have := digs_length_le h1
    omega
  generalize zOf neg (val ds) = z at hcan hsz ⊢
  obtain ⟨M, HM⟩ : ∃ M, Hid (M = z.natAbs) := ⟨_, rfl⟩
  rw [← HM.out] at hsz
  by_cases hz0 : z = 0
  · have HD : Hid (decZ z = [48]) := by
      unfold Hid decZ
      rw [hz0]
      rw [if_neg (by omega)]
      exact decs_small (by decide)
    have hM0 : (digs M).length = 0 := by rw [HM.out, hz0]; simp [digs_zero]
    have HL := Lib.hid hM0
    clear hz0 hM0
    go_enter Try.func42, Try.ntmps42
    go_wp2_with (go_at_call 35; refine (hcan _ ((h.alloc (Nat.le_refl _) _).more (by simp))).mono ?_; rintro e w2 ⟨A2, n2, c2, rfl, hd2, hn2, hc2, hb2⟩; have O2 := (Own.new _ _ _ _).below hb2; obtain ⟨q0, q1, q2, q3⟩ := O2.facts; rw [← HM.out] at hd2; obtain rfl : n2 = 0 := hd2.len.symm.trans HL.out)
    go_ret
    rw [HD.out]
    exact ⟨rfl, ((bcall (bnew _ _) hb2).setCell (Nat.le_refl _) _).setCell (Nat.le_refl _) _⟩
  · have hMn : M ≠ 0 := by rw [HM.out]; omega
    have HLP := Lib.hid (digs_pos_len hMn)
    by_cases hz : z < 0
    · have HD : Hid (decZ z = 45 :: decs M) := by unfold Hid decZ; rw [if_pos hz, HM.out]
      have e2 : decide (z < 0) = true := decide_eq_true hz
      have hlen : 1 + (decs M).length ≤ 9223372036854775807 := by
        have h1 := decs_len' (lt_pow_digs M)
        omega
      clear hz0
      go_enter Try.func42, Try.ntmps42
      go_wp2_with (first
        | (go_at_call 35; refine (hcan _ ((h.alloc (Nat.le_refl _) _).more (by simp))).mono ?_; rintro e w2 ⟨A2, n2, c2, rfl, hd2, hn2, hc2, hb2⟩; have O2 := (Own.new _ _ _ _).below hb2; obtain ⟨q0, q1, q2, q3⟩ := O2.facts; rw [← HM.out] at hd2; have hn20 : 0 < n2 := Nat.lt_of_lt_of_eq HLP.out hd2.len; have hs2 : n2 ≤ 100000 := Nat.le_trans (Nat.le_of_eq hd2.len.symm) hsz; have hd3 := hd2.storeS O2 (.bool true) (.slice A2 n2 c2); have hnz : ((n2 : Int) == 0) = false := by (simp; omega))
        | (go_at_call 71; (with_reducible refine (toDecimal_any A2 n2 c2 M _ hd3 hn2 hc2 hs2 hMn).mono ?_); rintro e w3 ⟨rfl, hb3⟩; have O3 := (O2.set2 (.bool true) (.slice A2 n2 c2)).below hb3; obtain ⟨r0, r1, r2, r3⟩ := O3.facts))
      go_ret
      rw [HD.out]
      exact ⟨congrArg (fun s => Ending.returned (.string s)) (str_cons _), bcall (((bcall (bnew _ _) hb2).setCell (Nat.le_refl _) _).setCell (Nat.le_refl _) _) hb3⟩
    · have HD : Hid (decZ z = decs M) := by unfold Hid decZ; rw [if_neg hz, HM.out]
      have e2 : decide (z < 0) = false := decide_eq_false hz
      clear hz0
      go_enter Try.func42, Try.ntmps42
      go_wp2_with (first
        | (go_at_call 35; refine (hcan _ ((h.alloc (Nat.le_refl _) _).more (by simp))).mono ?_; rintro e w2 ⟨A2, n2, c2, rfl, hd2, hn2, hc2, hb2⟩; have O2 := (Own.new _ _ _ _).below hb2; obtain ⟨q0, q1, q2, q3⟩ := O2.facts; rw [← HM.out] at hd2; have hn20 : 0 < n2 := Nat.lt_of_lt_of_eq HLP.out hd2.len; have hs2 : n2 ≤ 100000 := Nat.le_trans (Nat.le_of_eq hd2.len.symm) hsz; have hd3 := hd2.storeS O2 (.bool false) (.slice A2 n2 c2); have hnz : ((n2 : Int) == 0) = false := by (simp; omega))
        | (go_at_call 71; (with_reducible refine (toDecimal_any A2 n2 c2 M _ hd3 hn2 hc2 hs2 hMn).mono ?_); rintro e w3 ⟨rfl, hb3⟩; have O3 := (O2.set2 (.bool false) (.slice A2 n2 c2)).below hb3; obtain ⟨r0, r1, r2, r3⟩ := O3.facts))
      go_ret
      rw [HD.out]
      exact ⟨rfl, bcall (((bcall (bnew _ _) hb2).setCell (Nat.le_refl _) _).setCell (Nat.le_refl _) _) hb3⟩

/-- The sum of the first lengths. -/
def sumN (N : Nat → Nat) : Nat → Nat
  | 0 => 0
  | k + 1 => sumN N k + N k
theorem sumN_le {N : Nat → Nat} {l : Nat} (h : ∀ i, i < l → N i ≤ 140737488351232) : ∀ k, k ≤ l → sumN N k ≤ k * 140737488351232
  | 0, _ => by simp [sumN]
  | k + 1, hk => by
    have h1 := sumN_le h k (by omega)
    have h2 := h k (by omega)
    simp only [sumN]
    omega

set_option maxRecDepth 100000 in
theorem light_any (g l c : Nat) (A : Nat → Option Addr) (N C : Nat → Nat) (w : World) (hl : l ≤ 100) (hN : ∀ i, i < l → N i ≤ 140737488351232)
    (hc : ∀ i, i < l → w.cell? ⟨g, i * 2 + 1, none⟩ = some (.slice (A i) (N i) (C i))) :
    Calls Try.prog 17 #[.slice (some ⟨g, 0, none⟩) l c] w fun e w' => e = .returned (.bool (decide (sumN N l ≤ 60))) ∧ w = w' := by
  go_enter Try.func17, Try.ntmps17
  go_wp2
  go_loop [3, 4] (fun s i => ∃ k : Nat, k ≤ l ∧ i = .int .i64 k ∧ s = .int .i64 (sumN N k)) (fun _ i => l - (intOf i).toNat)
  case atStart => exact ⟨0, Nat.zero_le _, rfl, rfl⟩
  case round =>
    obtain ⟨k, hk, rfl, rfl⟩ := hrel
    have hb := sumN_le hN k hk
    have hb2 : sumN N k ≤ 14073748835123200 := by omega
    clear hb
    by_cases hkl : k < l
    · have hx := hc k hkl
      have hn := hN k hkl
      have i0 : (0 : Int) ≤ (k : Int) := by omega
      have i1 : (k : Int) < (l : Int) := by omega
      go_wp2
      go_round
      case rel => exact ⟨k + 1, by omega, by go_num, int_val (by simp [sumN])⟩
      case measure => simp [intOf]; omega
    · obtain rfl : k = l := by omega
      go_wp2
      go_ret
      exact ⟨congrArg (fun b => Ending.returned (.bool b)) (show decide ((sumN N k : Int) ≤ 60) = decide (sumN N k ≤ 60) from decide_eq_decide.2 (by omega)), rfl⟩

theorem dm72 : dmQ (-7) 2 = -4 ∧ dmR (-7) 2 = 1 ∧ dmE 2 = 0 := by decide
theorem fmt4 : decZ (-4) = [45, 52] := by unfold decZ; rw [if_pos (by decide), decs_small (by decide)]; rfl
theorem fmt1 : decZ 1 = [49] := by unfold decZ; rw [if_neg (by decide), decs_small (by decide)]; rfl
theorem digs_small {v : Nat} (h : v < 4294967296) : (digs v).length ≤ 1000 := Nat.le_trans (digs_length_le (k := 1) (by rw [Nat.pow_one, BB_eq]; exact h)) (by decide)

/-- True is handed back; what was there is as it was. -/
def RetT1 (w : World) (e : Ending) (w' : World) : Prop := e = .returned (.bool true) ∧ Below w.heap.size w w'

theorem div72 (A A' : Option Addr) (n n' c c' : Nat) (w : World) (h : Dgs w w.heap.size A n (digs 7)) (h' : Dgs w w.heap.size A' n' (digs 2)) (hc : n ≤ c) (hm : c ≤ maxLen) (hc' : n' ≤ c') (hm' : c' ≤ maxLen) :
    Calls Try.prog 47 #[.agg #[.bool true, .slice A n c], .agg #[.bool false, .slice A' n' c']] w (RetM w (-4) 1 0) := by
  have := divMod_any true false A A' n n' c c' (digs 7) (digs 2) w h h' hc hm hc' hm' (by rw [← h.len]; exact Nat.le_trans (digs_small (by decide)) (by decide)) (by rw [← h'.len]; exact Nat.le_trans (digs_small (by decide)) (by decide)) (longOk_small (by rw [val_digs]; decide))
  rw [val_digs, val_digs] at this
  have e1 : zOf true 7 = -7 := rfl
  have e2 : zOf false 2 = 2 := rfl
  rw [e1, e2, dm72.1, dm72.2.1, dm72.2.2] at this
  exact this

theorem fmtA (A : Option Addr) (n c : Nat) (w : World) (h : Dgs w w.heap.size A n (digs (-4 : Int).natAbs)) (hc : n ≤ c) (hm : c ≤ maxLen) :
    Calls Try.prog 42 #[.agg #[.bool true, .slice A n c]] w (RetS w [45, 52]) := by
  have := format_any true A n c (digs 4) w h hc hm (by rw [← h.len]; exact Nat.le_trans (digs_small (by decide)) (by decide))
  rw [val_digs] at this
  have e1 : zOf true 4 = -4 := rfl
  rw [e1, fmt4] at this
  exact this
theorem fmtB (A : Option Addr) (n c : Nat) (w : World) (h : Dgs w w.heap.size A n (digs (1 : Int).natAbs)) (hc : n ≤ c) (hm : c ≤ maxLen) :
    Calls Try.prog 42 #[.agg #[.bool false, .slice A n c]] w (RetS w [49]) := by
  have := format_any false A n c (digs 1) w h hc hm (by rw [← h.len]; exact Nat.le_trans (digs_small (by decide)) (by decide))
  rw [val_digs] at this
  have e1 : zOf false 1 = 1 := rfl
  rw [e1, fmt1] at this
  exact this

open Go.ChangeShapes Go.WideShapes Go.ChangeAt Go.RowKit Go.Joins
open Go.ChangeMaps (open_string shut_string)

theorem own_knob : ownKnob Try.prog.godebug = none := by kernel_rfl
theorem laid_out : laidOutB Try.prog = true := by kernel_rfl
theorem cells_int : Try.prog.cellsOf 24 = 2 := by kernel_rfl
theorem bytes_u32 : Try.prog.bytesOf 69 = 4 := by kernel_rfl

theorem u32_wf {n : Int} (h : (Lit.int .u32 n).wf = true) : 0 ≤ n ∧ n ≤ 4294967295 := by
  simpa [Lit.wf, IntKind.min, IntKind.max, IntKind.signed, IntKind.bits] using h

set_option maxRecDepth 100000 in
theorem open_api {H : Type} {enc : TypeId × Value → H} {W : World} {base : Nat} {v : Value} {d : DataW H} {p : List MemPlace} (hv : Value.okWide Try.prog W .any base 24 v) (h : DataW.Trod enc Try.prog W 0 (fun _ => true) true 24 v d p)
    (hw : ∀ m ∈ d.weights Try.prog 24, m ≤ reachBytes) :
    ∃ neg A n c da, v = .agg #[.bool neg, .slice A n c] ∧ Dgs W W.heap.size A n da ∧ n ≤ c ∧ c ≤ maxLen ∧ n ≤ 140737488351232 := by
  obtain ⟨c0, c1, y0, y1, m, rfl, rfl, rfl, hy0, hy1⟩ := open_agg2 Try.underlying24 (by kernel_rfl) cells_int hv h
  obtain ⟨b, e0, rfl⟩ := DataW.trod_bool Try.underlying4 hy0
  simp only [List.cons.injEq, and_true] at e0
  subst e0
  rcases open_ints Try.underlying22 Try.underlying69 (by kernel_rfl) hy1 with ⟨hcs, _⟩ | ⟨a, len, cap, zs, hcs, _, hl, hm, hz, hx, hcell, hwz⟩
  · simp only [List.cons.injEq, and_true] at hcs
    subst hcs
    exact ⟨b, none, 0, 0, [], rfl, Dgs.none_, Nat.le_refl _, Nat.zero_le _, Nat.zero_le _⟩
  · simp only [List.cons.injEq, and_true] at hcs
    subst hcs hx
    simp only [if_true] at hz
    have hb : (zs.take len).length + (zs.drop len).length = cap := by rw [← hz, ← List.length_append, List.take_append_drop]
    have hbound : cap * 4 ≤ reachBytes := by
      have h1 := hw (((lits .u32 (zs.take len) : List (DataW H)).length + (lits .u32 (zs.drop len) : List (DataW H)).length) * Try.prog.bytesOf 69) (by
        simp [DataW.weights, DataW.weightsEach, Try.underlying24, Try.underlying22])
      simpa only [lits, List.length_map, hb, bytes_u32] using h1
    have hcap : cap ≤ 35184372087808 := by unfold reachBytes at hbound; omega
    refine ⟨b, some a, len, cap, (zs.take len).map Int.toNat, rfl, ⟨by simp; omega, ?_, fun hn => ?_⟩, hl, hm, by omega⟩
    · intro x hx
      obtain ⟨z, hz1, rfl⟩ := List.mem_map.1 hx
      have := u32_wf (hwz z (List.mem_of_mem_take hz1))
      rw [BB_eq]; omega
    · obtain ⟨bb, off, spot⟩ := a
      have hc0 := hcell 0 (by omega)
      have hspot : spot = none := by simpa [Addr.add] using World.cell?_spot hc0
      subst hspot
      refine ⟨bb, off, rfl, ?_, fun j hj => ?_⟩
      · have := World.block_lt_of_cell? _ _ hc0
        simpa [Addr.add] using this
      · have h2 := hcell j (by omega)
        rw [Addr.add_lit] at h2
        rw [h2]
        have h3 : zs.getD j 0 = ((((zs.take len).map Int.toNat).getD j 0 : Nat) : Int) := by
          have hj2 : j < zs.length := by omega
          simp only [List.getD, List.getElem?_map, List.getElem?_take, if_pos hj, List.getElem?_eq_getElem hj2, Option.map_some, Option.getD_some]
          exact (Int.toNat_of_nonneg (u32_wf (hwz _ (List.getElem_mem hj2))).1).symm
        rw [h3]
end Go.Proofs.Ytgjkgmlcfieodaa

