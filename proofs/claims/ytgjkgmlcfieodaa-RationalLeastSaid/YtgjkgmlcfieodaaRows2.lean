/-
  Canonical integers, by the program and by the reference; the reference's integers from machine numbers.
  Equality of integers, field by field.
  Machine numbers from integers, by the program and by the reference.
  A row of digits that the call itself has made and writes into.
-/
import Derived.Test.YtgjkgmlcfieodaaBase
import Derived.Laws.BitsAllLaws
set_option linter.unusedVariables false
set_option linter.unusedSimpArgs false
namespace Go.Proofs.Ytgjkgmlcfieodaa
open Go.RowKit

set_option maxRecDepth 100000 in
theorem canonical_any (neg : Bool) (A : Option Addr) (n c : Nat) (ds : List Nat) (w : World) (h : Dgs w w.heap.size A n ds) (hc : n ≤ c) (hm : c ≤ maxLen) :
    Calls Try.prog 35 #[.agg #[.bool neg, .slice A n c]] w (RetZ w (zOf neg (val ds))) := by
  go_enter Try.func35, Try.ntmps35
  go_wp2_with (go_at_call 37; refine (newInt_any _ _ _ _ _ _ (((h.alloc (Nat.le_refl _) _).alloc (by simp) _).more (by simp; omega)) hc hm).mono ?_; rintro e w2 ⟨A2, n2, c2, rfl, hd2, hn2, hc2, hb2⟩; have O2 := (Own.new _ _ _ _).below hb2; obtain ⟨q0, q1, q2, q3⟩ := O2.facts; simp only [World.size_alloc] at q0 q1 q2 q3)
  refine bodyPost_ret (v := .agg #[.bool (decide (zOf neg (val ds) < 0)), .slice A2 n2 c2]) (by simp [results, Try.results35, go_sem, q0, q1, q2, q3]) rfl ?_
  simp only [World.size_alloc] at O2
  exact RetZ.store_ O2 (by omega) rfl hd2 hn2 hc2 (bcall (bnew2 _ _ _) hb2) _ _

set_option maxRecDepth 100000 in
theorem canon_any (neg : Bool) (A : Option Addr) (n c : Nat) (ds : List Nat) (w : World) (h : Dgs w w.heap.size A n ds) (hc : n ≤ c) (hm : c ≤ maxLen) (hs : n ≤ 1000000) :
    Calls Try.prog 51 #[.agg #[.bool neg, .slice A n c]] w (RetZ w (zOf neg (val ds))) := by
  go_enter Try.func51, Try.ntmps51
  go_wp2_with (go_at_call 78; refine (make_any _ _ _ _ _ _ (((h.alloc (Nat.le_refl _) _).alloc (by simp) _).more (by simp; omega)) hc hm hs).mono ?_; rintro e w2 ⟨A2, n2, c2, rfl, hd2, hn2, hc2, hb2⟩; have O2 := (Own.new _ _ _ _).below hb2; obtain ⟨q0, q1, q2, q3⟩ := O2.facts; simp only [World.size_alloc] at q0 q1 q2 q3)
  refine bodyPost_ret (v := .agg #[.bool (decide (zOf neg (val ds) < 0)), .slice A2 n2 c2]) (by simp [results, Try.results51, go_sem, q0, q1, q2, q3]) rfl ?_
  simp only [World.size_alloc] at O2
  exact RetZ.store_ O2 (by omega) rfl hd2 hn2 hc2 (bcall (bnew2 _ _ _) hb2) _ _

set_option maxRecDepth 100000 in
theorem rfromInt64_any (n : Int) (h1 : -9223372036854775808 ≤ n) (h2 : n ≤ 9223372036854775807) (w : World) :
    Calls Try.prog 60 #[.int .i64 n] w (RetZ w n) := by
  by_cases hn : n < 0
  · obtain ⟨m, rfl⟩ : ∃ m : Nat, n = -(m : Int) := ⟨n.natAbs, by omega⟩
    have e1 := neg_wrap m (by omega)
    have hm0 : ¬ (0 ≤ -(m : Int)) := by omega
    have hd := fun w : World => dgs_two w (m % 4294967296 : Int) (m / 4294967296 : Int) (m % BB) (m / BB) (by rw [BB_eq]; omega) (by rw [BB_eq]; omega) (Nat.mod_lt _ BB_pos) (by rw [BB_eq]; omega)
    go_enter Try.func60, Try.ntmps60
    go_wp2_with (go_at_call 78; refine (make_any _ _ _ _ _ _ (by have := hd (w.alloc (.cells #[.bool false, .slice none 0 0] 24)); simpa using this) (Nat.le_refl _) (by unfold maxLen; omega) (by omega)).mono ?_; rintro e w2 ⟨A2, n2, c2, rfl, hd2, hn2, hc2, hb2⟩; have O2 := ((Own.new w 24 (.bool false) (.slice none 0 0)).alloc _).below hb2; obtain ⟨q0, q1, q2, q3⟩ := O2.facts)
    rw [val_two, zOf_true] at hd2
    refine bodyPost_ret (v := .agg #[.bool (decide (-(m : Int) < 0)), .slice A2 n2 c2]) (by simp [results, Try.results60, go_sem, q0, q1, q2, q3, val_two, zOf_true]) rfl
      (RetZ.store_ O2 (Nat.le_refl _) rfl hd2 hn2 hc2 (bcall (bnew2 _ _ _) hb2) _ _)
  · obtain ⟨m, rfl⟩ : ∃ m : Nat, n = (m : Int) := ⟨n.natAbs, by omega⟩
    have hd := fun w : World => dgs_two w (m % 4294967296 : Int) (m / 4294967296 : Int) (m % BB) (m / BB) (by rw [BB_eq]; omega) (by rw [BB_eq]; omega) (Nat.mod_lt _ BB_pos) (by rw [BB_eq]; omega)
    go_enter Try.func60, Try.ntmps60
    go_wp2_with (go_at_call 78; refine (make_any _ _ _ _ _ _ (by have := hd (w.alloc (.cells #[.bool false, .slice none 0 0] 24)); simpa using this) (Nat.le_refl _) (by unfold maxLen; omega) (by omega)).mono ?_; rintro e w2 ⟨A2, n2, c2, rfl, hd2, hn2, hc2, hb2⟩; have O2 := ((Own.new w 24 (.bool false) (.slice none 0 0)).alloc _).below hb2; obtain ⟨q0, q1, q2, q3⟩ := O2.facts)
    rw [val_two, zOf_false] at hd2
    refine bodyPost_ret (v := .agg #[.bool (decide ((m : Int) < 0)), .slice A2 n2 c2]) (by simp [results, Try.results60, go_sem, q0, q1, q2, q3, val_two, zOf_false]) rfl
      (RetZ.store_ O2 (Nat.le_refl _) rfl hd2 hn2 hc2 (bcall (bnew2 _ _ _) hb2) _ _)

/-- Equal in every field. -/
def sameB (neg neg' : Bool) (ds ds' : List Nat) : Bool := decide (neg = neg' ∧ ds = ds')

theorem take_eq_snoc {ds ds' : List Nat} {k : Nat} (h : ds.take k = ds'.take k) (hk : k < ds.length) (hk' : k < ds'.length) (he : ds.getD k 0 = ds'.getD k 0) : ds.take (k + 1) = ds'.take (k + 1) := by
  rw [take_snoc hk, take_snoc hk', h, he]

theorem sameB_true {neg : Bool} {ds ds' : List Nat} (h : ds = ds') : true = sameB neg neg ds ds' := by simp [sameB, h]
theorem sameB_false {neg neg' : Bool} {ds ds' : List Nat} (h : neg ≠ neg' ∨ ds ≠ ds') : false = sameB neg neg' ds ds' := by
  rcases h with h | h <;> simp [sameB, h]
theorem ret_bool {a b : Bool} (h : a = b) : Ending.returned (.bool a) = .returned (.bool b) := by rw [h]

/-- What holds in every round. -/
def SameI (w wr : World) (neg : Bool) (A A' : Option Addr) (n c c' : Nat) (ds ds' : List Nat) : Prop :=
  Own wr w.heap.size 24 (.bool neg) (.slice A n c) ∧ Own wr (w.heap.size + 1) 24 (.bool neg) (.slice A' n c') ∧ Dgs wr w.heap.size A n ds ∧ Dgs wr w.heap.size A' n ds' ∧ Below w.heap.size w wr

theorem SameI.drewN {w wr : World} {neg : Bool} {A A' : Option Addr} {n c c' : Nat} {ds ds' : List Nat} (h : SameI w wr neg A A' n c c' ds ds') (k : Nat) : SameI w (wr.drewN k) neg A A' n c c' ds ds' := by
  obtain ⟨h1, h2, h3, h4, h5⟩ := h
  exact ⟨h1, h2, h3, h4, ⟨h5.os, h5.tape, h5.output, h5.size, h5.block⟩⟩

set_option maxRecDepth 100000 in
theorem sameInt_any (neg neg' : Bool) (A A' : Option Addr) (n n' c c' : Nat) (ds ds' : List Nat) (w : World) (h : Dgs w w.heap.size A n ds) (h' : Dgs w w.heap.size A' n' ds') (hc : n ≤ c) (hm : c ≤ maxLen) (hc' : n' ≤ c') (hm' : c' ≤ maxLen) :
    Calls Try.prog 65 #[.agg #[.bool neg, .slice A n c], .agg #[.bool neg', .slice A' n' c']] w fun e w' => e = .returned (.bool (sameB neg neg' ds ds')) ∧ Below w.heap.size w w' := by
  unfold maxLen at hm hm'
  by_cases hneg : neg = neg'
  · subst hneg
    by_cases hlen : n = n'
    · subst hlen
      have H0 : SameI w ((w.alloc (.cells #[.bool neg, .slice A n c] 24)).alloc (.cells #[.bool neg, .slice A' n c'] 24)) neg A A' n c c' ds ds' :=
        ⟨(Own.new _ _ _ _).alloc _, by have := Own.new (w.alloc (.cells #[.bool neg, .slice A n c] 24)) 24 (.bool neg) (.slice A' n c'); simpa using this,
          (h.alloc (Nat.le_refl _) _).alloc (by simp) _, (h'.alloc (Nat.le_refl _) _).alloc (by simp) _, bnew2 _ _ _⟩
      have HL := Lib.hid h.len
      have HL' := Lib.hid h'.len
      clear h h'
      go_enter Try.func65, Try.ntmps65
      go_wp2
      go_loopw [5] (fun i wr => ∃ k : Nat, k ≤ n ∧ i = .int .i64 k ∧ ds.take k = ds'.take k ∧ SameI w wr neg A A' n c c' ds ds') (fun i _ => n - (intOf i).toNat)
      case atStart => exact ⟨0, Nat.zero_le _, rfl, rfl, H0⟩
      case round =>
        clear H0
        obtain ⟨k, hk, rfl, ht, HI⟩ := hrel
        have HT := Lib.hid ht; clear ht
        obtain ⟨o1, o2, d1, d2, hB⟩ := HI
        have HI : SameI w wr neg A A' n c c' ds ds' := ⟨o1, o2, d1, d2, hB⟩
        obtain ⟨p0, p1, p2, p3⟩ := o1.facts
        obtain ⟨q0, q1, q2, q3⟩ := o2.facts
        clear o1 o2 p2 p3 q2 q3
        by_cases hkn : k < n
        · obtain ⟨b, off, rfl, _, hcell⟩ := d1.at_ (by omega)
          obtain ⟨b', off', rfl, _, hcell'⟩ := d2.at_ (by omega)
          have hx := hcell k hkn
          have hy := hcell' k hkn
          clear hcell hcell' d1 d2
          obtain ⟨x, HX⟩ : ∃ x, Hid (x = ds.getD k 0) := ⟨_, rfl⟩
          obtain ⟨y, HY⟩ : ∃ y, Hid (y = ds'.getD k 0) := ⟨_, rfl⟩
          rw [← HX.out] at hx
          rw [← HY.out] at hy
          have i0 : (0 : Int) ≤ (k : Int) := by omega
          have i1 : (k : Int) < (n : Int) := by omega
          by_cases hxy : x = y
          · subst hxy
            go_wp2
            go_quiet (fail)
            go_wp2
            go_roundw
            case rel => exact ⟨k + 1, by omega, by go_num, take_eq_snoc HT.out (by rw [HL.out]; exact hkn) (by rw [HL'.out]; exact hkn) (by rw [← HX.out, ← HY.out]), HI.drewN _⟩
            case measure => simp [intOf]; omega
          · have HXY := Lib.hid hxy
            go_wp2
            go_quiet (fail)
            go_wp2
            go_ret
            exact ⟨ret_bool (sameB_false (Or.inr fun e => HXY.out (by rw [HX.out, HY.out, e]))), (HI.drewN _).2.2.2.2⟩
        · go_wp2
          go_ret
          have := HL.out
          have := HL'.out
          have e : ds = ds' := by
            have := HT.out
            rwa [List.take_of_length_le (by omega), List.take_of_length_le (by omega)] at this
          exact ⟨ret_bool (sameB_true e), hB⟩
    · have e := @sameB_false neg neg ds ds' (Or.inr (fun e => hlen (by rw [← h.len, ← h'.len, e])))
      have E := Lib.hid e
      clear e
      go_enter Try.func65, Try.ntmps65
      go_wp2
      go_ret
      exact ⟨ret_bool E.out, bnew2 _ _ _⟩
  · have E := Lib.hid (@sameB_false neg neg' ds ds' (Or.inl hneg))
    go_enter Try.func65, Try.ntmps65
    go_wp2
    go_ret
    exact ⟨ret_bool E.out, bnew2 _ _ _⟩

set_option maxRecDepth 100000 in
theorem digit_any (A : Option Addr) (n c B : Nat) (ds : List Nat) (i : Nat) (w : World) (h : Dgs w B A n ds) (hc : n ≤ c) (hm : c ≤ maxLen) (hi : i ≤ maxLen) :
    Calls Try.prog 106 #[.slice A n c, .int .i64 i] w fun e w' => e = .returned (.int .u64 (ds.getD i 0 : Nat)) ∧ w = w' := by
  unfold maxLen at hm hi
  by_cases hin : i < n
  · obtain ⟨b, off, rfl, _, hcell⟩ := h.at_ (by omega)
    have hx := hcell i hin
    have hlt := h.dig.getD i
    rw [BB_eq] at hlt
    clear hcell h
    obtain ⟨x, HX⟩ : ∃ x, Hid (x = ds.getD i 0) := ⟨_, rfl⟩
    rw [← HX.out] at hx hlt ⊢
    have i0 : (0 : Int) ≤ (i : Int) := by omega
    have i1 : (i : Int) < (n : Int) := by omega
    go_enter Try.func106, Try.ntmps106
    go_wp2
    go_ret
    exact ⟨rfl, rfl⟩
  · have e : ds.getD i 0 = 0 := by have := h.len; simp [List.getD, show ds.length ≤ i by omega]
    rw [e]
    clear e
    go_enter Try.func106, Try.ntmps106
    go_wp2
    go_ret
    exact ⟨rfl, rfl⟩

theorem u64_in' (n : Nat) (h : n < 18446744073709551616) : IntKind.u64.wrap (n : Int) = (n : Int) := IntWalk.u64_in _ (by omega)

/-- The upper and the lower half of a word. -/
theorem or_halves (hi lo : Nat) (h1 : hi < 4294967296) (h2 : lo < 4294967296) : bits .or .u64 ((hi * 4294967296 : Nat) : Int) (lo : Int) = ((hi * 4294967296 + lo : Nat) : Int) := by
  rw [u64_or_nat _ _ (by omega) (by omega), nat_join 32 _ _ (by omega) (by omega)]
theorem or_halves' (hi lo : Nat) (h1 : hi < 4294967296) (h2 : lo < 4294967296) : bits .or .u64 (lo : Int) ((hi * 4294967296 : Nat) : Int) = ((hi * 4294967296 + lo : Nat) : Int) := by
  rw [u64_or_nat _ _ (by omega) (by omega), Nat.or_comm, nat_join 32 _ _ (by omega) (by omega)]

theorem word_step (v x k : Nat) (hk : k < 2) (hv : v < BB ^ k) (hx : x < 4294967296) :
    bits .or .u64 (v : Int) (IntKind.u64.wrap (IntKind.u64.wrap (x : Int) * 2 ^ (32 * k))) = ((v + BB ^ k * x : Nat) : Int) := by
  rw [u64_in' x (by omega)]
  match k, hk with
  | 0, _ =>
    simp at hv
    subst hv
    have e : ((x : Int) * 2 ^ (32 * 0)) = ((x : Nat) : Int) := by simp
    rw [e, u64_in' x (by omega)]
    have := or_halves 0 x (by omega) hx
    simpa using this
  | 1, _ =>
    rw [BB_eq] at hv ⊢
    have e : ((x : Int) * 2 ^ (32 * 1)) = ((x * 4294967296 : Nat) : Int) := by omega
    rw [e, u64_in' _ (by omega), or_halves' x v hx (by omega)]
    congr 1
    omega

theorem val_take_succ {ds : List Nat} {k : Nat} (h : k < ds.length) : val (ds.take (k + 1)) = val (ds.take k) + BB ^ k * ds.getD k 0 := by
  rw [take_snoc h, val_append, List.length_take, Nat.min_eq_left (by omega)]
  simp [val]

theorem val_take_lt {ds : List Nat} (hd : Dig ds) (k : Nat) (h : k ≤ ds.length) : val (ds.take k) < BB ^ k := by
  have := val_lt (hd.take k)
  rwa [List.length_take, Nat.min_eq_left h] at this

set_option maxRecDepth 100000 in
theorem toWord_any (A : Option Addr) (n c B : Nat) (ds : List Nat) (w : World) (h : Dgs w B A n ds) (hc : n ≤ c) (hm : c ≤ maxLen) (h2 : n ≤ 2) :
    Calls Try.prog 89 #[.slice A n c] w fun e w' => e = .returned (.int .u64 (val ds)) ∧ w = w' := by
  unfold maxLen at hm
  have HL := Lib.hid h.len
  go_enter Try.func89, Try.ntmps89
  go_wp2
  go_loop [3, 8] (fun s i => ∃ k : Nat, k ≤ n ∧ i = .int .i64 k ∧ s = .int .u64 (val (ds.take k))) (fun _ i => n - (intOf i).toNat)
  case atStart => exact ⟨0, Nat.zero_le _, rfl, rfl⟩
  case round =>
    obtain ⟨k, hk, rfl, rfl⟩ := hrel
    by_cases hkn : k < n
    · obtain ⟨b, off, rfl, _, hcell⟩ := h.at_ (by omega)
      have hx := hcell k hkn
      have hlt := h.dig.getD k
      rw [BB_eq] at hlt
      have HV : Hid (bits .or .u64 (val (ds.take k) : Int) (IntKind.u64.wrap (IntKind.u64.wrap ((ds[k]?.getD 0 : Nat) : Int) * 2 ^ (32 * k))) = (val (ds.take (k + 1)) : Int)) := by
        have hl := HL.out
        rw [val_take_succ (by omega)]
        exact word_step _ _ _ (by omega) (val_take_lt h.dig k (by omega)) hlt
      clear hcell
      go_wp2
      go_round
      case rel => exact ⟨k + 1, by omega, by go_num, by rw [HV.out]⟩
      case measure => simp [intOf]; omega
    · have HV : Hid (val (ds.take k) = val ds) := by rw [List.take_of_length_le (by have := HL.out; omega)]; rfl
      go_wp2
      go_ret
      exact ⟨by rw [← HV.out]; rfl, rfl⟩

/-- Does the integer fit into an int64? -/
def fits (z : Int) : Bool := decide (-9223372036854775808 ≤ z ∧ z ≤ 9223372036854775807)
/-- What ToInt64 returns. -/
def RetI (w : World) (z : Int) (e : Ending) (w' : World) : Prop :=
  e = .returned (.tuple #[.int .i64 (if fits z then z else 0), .int .i64 (if fits z then 0 else 5)]) ∧ Below w.heap.size w w'

theorem ret_ii {k k' : IntKind} {a a' b b' : Int} (h : a = a') (h' : b = b') : Ending.returned (.tuple #[.int k a, .int k' b]) = .returned (.tuple #[.int k a', .int k' b']) := by rw [h, h']

theorem fits_of (z : Int) (h : -9223372036854775808 ≤ z) (h' : z ≤ 9223372036854775807) : (if fits z then z else 0) = z ∧ (if fits z then (0 : Int) else 5) = 0 := by
  have : fits z = true := decide_eq_true ⟨h, h'⟩
  rw [this]; exact ⟨rfl, rfl⟩
theorem fits_not (z : Int) (h : z < -9223372036854775808 ∨ 9223372036854775807 < z) : (if fits z then z else 0) = 0 ∧ (if fits z then (0 : Int) else 5) = 5 := by
  have : fits z = false := decide_eq_false (by omega)
  rw [this]; exact ⟨rfl, rfl⟩

theorem digs_le_two {v : Nat} (h : (digs v).length ≤ 2) : v < 18446744073709551616 := by
  have h1 := lt_pow_digs v
  have h2 : BB ^ (digs v).length ≤ BB ^ 2 := Nat.pow_le_pow_right BB_pos h
  have h3 : BB ^ 2 = 18446744073709551616 := by rw [BB_eq]
  omega
theorem digs_gt_two {v : Nat} (h : 2 < (digs v).length) : 18446744073709551616 ≤ v := by
  rcases Nat.lt_or_ge v 18446744073709551616 with h1 | h1
  · have h3 : BB ^ 2 = 18446744073709551616 := by rw [BB_eq]
    have := digs_length_le (n := v) (k := 2) (by rw [h3]; exact h1)
    omega
  · exact h1

set_option maxHeartbeats 1000000 in
set_option maxRecDepth 100000 in
theorem toInt64_any (neg : Bool) (A : Option Addr) (n c : Nat) (ds : List Nat) (w : World) (h : Dgs w w.heap.size A n ds) (hc : n ≤ c) (hm : c ≤ maxLen) :
    Calls Try.prog 75 #[.agg #[.bool neg, .slice A n c]] w (RetI w (zOf neg (val ds))) := by
  have hcan := fun w' h' => canonical_any neg A n c ds w' h' hc hm
  generalize zOf neg (val ds) = z at hcan ⊢
  obtain ⟨s, hs⟩ : ∃ s, s = decide (z < 0) := ⟨_, rfl⟩
  obtain ⟨M, hM⟩ : ∃ M, M = z.natAbs := ⟨_, rfl⟩
  have HS := Lib.hid hs
  have HM := Lib.hid hM
  clear hs hM
  by_cases hlong : 2 < (digs M).length
  · have hf := fits_not z (by have := digs_gt_two hlong; have := HM.out; omega)
    have HF := Lib.hid hf
    clear hf
    go_enter Try.func75, Try.ntmps75
    go_wp2_with (go_at_call 35; refine (hcan _ ((h.alloc (Nat.le_refl _) _).more (by simp))).mono ?_; rintro e w2 ⟨A2, n2, c2, rfl, hd2, hn2, hc2, hb2⟩; have O2 := (Own.new _ _ _ _).below hb2; obtain ⟨q0, q1, q2, q3⟩ := O2.facts; rw [← HM.out] at hd2; have hl2 : 2 < n2 := by (rw [← hd2.len]; exact hlong))
    go_ret2
    refine ⟨ret_ii HF.out.1.symm HF.out.2.symm, ?_⟩
    exact ((bcall (bnew _ _) hb2).setCell (Nat.le_refl _) _).setCell (Nat.le_refl _) _
  · have hM64 := digs_le_two (Nat.le_of_not_lt hlong)
    by_cases hbig : 9223372036854775808 < M
    · have HF := Lib.hid (fits_not z (by have := HM.out; omega))
      go_enter Try.func75, Try.ntmps75
      go_wp2_with (first
        | (go_at_call 35; refine (hcan _ ((h.alloc (Nat.le_refl _) _).more (by simp))).mono ?_; rintro e w2 ⟨A2, n2, c2, rfl, hd2, hn2, hc2, hb2⟩; have O2 := (Own.new _ _ _ _).below hb2; obtain ⟨q0, q1, q2, q3⟩ := O2.facts; rw [← HM.out] at hd2; have hl2 : n2 ≤ 2 := by (rw [← hd2.len]; omega))
        | (go_at_call 89; refine (toWord_any _ _ _ _ _ _ (hd2.store O2 _ _) hn2 hc2 hl2).mono ?_; rw [val_digs]; rintro e w3 ⟨rfl, rfl⟩))
      go_ret2
      refine ⟨ret_ii ?_ ?_, ((bcall (bnew _ _) hb2).setCell (Nat.le_refl _) _).setCell (Nat.le_refl _) _⟩
      · exact HF.out.1.symm
      · exact HF.out.2.symm
    by_cases hz : z < 0
    · have HF := Lib.hid (fits_of z (by have := HM.out; omega) (by omega))
      have e1 : IntKind.i64.wrap (IntKind.u64.wrap (-(M : Int))) = -(M : Int) := by
        have := HM.out
        rw [IntKind.wrap_u64, IntKind.wrap_i64]; omega
      have HZ : Hid (-(M : Int) = z) := by have := HM.out; unfold Hid; omega
      have e2 : decide (z < 0) = true := decide_eq_true hz
      by_cases hhalf : M = 9223372036854775808
      · have HE : Hid (z = -9223372036854775808) := by have := HZ.out; unfold Hid; omega
        subst hhalf
        go_enter Try.func75, Try.ntmps75
        go_wp2_with (first
          | (go_at_call 35; refine (hcan _ ((h.alloc (Nat.le_refl _) _).more (by simp))).mono ?_; rintro e w2 ⟨A2, n2, c2, rfl, hd2, hn2, hc2, hb2⟩; have O2 := (Own.new _ _ _ _).below hb2; obtain ⟨q0, q1, q2, q3⟩ := O2.facts; rw [← HM.out] at hd2; have hl2 : n2 ≤ 2 := by (rw [← hd2.len]; omega))
          | (go_at_call 89; refine (toWord_any _ _ _ _ _ _ (hd2.store O2 _ _) hn2 hc2 hl2).mono ?_; rw [val_digs]; rintro e w3 ⟨rfl, rfl⟩))
        go_ret2
        refine ⟨ret_ii ?_ ?_, ((bcall (bnew _ _) hb2).setCell (Nat.le_refl _) _).setCell (Nat.le_refl _) _⟩
        · exact (show wrap64 (IntKind.u64.wrap (-9223372036854775808)) = -9223372036854775808 by rw [IntKind.wrap_u64]; unfold wrap64; omega).trans (HE.out.symm.trans HF.out.1.symm)
        · exact HF.out.2.symm
      · have hb : ((M : Int) == 9223372036854775808) = false := by simp; omega
        go_enter Try.func75, Try.ntmps75
        go_wp2_with (first
          | (go_at_call 35; refine (hcan _ ((h.alloc (Nat.le_refl _) _).more (by simp))).mono ?_; rintro e w2 ⟨A2, n2, c2, rfl, hd2, hn2, hc2, hb2⟩; have O2 := (Own.new _ _ _ _).below hb2; obtain ⟨q0, q1, q2, q3⟩ := O2.facts; rw [← HM.out] at hd2; have hl2 : n2 ≤ 2 := by (rw [← hd2.len]; omega))
          | (go_at_call 89; refine (toWord_any _ _ _ _ _ _ (hd2.store O2 _ _) hn2 hc2 hl2).mono ?_; rw [val_digs]; rintro e w3 ⟨rfl, rfl⟩))
        go_ret2
        refine ⟨ret_ii ?_ ?_, ((bcall (bnew _ _) hb2).setCell (Nat.le_refl _) _).setCell (Nat.le_refl _) _⟩
        · exact HZ.out.trans HF.out.1.symm
        · exact HF.out.2.symm
    · have e2 : decide (z < 0) = false := decide_eq_false hz
      by_cases hhalf : M = 9223372036854775808
      · have HF := Lib.hid (fits_not z (by have := HM.out; omega))
        subst hhalf
        go_enter Try.func75, Try.ntmps75
        go_wp2_with (first
          | (go_at_call 35; refine (hcan _ ((h.alloc (Nat.le_refl _) _).more (by simp))).mono ?_; rintro e w2 ⟨A2, n2, c2, rfl, hd2, hn2, hc2, hb2⟩; have O2 := (Own.new _ _ _ _).below hb2; obtain ⟨q0, q1, q2, q3⟩ := O2.facts; rw [← HM.out] at hd2; have hl2 : n2 ≤ 2 := by (rw [← hd2.len]; omega))
          | (go_at_call 89; refine (toWord_any _ _ _ _ _ _ (hd2.store O2 _ _) hn2 hc2 hl2).mono ?_; rw [val_digs]; rintro e w3 ⟨rfl, rfl⟩))
        go_ret2
        refine ⟨ret_ii ?_ ?_, ((bcall (bnew _ _) hb2).setCell (Nat.le_refl _) _).setCell (Nat.le_refl _) _⟩
        · exact HF.out.1.symm
        · exact HF.out.2.symm
      · have HF := Lib.hid (fits_of z (by omega) (by have := HM.out; omega))
        have HZ : Hid ((M : Int) = z) := by have := HM.out; unfold Hid; omega
        have hb : ((M : Int) == 9223372036854775808) = false := by simp; omega
        have hlt : M < 9223372036854775808 := by omega
        go_enter Try.func75, Try.ntmps75
        go_wp2_with (first
          | (go_at_call 35; refine (hcan _ ((h.alloc (Nat.le_refl _) _).more (by simp))).mono ?_; rintro e w2 ⟨A2, n2, c2, rfl, hd2, hn2, hc2, hb2⟩; have O2 := (Own.new _ _ _ _).below hb2; obtain ⟨q0, q1, q2, q3⟩ := O2.facts; rw [← HM.out] at hd2; have hl2 : n2 ≤ 2 := by (rw [← hd2.len]; omega))
          | (go_at_call 89; refine (toWord_any _ _ _ _ _ _ (hd2.store O2 _ _) hn2 hc2 hl2).mono ?_; rw [val_digs]; rintro e w3 ⟨rfl, rfl⟩))
        go_ret2
        refine ⟨ret_ii ?_ ?_, ((bcall (bnew _ _) hb2).setCell (Nat.le_refl _) _).setCell (Nat.le_refl _) _⟩
        · exact HZ.out.trans HF.out.1.symm
        · exact HF.out.2.symm

theorem digit_quiet (A : Option Addr) (n c B : Nat) (ds : List Nat) (i : Int) (w : World) (h : Dgs w B A n ds) (hc : n ≤ c) (hm : c ≤ maxLen) (h0 : 0 ≤ i) (hi : i ≤ 9223372036854775807) :
    Calls Try.prog 106 #[.slice A n c, .int .i64 i] w fun e w' => e = .returned (.int .u64 (ds.getD i.toNat 0 : Nat)) ∧ w' = w := by
  have := (digit_any A n c B ds i.toNat w h hc hm (by unfold maxLen; omega)).mono (R' := fun e w' => e = .returned (.int .u64 (ds.getD i.toNat 0 : Nat)) ∧ w' = w) fun _ _ ⟨h1, h2⟩ => ⟨h1, h2.symm⟩
  rwa [Int.toNat_of_nonneg h0] at this

theorem digs_lo (M : Nat) : (digs M).getD 0 0 = M % BB := by
  by_cases h : M = 0
  · subst h; simp [digs_zero]
  · rw [digs_pos h]; rfl
theorem digs_hi (M : Nat) : (digs M).getD 1 0 = M / BB % BB := by
  by_cases h : M = 0
  · subst h; simp [digs_zero]
  · rw [digs_pos h]
    exact digs_lo (M / BB)
theorem digs_or (M : Nat) (h : M < 18446744073709551616) : bits .or .u64 (((digs M)[0]?.getD 0 : Nat) : Int) (IntKind.u64.wrap ((((digs M)[1]?.getD 0 : Nat) : Int) * 4294967296)) = (M : Int) := by
  have e0 := digs_lo M
  have e1 := digs_hi M
  simp only [List.getD] at e0 e1
  rw [e0, e1]
  rw [BB_eq]
  have e2 : ((M / 4294967296 % 4294967296 : Nat) : Int) * 4294967296 = ((M / 4294967296 % 4294967296 * 4294967296 : Nat) : Int) := by omega
  rw [e2, u64_in' _ (by omega), or_halves' _ _ (by omega) (by omega)]
  congr 1
  omega

def dcell (d : Nat) : Value := .int .u32 (d : Nat)
/-- Block b is a row of its own whose first cells are the numbers xs. -/
def Row (w : World) (b : Nat) (xs : List Nat) : Prop := ∃ rest : List Value, w.heap[b]? = some (.cells (xs.map dcell ++ rest).toArray 69 (0, 0))
section
variable {w w' : World} {b : Nat} {xs : List Nat}
theorem Row.lt (h : Row w b xs) : b < w.heap.size := by
  rcases Nat.lt_or_ge b w.heap.size with hlt | hge
  · exact hlt
  · obtain ⟨rest, h⟩ := h; rw [Array.getElem?_eq_none hge] at h; cases h
theorem Row.cell (h : Row w b xs) {j : Nat} (hj : j < xs.length) : w.cell? ⟨b, j, none⟩ = some (.int .u32 (xs.getD j 0 : Nat)) := by
  obtain ⟨rest, h⟩ := h
  simp [World.cell?, h, List.getD, hj, dcell, List.getElem?_append]
theorem Row.frozen (h : Row w b xs) (j : Nat) : w.frozen? ⟨b, j, none⟩ = false := by
  obtain ⟨rest, h⟩ := h
  simp [World.frozen?, h]
theorem Row.of_block (h : Row w b xs) (hb : w'.heap[b]? = w.heap[b]?) : Row w' b xs := by
  obtain ⟨rest, h⟩ := h
  exact ⟨rest, hb.trans h⟩
theorem Row.below (h : Row w b xs) (hb : Below w.heap.size w w') : Row w' b xs := h.of_block (hb.block b h.lt)
theorem Row.alloc (h : Row w b xs) (o : Obj) : Row (w.alloc o) b xs := h.of_block (Below.heap_alloc w o b h.lt)
theorem Row.drew (h : Row w b xs) : Row w.drew b xs := h
theorem Row.drewN (h : Row w b xs) (n : Nat) : Row (w.drewN n) b xs := h
theorem Row.far (h : Row w b xs) {p : Addr} (hp : b ≠ p.block) (u : Value) : Row (w.setCell p u) b xs := h.of_block (Below.heap_setCell w p u b hp)
theorem Row.take (h : Row w b xs) (n : Nat) : Row w b (xs.take n) := by
  obtain ⟨rest, h⟩ := h
  refine ⟨(xs.drop n).map dcell ++ rest, ?_⟩
  rw [← List.append_assoc, ← List.map_append, List.take_append_drop]
  exact h
theorem Row.set (h : Row w b xs) (i v : Nat) : Row (w.setCell ⟨b, i, none⟩ (.int .u32 (v : Nat))) b (xs.set i v) := by
  obtain ⟨rest, h⟩ := h
  by_cases hi : i < xs.length
  · refine ⟨rest, ?_⟩
    have e : ((xs.set i v).map dcell ++ rest).toArray = ((xs.map dcell ++ rest).toArray).setIfInBounds i (dcell v) := by
      apply Array.ext'
      simp [List.map_set, List.set_append, hi]
    rw [e]
    simp [World.setCell, Array.getElem?_modify, h, dcell]
  · refine ⟨rest.set (i - xs.length) (dcell v), ?_⟩
    have e : ((xs.set i v).map dcell ++ rest.set (i - xs.length) (dcell v)).toArray = ((xs.map dcell ++ rest).toArray).setIfInBounds i (dcell v) := by
      apply Array.ext'
      simp [List.set_append, hi, List.set_eq_of_length_le (Nat.le_of_not_lt hi)]
    rw [e]
    simp [World.setCell, Array.getElem?_modify, h, dcell]
theorem Row.made (w : World) (n : Nat) : Row (w.alloc (.cells (madeCells #[.int .u32 0] n) 69)) w.heap.size (List.replicate n 0) := by
  have e : (((List.replicate n 0).map dcell ++ []).toArray) = madeCells #[.int .u32 0] n := by
    apply Array.ext
    · simp [size_madeCells]
    · intro i h1 h2
      simp [size_madeCells] at h2
      simp [madeCells, dcell, Nat.mod_one]
  refine ⟨[], ?_⟩
  rw [e]
  exact Go.Deep.blk_alloc_new _ _
theorem Row.dgs (h : Row w b xs) (hd : Dig xs) : Dgs w w.heap.size (some ⟨b, 0, none⟩) xs.length xs :=
  ⟨rfl, hd, fun _ => ⟨b, 0, rfl, h.lt, fun j hj => by rw [Nat.zero_add]; exact h.cell hj⟩⟩
end

theorem int_val {k : IntKind} {a b : Int} (h : a = b) : Value.int k a = .int k b := by rw [h]

/-- Nothing but block g has turned. -/
structure Only (g : Nat) (w w' : World) : Prop where
  os : w'.os = w.os
  tape : w'.tape = w.tape
  output : w'.output = w.output
  size : w'.heap.size = w.heap.size
  block : ∀ k, k ≠ g → w'.heap[k]? = w.heap[k]?
section
variable {w w' w'' : World} {g B : Nat}
theorem Only.refl (g : Nat) (w : World) : Only g w w := ⟨rfl, rfl, rfl, rfl, fun _ _ => rfl⟩
theorem Only.trans (h : Only g w w') (k : Only g w' w'') : Only g w w'' := ⟨k.os.trans h.os, k.tape.trans h.tape, k.output.trans h.output, k.size.trans h.size, fun i hi => (k.block i hi).trans (h.block i hi)⟩
theorem Only.setCell (h : Only g w w') (i : Nat) (u : Value) : Only g w (w'.setCell ⟨g, i, none⟩ u) :=
  h.trans ⟨rfl, rfl, rfl, by simp [World.setCell], fun k hk => Below.heap_setCell w' ⟨g, i, none⟩ u k hk⟩
theorem Only.drewN (h : Only g w w') (n : Nat) : Only g w (w'.drewN n) := ⟨h.os, h.tape, h.output, h.size, h.block⟩
theorem Only.below (h : Only g w w') (hB : B ≤ g) : Below B w w' := ⟨h.os, h.tape, h.output, by rw [h.size]; exact Nat.le_refl _, fun k hk => h.block k (by omega)⟩
theorem Only.cell (h : Only g w w') {p : Addr} (hp : p.block ≠ g) : w'.cell? p = w.cell? p := World.cell?_of_block (w := w) (h.block p.block hp)
theorem Only.dgs {B n : Nat} {A : Option Addr} {ds : List Nat} (h : Only g w w') (hd : Dgs w B A n ds) (hg : B ≤ g) : Dgs w' B A n ds := hd.keep fun p hp => h.cell (by omega)
end

theorem set_zeros (xs : List Nat) (m d : Nat) : (xs ++ List.replicate (m + 1) 0).set xs.length d = (xs ++ [d]) ++ List.replicate m 0 := by
  rw [List.set_append_right _ _ (Nat.le_refl _), Nat.sub_self, List.replicate_succ, List.set_cons_zero, List.append_assoc]
  rfl
theorem getD_beyond {ds : List Nat} {k : Nat} (h : ds.length ≤ k) : ds.getD k 0 = 0 := by simp [List.getD, h]
theorem val_take_succ' {ds : List Nat} {k : Nat} (h : ds.length ≤ k) : val (ds.take (k + 1)) = val (ds.take k) := by
  rw [List.take_of_length_le (by omega), List.take_of_length_le h]
theorem val_take_any (ds : List Nat) (k : Nat) : val (ds.take (k + 1)) = val (ds.take k) + BB ^ k * ds.getD k 0 := by
  by_cases h : k < ds.length
  · exact val_take_succ h
  · rw [val_take_succ' (by omega), getD_beyond (by omega)]; omega
theorem dig_zeros (n : Nat) : Dig (List.replicate n 0) := by intro d h; rw [List.mem_replicate] at h; rw [h.2]; exact BB_pos
theorem val_zeros (n : Nat) : val (List.replicate n 0) = 0 := by
  induction n with
  | zero => rfl
  | succ n ih => rw [List.replicate_succ, val, ih]; omega
theorem val_snoc (xs : List Nat) (d : Nat) : val (xs ++ [d]) = val xs + BB ^ xs.length * d := by rw [val_append]; simp [val]

/-- What holds of a row that is being filled, k digits being there and a carry. -/
def AddI (w wr : World) (n k c : Nat) (A B : Nat) (xs : List Nat) : Prop :=
  Row wr w.heap.size (xs ++ List.replicate (n - k) 0) ∧ xs.length = k ∧ Dig xs ∧ val xs + BB ^ k * c = A + B ∧ Below w.heap.size w wr

theorem add_arith (p v c x y A B : Nat) (h : v + p * c = A + B) : (v + p * ((c + x + y) % BB)) + p * BB * ((c + x + y) / BB) = (A + p * x) + (B + p * y) := by
  have h1 : p * ((c + x + y) % BB) + p * BB * ((c + x + y) / BB) = p * (c + x + y) := by
    rw [Nat.mul_assoc, ← Nat.mul_add, Nat.mod_add_div]
  have h2 : p * (c + x + y) = p * c + p * x + p * y := by rw [Nat.mul_add, Nat.mul_add]
  omega

theorem add_step {w wr : World} {n k c : Nat} {xa xb xs : List Nat} (h : AddI w wr (n + 1) k c (val (xa.take k)) (val (xb.take k)) xs) (hk : k < n) {v : Int} (hv : v = ((c + xa.getD k 0 + xb.getD k 0) % BB : Nat)) :
    AddI w (wr.setCell ⟨w.heap.size, k, none⟩ (.int .u32 v)) (n + 1) (k + 1) ((c + xa.getD k 0 + xb.getD k 0) / BB) (val (xa.take (k + 1))) (val (xb.take (k + 1))) (xs ++ [(c + xa.getD k 0 + xb.getD k 0) % BB]) := by
  obtain ⟨h1, h2, h3, h4, h5⟩ := h
  subst hv
  refine ⟨?_, by simp [h2], h3.append (Dig.cons (Nat.mod_lt _ BB_pos) Dig.nil), ?_, h5.setCell (Nat.le_refl _) _⟩
  · have e : n + 1 - k = (n + 1 - (k + 1)) + 1 := by omega
    rw [e] at h1
    have := h1.set k ((c + xa.getD k 0 + xb.getD k 0) % BB)
    rwa [← h2, set_zeros, h2] at this
  · rw [val_snoc, h2, val_take_any, val_take_any, Nat.pow_succ]
    exact add_arith _ _ _ _ _ _ _ h4

theorem add_step' {w wr : World} {n k c x y : Nat} {xa xb xs : List Nat} (h : AddI w wr (n + 1) k c (val (xa.take k)) (val (xb.take k)) xs) (hk : k < n) (hx : x = xa.getD k 0) (hy : y = xb.getD k 0) {v : Int} (hv : v = ((c + x + y) % 4294967296 : Nat)) :
    AddI w (wr.setCell ⟨w.heap.size, k, none⟩ (.int .u32 v)) (n + 1) (k + 1) ((c + x + y) / 4294967296) (val (xa.take (k + 1))) (val (xb.take (k + 1))) (xs ++ [(c + x + y) % 4294967296]) := by
  subst hx hy
  exact add_step h hk hv

theorem add_last {w wr : World} {n c : Nat} {A B : Nat} {xs : List Nat} (h : AddI w wr (n + 1) n c A B xs) {v : Int} (hv : v = (c : Nat)) (hc : c < 4294967296) :
    Dgs (wr.setCell ⟨w.heap.size, n, none⟩ (.int .u32 v)) (wr.setCell ⟨w.heap.size, n, none⟩ (.int .u32 v)).heap.size (some ⟨w.heap.size, 0, none⟩) (n + 1) (xs ++ [c]) ∧ val (xs ++ [c]) = A + B ∧ Below w.heap.size w (wr.setCell ⟨w.heap.size, n, none⟩ (.int .u32 v)) := by
  obtain ⟨h1, h2, h3, h4, h5⟩ := h
  subst hv
  refine ⟨?_, by rw [val_snoc, h2]; exact h4, h5.setCell (Nat.le_refl _) _⟩
  have e : n + 1 - n = 0 + 1 := by omega
  rw [e] at h1
  have := h1.set n c
  rw [← h2, set_zeros] at this
  rw [h2] at this
  have := this.dgs (by simpa using h3.append (Dig.cons (by rw [BB_eq]; exact hc) Dig.nil))
  simpa [h2] using this
end Go.Proofs.Ytgjkgmlcfieodaa

