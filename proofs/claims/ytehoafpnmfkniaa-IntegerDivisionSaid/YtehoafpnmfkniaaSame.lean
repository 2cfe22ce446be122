/-
  Equality of integers, field by field.
-/
import Derived.Test.YtehoafpnmfkniaaCanon
set_option linter.unusedVariables false
set_option linter.unusedSimpArgs false
namespace Go.Proofs.Ytehoafpnmfkniaa
open Go.RowKit

/-- Equal in every field. -/
def sameB (neg neg' : Bool) (ds ds' : List Nat) : Bool := decide (neg = neg' ∧ ds = ds')

theorem take_eq_snoc {ds ds' : List Nat} {k : Nat} (h : ds.take k = ds'.take k) (hk : k < ds.length) (hk' : k < ds'.length) (he : ds.getD k 0 = ds'.getD k 0) : ds.take (k + 1) = ds'.take (k + 1) := by
  rw [take_snoc hk, take_snoc hk', h, he]

theorem sameB_true {neg : Bool} {ds ds' : List Nat} (h : ds = ds') : true = sameB neg neg ds ds' := by simp [sameB, h]
theorem sameB_false {neg neg' : Bool} {ds ds' : List Nat} (h : neg ≠ neg' ∨ ds ≠ ds') : false = sameB neg neg' ds ds' := by
  rcases h with h | h <;> simp [sameB, h]
theorem ret_bool {a b : Bool} (h : a = b) : Ending.returned (.bool a) = .returned (.bool b) := by rw [h]

/-- What holds in every round. -/
def SameI (w wr : World) (neg : Bool) (A A' : Option Addr) (n c c' : Nat) (ds ds' : List Nat) : Prop :=
  Own wr w.heap.size 24 (.bool neg) (.slice A n c) ∧ Own wr (w.heap.size + 1) 24 (.bool neg) (.slice A' n c') ∧ Dgs wr w.heap.size A n ds ∧ Dgs wr w.heap.size A' n ds' ∧ Below w.heap.size w wr

theorem SameI.drewN {w wr : World} {neg : Bool} {A A' : Option Addr} {n c c' : Nat} {ds ds' : List Nat} (h : SameI w wr neg A A' n c c' ds ds') (k : Nat) : SameI w (wr.drewN k) neg A A' n c c' ds ds' := by
  obtain ⟨h1, h2, h3, h4, h5⟩ := h
  exact ⟨h1, h2, h3, h4, ⟨h5.os, h5.tape, h5.output, h5.size, h5.block⟩⟩

set_option maxRecDepth 100000 in
theorem sameInt_any (neg neg' : Bool) (A A' : Option Addr) (n n' c c' : Nat) (ds ds' : List Nat) (w : World) (h : Dgs w w.heap.size A n ds) (h' : Dgs w w.heap.size A' n' ds') (hc : n ≤ c) (hm : c ≤ maxLen) (hc' : n' ≤ c') (hm' : c' ≤ maxLen) :
    Calls Try.prog 65 #[.agg #[.bool neg, .slice A n c], .agg #[.bool neg', .slice A' n' c']] w fun e w' => e = .returned (.bool (sameB neg neg' ds ds')) ∧ Below w.heap.size w w' := by
  unfold maxLen at hm hm'
  by_cases hneg : neg = neg'
  · subst hneg
    by_cases hlen : n = n'
    · subst hlen
      have H0 : SameI w ((w.alloc (.cells #[.bool neg, .slice A n c] 24)).alloc (.cells #[.bool neg, .slice A' n c'] 24)) neg A A' n c c' ds ds' :=
        ⟨(Own.new _ _ _ _).alloc _, by have := Own.new (w.alloc (.cells #[.bool neg, .slice A n c] 24)) 24 (.bool neg) (.slice A' n c'); simpa using this,
          (h.alloc (Nat.le_refl _) _).alloc (by simp) _, (h'.alloc (Nat.le_refl _) _).alloc (by simp) _, bnew2 _ _ _⟩
      have HL := Lib.hid h.len
      have HL' := Lib.hid h'.len
      clear h h'
      go_enter Try.func65, Try.ntmps65
      go_wp2
      go_loopw [5] (fun i wr => ∃ k : Nat, k ≤ n ∧ i = .int .i64 k ∧ ds.take k = ds'.take k ∧ SameI w wr neg A A' n c c' ds ds') (fun i _ => n - (intOf i).toNat)
      case atStart => exact ⟨0, Nat.zero_le _, rfl, rfl, H0⟩
      case round =>
        clear H0
        obtain ⟨k, hk, rfl, ht, HI⟩ := hrel
        have HT := Lib.hid ht; clear ht
        obtain ⟨o1, o2, d1, d2, hB⟩ := HI
        have HI : SameI w wr neg A A' n c c' ds ds' := ⟨o1, o2, d1, d2, hB⟩
        obtain ⟨p0, p1, p2, p3⟩ := o1.facts
        obtain ⟨q0, q1, q2, q3⟩ := o2.facts
        clear o1 o2 p2 p3 q2 q3
        by_cases hkn : k < n
        · obtain ⟨b, off, rfl, _, hcell⟩ := d1.at_ (by omega)
          obtain ⟨b', off', rfl, _, hcell'⟩ := d2.at_ (by omega)
          have hx := hcell k hkn
          have hy := hcell' k hkn
          clear hcell hcell' d1 d2
          obtain ⟨x, HX⟩ : ∃ x, Hid (x = ds.getD k 0) := ⟨_, rfl⟩
          obtain ⟨y, HY⟩ : ∃ y, Hid (y = ds'.getD k 0) := ⟨_, rfl⟩
          rw [← HX.out] at hx
          rw [← HY.out] at hy
          have i0 : (0 : Int) ≤ (k : Int) := by omega
          have i1 : (k : Int) < (n : Int) := by omega
          by_cases hxy : x = y
          · subst hxy
            go_wp2
            go_quiet (fail)
            go_wp2
            go_roundw
            case rel => exact ⟨k + 1, by omega, by go_num, take_eq_snoc HT.out (by rw [HL.out]; exact hkn) (by rw [HL'.out]; exact hkn) (by rw [← HX.out, ← HY.out]), HI.drewN _⟩
            case measure => simp [intOf]; omega
          · have HXY := Lib.hid hxy
            go_wp2
            go_quiet (fail)
            go_wp2
            go_ret
            exact ⟨ret_bool (sameB_false (Or.inr fun e => HXY.out (by rw [HX.out, HY.out, e]))), (HI.drewN _).2.2.2.2⟩
        · go_wp2
          go_ret
          have := HL.out
          have := HL'.out
          have e : ds = ds' := by
            have := HT.out
            rwa [List.take_of_length_le (by omega), List.take_of_length_le (by omega)] at this
          exact ⟨ret_bool (sameB_true e), hB⟩
    · have e := @sameB_false neg neg ds ds' (Or.inr (fun e => hlen (by rw [← h.len, ← h'.len, e])))
      have E := Lib.hid e
      clear e
      go_enter Try.func65, Try.ntmps65
      go_wp2
      go_ret
      exact ⟨ret_bool E.out, bnew2 _ _ _⟩
  · have E := Lib.hid (@sameB_false neg neg' ds ds' (Or.inl hneg))
    go_enter Try.func65, Try.ntmps65
    go_wp2
    go_ret
    exact ⟨ret_bool E.out, bnew2 _ _ _⟩

set_option maxRecDepth 100000 in
theorem same_any (neg neg' : Bool) (A A' : Option Addr) (n n' c c' : Nat) (ds ds' : List Nat) (w : World) (h : Dgs w w.heap.size A n ds) (h' : Dgs w w.heap.size A' n' ds') (hc : n ≤ c) (hm : c ≤ maxLen) (hc' : n' ≤ c') (hm' : c' ≤ maxLen) :
    Calls Try.prog 20 #[.agg #[.bool neg, .slice A n c], .agg #[.bool neg', .slice A' n' c']] w fun e w' => e = .returned (.bool (sameB neg neg' ds ds')) ∧ Below w.heap.size w w' := by
  go_enter Try.func20, Try.ntmps20
  go_wp2_with (go_at_call 65; refine (sameInt_any neg neg' A A' n n' c c' ds ds' _ (((h.alloc (Nat.le_refl _) _).alloc (by simp) _).more (by simp; omega)) (((h'.alloc (Nat.le_refl _) _).alloc (by simp) _).more (by simp; omega)) hc hm hc' hm').mono ?_; rintro e w1 ⟨rfl, hb1⟩)
  go_ret
  exact ⟨rfl, bcall (bnew2 _ _ _) hb1⟩

theorem same_true (neg : Bool) (A A' : Option Addr) (n n' c c' : Nat) (ds : List Nat) (w : World) (h : Dgs w w.heap.size A n ds) (h' : Dgs w w.heap.size A' n' ds) (hc : n ≤ c) (hm : c ≤ maxLen) (hc' : n' ≤ c') (hm' : c' ≤ maxLen) :
    Calls Try.prog 20 #[.agg #[.bool neg, .slice A n c], .agg #[.bool neg, .slice A' n' c']] w fun e w' => e = .returned (.bool true) ∧ Below w.heap.size w w' := by
  have := same_any neg neg A A' n n' c c' ds ds w h h' hc hm hc' hm'
  rwa [← sameB_true rfl] at this
end Go.Proofs.Ytehoafpnmfkniaa
