/-
  The library's lines of a text of bytes: the iterator, and a line without its end.
-/
import Derived.Test.YtdacigihhbcppaaDoorTbE
import Derived.BigRegionIn
set_option linter.unusedVariables false
set_option linter.unusedSimpArgs false
namespace Go.Proofs.YtdacigihhbcppaaDoor
open Go.RowKit Go.Shelf
attribute [local go_sem] Oper.semAt_some

/-- The lines of a text, each with its end. -/
def lp : List UInt8 → List (List UInt8)
  | [] => []
  | c :: r => if (c == 10) = true then [c] :: lp r else match lp r with
    | [] => [[c]]
    | p :: ps => (c :: p) :: ps
theorem lp_none : ∀ l, 0 < l.length → idx l 10 = -1 → lp l = [l]
  | [c], _, h => by
    rw [idx_cons] at h
    unfold lp
    by_cases hc : (c == 10) = true
    · rw [if_pos hc] at h; omega
    · rw [if_neg hc]; simp [lp]
  | c :: d :: r, _, h => by
    rw [idx_cons] at h
    have h0 := idx_lo (d :: r) 10
    unfold lp
    by_cases hc : (c == 10) = true
    · rw [if_pos hc] at h; omega
    · rw [if_neg hc] at h ⊢
      by_cases h1 : idx (d :: r) 10 = -1
      · rw [lp_none (d :: r) (by simp) h1]
      · rw [if_neg (by simpa using h1)] at h; omega
theorem lp_some : ∀ (l : List UInt8) (i : Nat), idx l 10 = (i : Int) → lp l = l.take (i + 1) :: lp (l.drop (i + 1))
  | [], i, h => by
    have : idx [] 10 = -1 := by simp [idx, Lib.indexByte]
    rw [this] at h; omega
  | c :: l, i, h => by
    rw [idx_cons] at h
    have h0 := idx_lo l 10
    conv => lhs; unfold lp
    by_cases hc : (c == 10) = true
    · rw [if_pos hc] at h
      rw [if_pos hc]
      obtain rfl : i = 0 := by omega
      simp
    · rw [if_neg hc] at h ⊢
      by_cases h1 : idx l 10 = -1
      · rw [if_pos (by simpa using h1)] at h; omega
      · rw [if_neg (by simpa using h1)] at h
        obtain ⟨j, rfl⟩ : ∃ j, i = j + 1 := ⟨i - 1, by omega⟩
        rw [lp_some l j (by omega)]
        simp
/-- A line without its end. -/
def trim (l : List UInt8) : List UInt8 := if 0 < l.length ∧ (bAt l (l.length - 1)).toNat = 10 then l.take (l.length - 1) else l

theorem BIn.cell_any {S : Nat → Prop} {w : World} {a : Option Addr} {l : List UInt8} (h : BIn S w a l) {i : Nat} (hi : i < l.length) : ∃ g o, a = some ⟨g, o, none⟩ ∧ w.cell? ⟨g, o + i, none⟩ = some (.int .u8 ((bAt l i).toNat : Int)) := by
  rcases h with h | ⟨g, o, _, h1, h2⟩
  · subst h; simp at hi
  · exact ⟨g, o, h1, h2 i hi⟩
def RetV (w : World) (v : Value) (e : Ending) (w' : World) : Prop := e = .returned v ∧ w = w'
set_option maxHeartbeats 2000000 in
set_option maxRecDepth 100000 in
theorem equal_any {S T : Nat → Prop} (a b : Option Addr) (n c m d : Nat) (x y : List UInt8) (w : World) (hx : BIn S w a x) (hy : BIn T w b y) (hn : x.length = n) (hm : y.length = m) :
    Calls Tryd.prog 48 #[.slice a n c, .slice b m d] w (RetV w (.bool (x == y))) := by
  have h1 := hx.convert n c hn
  have h2 := hy.convert m d hm
  clear hx hy
  go_enter Tryd.func48, Tryd.ntmps48
  go_wp2
  go_ret
  exact ⟨rfl, rfl⟩
def hasEnd (l : List UInt8) : Bool := decide (0 < l.length ∧ (bAt l (l.length - 1)).toNat = 10)
set_option maxHeartbeats 2000000 in
set_option maxRecDepth 100000 in
theorem hasSuffix_any {S : Nat → Prop} (a : Option Addr) (n c g d : Nat) (l : List UInt8) (w : World) (h : BIn S w a l) (hn : l.length = n) (hc : n ≤ c) (hm : n ≤ 9223372036854775807) (hs : w.cell? ⟨g, 0, none⟩ = some (.int .u8 10)) :
    Calls Tryd.prog 42 #[.slice a n c, .slice (some ⟨g, 0, none⟩) 1 d] w (RetV w (.bool (hasEnd l))) := by
  rcases h with h | ⟨g', o, hS, ha, hcell⟩
  · subst h
    simp at hn
    subst hn
    rw [show hasEnd [] = false from rfl]
    go_enter Tryd.func42, Tryd.ntmps42
    go_wp2_with fail
    go_ret
    exact ⟨rfl, rfl⟩
  · subst ha
    by_cases h0 : n = 0
    · subst h0
      rw [show hasEnd l = false by unfold hasEnd; simp [hn]]
      clear hcell
      go_enter Tryd.func42, Tryd.ntmps42
      go_wp2_with fail
      go_ret
      exact ⟨rfl, rfl⟩
    obtain ⟨k, rfl⟩ : ∃ k, n = k + 1 := ⟨n - 1, by omega⟩
    have hb : BIn Any_ w (some ⟨g', o + k, none⟩) [bAt l k] := by
      refine .inr ⟨g', o + k, trivial, rfl, fun i hi => ?_⟩
      simp at hi
      subst hi
      exact hcell k (by omega)
    have ht : BIn Any_ w (some ⟨g, 0, none⟩) [10] := by
      refine .inr ⟨g, 0, trivial, rfl, fun i hi => ?_⟩
      simp at hi
      subst hi
      exact hs
    have he : hasEnd l = ([bAt l k] == [(10 : UInt8)]) := by
      unfold hasEnd
      rw [hn]
      rw [Bool.eq_iff_iff, decide_eq_true_iff, beq_iff_eq]
      simp only [Nat.add_sub_cancel]
      constructor
      · rintro ⟨_, h⟩; rw [show bAt l k = 10 from UInt8.toNat_inj.1 (by rw [h]; rfl)]
      · intro h; have h2 := (List.cons.inj h).1; rw [h2]; exact ⟨by omega, rfl⟩
    have hq := equal_any (some ⟨g', o + k, none⟩) (some ⟨g, 0, none⟩) 1 (c - k) 1 d [bAt l k] [10] w hb ht rfl rfl
    rw [← he] at hq
    obtain ⟨B, HB⟩ : ∃ v, Hid (hasEnd l = v) := ⟨_, rfl⟩
    rw [HB.out] at hq ⊢
    have q1 : (1 : Int) ≤ ((k + 1 : Nat) : Int) := by omega
    have q2 : (1 : Int) ≤ (k : Int) + 1 := by omega
    have q3 : ¬ c = k := by omega
    have q4 : k ≤ c := by omega
    have q5 : k + 1 - k = 1 := by omega
    clear hcell hb ht he hn
    go_enter Tryd.func42, Tryd.ntmps42
    go_wp2_with (go_at_call 48; (with_reducible refine hq.mono ?_); rintro e w1 ⟨rfl, rfl⟩)
    go_ret
    exact ⟨rfl, rfl⟩
set_option maxHeartbeats 2000000 in
set_option maxRecDepth 100000 in
theorem trimSuffix_any {S : Nat → Prop} (a : Option Addr) (n c g d : Nat) (l : List UInt8) (w : World) (h : BIn S w a l) (hn : l.length = n) (hc : n ≤ c) (hm : n ≤ 9223372036854775807) (hs : w.cell? ⟨g, 0, none⟩ = some (.int .u8 10)) :
    Calls Tryd.prog 28 #[.slice a n c, .slice (some ⟨g, 0, none⟩) 1 d] w (RetV w (.slice a (trim l).length c)) := by
  have hsf := hasSuffix_any a n c g d l w h hn hc hm hs
  obtain ⟨B, HB⟩ : ∃ v, Hid (hasEnd l = v) := ⟨_, rfl⟩
  rw [HB.out] at hsf
  have hdef := HB.out
  unfold hasEnd at hdef
  clear h
  cases B with
  | true =>
    have hcond := of_decide_eq_true hdef
    obtain ⟨k, rfl⟩ : ∃ k, n = k + 1 := ⟨n - 1, by omega⟩
    have htl : (trim l).length = k := by unfold trim; rw [if_pos hcond, List.length_take]; omega
    rw [htl]
    have q4 : (k : Int) ≤ (c : Int) := by omega
    clear hdef hcond htl hn
    go_enter Tryd.func28, Tryd.ntmps28
    go_wp2_with (go_at_call 42; (with_reducible refine hsf.mono ?_); rintro e w1 ⟨rfl, rfl⟩)
    go_ret
    exact ⟨rfl, rfl⟩
  | false =>
    have hcond := of_decide_eq_false hdef
    have htl : (trim l).length = n := by unfold trim; rw [if_neg hcond]; exact hn
    rw [htl]
    clear hdef hcond htl hn
    go_enter Tryd.func28, Tryd.ntmps28
    go_wp2_with (go_at_call 42; (with_reducible refine hsf.mono ?_); rintro e w1 ⟨rfl, rfl⟩)
    go_ret
    exact ⟨rfl, rfl⟩
end Go.Proofs.YtdacigihhbcppaaDoor

