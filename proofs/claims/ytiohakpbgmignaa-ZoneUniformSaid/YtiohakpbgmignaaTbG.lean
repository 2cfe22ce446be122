/-
  Kinds of bytes, on both sides; names, codes and airports: what they are.
-/
import Derived.Test.YtiohakpbgmignaaTbF
set_option linter.unusedVariables false
set_option linter.unusedSimpArgs false
namespace Go.Proofs.Ytiohakpbgmignaa
open Go.RowKit

/-- The kind of a byte: 1 a lower-case letter, 2 an upper-case one, 3 a digit, 0 none of these. -/
def cls (n : Nat) : Int := if 97 ≤ n ∧ n ≤ 122 then 1 else if 65 ≤ n ∧ n ≤ 90 then 2 else if 48 ≤ n ∧ n ≤ 57 then 3 else 0
theorem cls_cases (n : Nat) : (cls n = 1 ∧ 97 ≤ n ∧ n ≤ 122) ∨ (cls n = 2 ∧ 65 ≤ n ∧ n ≤ 90) ∨ (cls n = 3 ∧ 48 ≤ n ∧ n ≤ 57) ∨ (cls n = 0 ∧ ¬ (97 ≤ n ∧ n ≤ 122) ∧ ¬ (65 ≤ n ∧ n ≤ 90) ∧ ¬ (48 ≤ n ∧ n ≤ 57)) := by
  unfold cls
  by_cases h1 : 97 ≤ n ∧ n ≤ 122
  · exact .inl ⟨if_pos h1, h1⟩
  · by_cases h2 : 65 ≤ n ∧ n ≤ 90
    · exact .inr (.inl ⟨by rw [if_neg h1, if_pos h2], h2⟩)
    · by_cases h3 : 48 ≤ n ∧ n ≤ 57
      · exact .inr (.inr (.inl ⟨by rw [if_neg h1, if_neg h2, if_pos h3], h3⟩))
      · exact .inr (.inr (.inr ⟨by rw [if_neg h1, if_neg h2, if_neg h3], h1, h2, h3⟩))
def RetI0 (w : World) (z : Int) (e : Ending) (w' : World) : Prop := e = .returned (.int .i64 z) ∧ w = w'
def RetQ (w : World) (b : Bool) (e : Ending) (w' : World) : Prop := e = .returned (.bool b) ∧ w = w'
set_option maxHeartbeats 2000000 in
set_option maxRecDepth 100000 in
theorem classOf_any (n : Nat) (hn : n < 256) (w : World) : Calls Try.prog 50 #[.int .u8 (n : Int)] w (RetI0 w (cls n)) := by
  obtain ⟨R, HR⟩ : ∃ R, Hid (cls n = R) := ⟨_, rfl⟩
  rw [HR.out]
  rcases cls_cases n with ⟨h, h1, h2⟩ | ⟨h, h1, h2⟩ | ⟨h, h1, h2⟩ | ⟨h, h1, h2, h3⟩ <;> rw [HR.out] at h <;> subst h
  · have q1 : (97 : Int) ≤ (n : Int) := by omega
    have q2 : (n : Int) ≤ 122 := by omega
    go_enter Try.func50, Try.ntmps50
    go_wp2
    go_ret
    exact ⟨rfl, rfl⟩
  · have q1 : decide ((97 : Int) ≤ (n : Int)) = false := by simp; omega
    have q2 : (65 : Int) ≤ (n : Int) := by omega
    have q3 : (n : Int) ≤ 90 := by omega
    go_enter Try.func50, Try.ntmps50
    go_wp2
    go_ret
    exact ⟨rfl, rfl⟩
  · have q1 : decide ((97 : Int) ≤ (n : Int)) = false := by simp; omega
    have q2 : decide ((65 : Int) ≤ (n : Int)) = false := by simp; omega
    have q3 : (48 : Int) ≤ (n : Int) := by omega
    have q4 : (n : Int) ≤ 57 := by omega
    go_enter Try.func50, Try.ntmps50
    go_wp2
    go_ret
    exact ⟨rfl, rfl⟩
  · go_enter Try.func50, Try.ntmps50
    go_wp2
    all_goals first
      | (exfalso; omega)
      | (go_ret; exact ⟨rfl, rfl⟩)
set_option maxHeartbeats 2000000 in
set_option maxRecDepth 100000 in
theorem lower_any (n : Nat) (hn : n < 256) (w : World) : Calls Try.prog 51 #[.int .u8 (n : Int)] w (RetQ w (decide (97 ≤ n ∧ n ≤ 122))) := by
  obtain ⟨R, HR⟩ : ∃ R, Hid (decide (97 ≤ n ∧ n ≤ 122) = R) := ⟨_, rfl⟩
  rw [HR.out]
  by_cases h1 : 97 ≤ n
  · have q1 : (97 : Int) ≤ (n : Int) := by omega
    by_cases h2 : n ≤ 122
    · obtain rfl : R = true := by rw [← HR.out]; simp; omega
      have q2 : (n : Int) ≤ 122 := by omega
      go_enter Try.func51, Try.ntmps51
      go_wp2
      go_ret
      exact ⟨rfl, rfl⟩
    · obtain rfl : R = false := by rw [← HR.out]; simp; omega
      have q2 : decide ((n : Int) ≤ 122) = false := by simp; omega
      go_enter Try.func51, Try.ntmps51
      go_wp2
      go_ret
      exact ⟨rfl, rfl⟩
  · obtain rfl : R = false := by rw [← HR.out]; simp; omega
    have q1 : decide ((97 : Int) ≤ (n : Int)) = false := by simp; omega
    go_enter Try.func51, Try.ntmps51
    go_wp2
    go_ret
    exact ⟨rfl, rfl⟩
set_option maxHeartbeats 2000000 in
set_option maxRecDepth 100000 in
theorem number_any (n : Nat) (hn : n < 256) (w : World) : Calls Try.prog 52 #[.int .u8 (n : Int)] w (RetQ w (decide (48 ≤ n ∧ n ≤ 57))) := by
  obtain ⟨R, HR⟩ : ∃ R, Hid (decide (48 ≤ n ∧ n ≤ 57) = R) := ⟨_, rfl⟩
  rw [HR.out]
  by_cases h1 : 48 ≤ n
  · have q1 : (48 : Int) ≤ (n : Int) := by omega
    by_cases h2 : n ≤ 57
    · obtain rfl : R = true := by rw [← HR.out]; simp; omega
      have q2 : (n : Int) ≤ 57 := by omega
      go_enter Try.func52, Try.ntmps52
      go_wp2
      go_ret
      exact ⟨rfl, rfl⟩
    · obtain rfl : R = false := by rw [← HR.out]; simp; omega
      have q2 : decide ((n : Int) ≤ 57) = false := by simp; omega
      go_enter Try.func52, Try.ntmps52
      go_wp2
      go_ret
      exact ⟨rfl, rfl⟩
  · obtain rfl : R = false := by rw [← HR.out]; simp; omega
    have q1 : decide ((48 : Int) ≤ (n : Int)) = false := by simp; omega
    go_enter Try.func52, Try.ntmps52
    go_wp2
    go_ret
    exact ⟨rfl, rfl⟩

theorem all_take (f : UInt8 → Bool) {l : List UInt8} {k : Nat} (hk : k < l.length) : (l.take (k + 1)).all f = ((l.take k).all f && f (bAt l k)) := by
  rw [List.take_succ_eq_append_getElem hk, List.all_append, bAt_get hk]; simp
theorem all_bad (f : UInt8 → Bool) {l : List UInt8} {k : Nat} (hk : k < l.length) (h : f (bAt l k) = false) : l.all f = false := by
  rw [List.all_eq_false]
  exact ⟨l[k], List.getElem_mem hk, by rw [← bAt_get hk, h]; simp⟩
def nmOk (b : UInt8) : Bool := decide (cls b.toNat = 1) || decide (cls b.toNat = 3) || decide (b.toNat = 95)
def nameB (l : List UInt8) : Bool := decide (0 < l.length) && decide (l.length ≤ 16) && decide (cls (bAt l 0).toNat = 1) && l.all nmOk
def cdOk (b : UInt8) : Bool := decide (cls b.toNat = 2) || decide (cls b.toNat = 3)
def codeB (l : List UInt8) : Bool := decide (0 < l.length) && decide (l.length ≤ 8) && l.all cdOk
def apOk (b : UInt8) : Bool := decide (cls b.toNat = 2)
def airB (l : List UInt8) : Bool := decide (l.length = 3) && l.all apOk
/-- What '[]byte(s)' gives: the run, the block, its cells. -/
theorem conv_facts (l : List UInt8) (hl : l.length ≤ 9223372036854775807) (w : World) : ∃ C T, l.length ≤ C ∧ C ≤ 9223372036854775807 ∧
    (Go.convert 9 70 (.string ⟨l.toArray⟩)).run Try.prog w = .ok (.slice (some ⟨w.heap.size, 0, none⟩) l.length C) (w.drew.alloc T) ∧
    (∀ k, k < l.length → (w.alloc T).cell? ⟨w.heap.size, k, none⟩ = some (.int .u8 ((bAt l k).toNat : Int))) := by
  refine ⟨grownCap w (⟨l.toArray⟩ : ByteArray).size 0 5, .cells (bytesRow ⟨l.toArray⟩ (grownCap w (⟨l.toArray⟩ : ByteArray).size 0 5)) 5 ((bytesRow ⟨l.toArray⟩ (grownCap w (⟨l.toArray⟩ : ByteArray).size 0 5)).size, (bytesRow ⟨l.toArray⟩ (grownCap w (⟨l.toArray⟩ : ByteArray).size 0 5)).size + 1), ?_, ?_, ?_, ?_⟩
  · have h := grownCap_ge w (⟨l.toArray⟩ : ByteArray).size 0 5
    rw [bsize] at h ⊢; exact h
  · exact grownCap_le_maxLen _ _ _ _ (by rw [bsize]; exact hl)
  · have h := run_bytes_of_string (P := Try.prog) w 9 70 5 ⟨l.toArray⟩ Try.underlying9 Try.underlying70 Try.underlying5
    rw [h]
    congr 2
  · intro k hk
    rw [World.cell?_alloc_mark, bytesRow_at _ _ _ (by simpa using hk), bAt_get hk]
    rfl
theorem below_conv (w : World) (T : Obj) : Below w.heap.size w (w.alloc T).drew := ((Below.refl _ w).alloc (Nat.le_refl _) T).drew
end Go.Proofs.Ytiohakpbgmignaa

