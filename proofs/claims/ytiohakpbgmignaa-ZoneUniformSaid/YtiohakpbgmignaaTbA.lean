/-
  Bytes in memory: a slice value that reads as a list of bytes; the library's search for a byte.
-/
import Derived.WalkKit
import Derived.Test.YtiohakpbgmignaaChecked
import Derived.WalkLawsBesides
import Derived.Deep.LoopGhost
import Derived.Deep.OwnRows
import Derived.Deep.Cut
import Derived.Lib.Hide
import Derived.Deep.QuietTactic
import Derived.BigQuiet
import Derived.OwnWalk
import Derived.IntWalk
import Derived.Laws.AppendOwnNone
import Derived.Shelf.Bytes.SlIndexAt
set_option linter.unusedVariables false
set_option linter.unusedSimpArgs false
namespace Go.Proofs.Ytiohakpbgmignaa
open Go.RowKit

def bAt (l : List UInt8) (k : Nat) : UInt8 := l.getD k 0
theorem bsize (l : List UInt8) : (⟨l.toArray⟩ : ByteArray).size = l.length := by show l.toArray.size = _; simp
theorem bget {l : List UInt8} {k : Nat} (hk : k < l.length) : ∀ h, ((⟨l.toArray⟩ : ByteArray)[k]'h) = bAt l k := by
  intro h
  show l.toArray[k] = _
  unfold bAt
  simp [List.getD, List.getElem?_eq_getElem hk]
theorem bAt_get {l : List UInt8} {k : Nat} (hk : k < l.length) : bAt l k = l[k] := by
  unfold bAt; simp [List.getD, List.getElem?_eq_getElem hk]
theorem bAt_drop (l : List UInt8) (i k : Nat) : bAt (l.drop i) k = bAt l (i + k) := by
  unfold bAt; simp [List.getD, List.getElem?_drop]
theorem bAt_take {l : List UInt8} {i k : Nat} (h : k < i) : bAt (l.take i) k = bAt l k := by
  unfold bAt; simp [List.getD, List.getElem?_take_of_lt h]
theorem drop_bAt {l : List UInt8} {k : Nat} (h : k < l.length) : l.drop k = bAt l k :: l.drop (k + 1) := by
  rw [bAt_get h]; exact List.drop_eq_getElem_cons h

/-- The slice at a reads as the bytes l, in a block of which S holds. -/
def BIn (S : Nat → Prop) (w : World) (a : Option Addr) (l : List UInt8) : Prop :=
  l = [] ∨ ∃ g o, S g ∧ a = some ⟨g, o, none⟩ ∧ ∀ i, i < l.length → w.cell? ⟨g, o + i, none⟩ = some (.int .u8 ((bAt l i).toNat : Int))
def Any_ : Nat → Prop := fun _ => True
theorem BIn.nil (S : Nat → Prop) (w : World) (a : Option Addr) : BIn S w a [] := .inl rfl
theorem BIn.weak {S T : Nat → Prop} {w : World} {a : Option Addr} {l : List UInt8} (h : BIn S w a l) (hST : ∀ g, S g → T g) : BIn T w a l := by
  rcases h with h | ⟨g, o, hS, ha, hc⟩
  · exact .inl h
  · exact .inr ⟨g, o, hST g hS, ha, hc⟩
theorem BIn.any {S : Nat → Prop} {w : World} {a : Option Addr} {l : List UInt8} (h : BIn S w a l) : BIn Any_ w a l := h.weak (fun _ _ => trivial)
theorem BIn.kept {S : Nat → Prop} {w w' : World} {a : Option Addr} {l : List UInt8} (h : BIn S w a l) (hk : ∀ g, S g → w'.heap[g]? = w.heap[g]?) : BIn S w' a l := by
  rcases h with h | ⟨g, o, hS, ha, hc⟩
  · exact .inl h
  · exact .inr ⟨g, o, hS, ha, fun i hi => (World.cell?_of_block (hk g hS)).trans (hc i hi)⟩
theorem BIn.take {S : Nat → Prop} {w : World} {a : Option Addr} {l : List UInt8} (h : BIn S w a l) (k : Nat) : BIn S w a (l.take k) := by
  rcases h with h | ⟨g, o, hS, ha, hc⟩
  · left; rw [h]; simp
  · refine .inr ⟨g, o, hS, ha, fun i hi => ?_⟩
    rw [List.length_take] at hi
    rw [bAt_take (by omega)]; exact hc i (by omega)
theorem BIn.drop {S : Nat → Prop} {w : World} {a : Option Addr} {l : List UInt8} (h : BIn S w a l) (k c : Nat) (hc : l.length ≤ c) : BIn S w (if c = k then a else a.map (·.add k)) (l.drop k) := by
  by_cases hk : l.length ≤ k
  · left; exact List.drop_eq_nil_of_le hk
  · rw [if_neg (by omega)]
    rcases h with h | ⟨g, o, hS, ha, hx⟩
    · left; rw [h]; simp
    · refine .inr ⟨g, o + k, hS, by rw [ha]; simp [Addr.add], fun i hi => ?_⟩
      rw [List.length_drop] at hi
      rw [bAt_drop, Nat.add_assoc]; exact hx (k + i) (by omega)
theorem BIn.dropW {S : Nat → Prop} {w : World} {a : Option Addr} {l : List UInt8} (h : BIn S w a l) (k c : Nat) (hc : l.length ≤ c) : BIn S w (if c = k then a else a.map (fun x => { block := x.block, off := x.off + k })) (l.drop k) := by
  by_cases hk : l.length ≤ k
  · left; exact List.drop_eq_nil_of_le hk
  · rw [if_neg (by omega)]
    rcases h with h | ⟨g, o, hS, ha, hx⟩
    · left; rw [h]; simp
    · refine .inr ⟨g, o + k, hS, by rw [ha]; rfl, fun i hi => ?_⟩
      rw [List.length_drop] at hi
      rw [bAt_drop, Nat.add_assoc]; exact hx (k + i) (by omega)

/-- Where the byte b is found first; -1 where it isn't. -/
def idx (l : List UInt8) (b : UInt8) : Int := Lib.indexByte l b
theorem idx_lo (l : List UInt8) (b : UInt8) : -1 ≤ idx l b := Lib.indexByte_ge l b
def nums (l : List UInt8) : List Int := l.map fun b => (b.toNat : Int)
theorem nums_len (l : List UInt8) : (nums l).length = l.length := by simp [nums]
theorem nums_getD {l : List UInt8} {i : Nat} (h : i < l.length) : (nums l).getD i 0 = ((bAt l i).toNat : Int) := by
  simp [nums, bAt, List.getD, List.getElem?_map, List.getElem?_eq_getElem h]
theorem nums_bytes (l : List UInt8) : Lib.bytesOf (nums l) = l := by
  unfold Lib.bytesOf nums
  rw [List.map_map]
  conv => rhs; rw [← List.map_id l]
  apply List.map_congr_left
  intro x _
  simp

end Go.Proofs.Ytiohakpbgmignaa

