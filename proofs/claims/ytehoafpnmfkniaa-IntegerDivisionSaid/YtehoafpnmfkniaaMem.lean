/-
  Digits in memory: a slice value that reads as a list of digits.
-/
import Derived.Test.YtehoafpnmfkniaaNum
import Derived.Test.YtehoafpnmfkniaaChecked
import Derived.WalkKit
import Derived.WalkLawsBesides
import Derived.Deep.LoopGhost
import Derived.Deep.OwnRows
import Derived.Deep.Cut
import Derived.Deep.Light
import Derived.Lib.Hide
import Derived.Deep.QuietTactic
import Derived.BigQuiet
set_option linter.unusedVariables false
set_option linter.unusedSimpArgs false
namespace Go.Proofs.Ytehoafpnmfkniaa
open Go.RowKit

/-- The slice with address A and length n reads as the digits ds; it lies below block B. -/
def Dgs (w : World) (B : Nat) (A : Option Addr) (n : Nat) (ds : List Nat) : Prop :=
  ds.length = n ∧ Dig ds ∧ (0 < n → ∃ b off, A = some ⟨b, off, none⟩ ∧ b < B ∧ ∀ j, j < n → w.cell? ⟨b, off + j, none⟩ = some (.int .u32 (ds.getD j 0 : Nat)))

section
variable {w w' : World} {B B' n : Nat} {A : Option Addr} {ds : List Nat}
theorem Dgs.len (h : Dgs w B A n ds) : ds.length = n := h.1
theorem Dgs.dig (h : Dgs w B A n ds) : Dig ds := h.2.1
theorem Dgs.none_ : Dgs w B A 0 [] := ⟨rfl, Dig.nil, fun h => absurd h (Nat.lt_irrefl _)⟩
theorem Dgs.at_ (h : Dgs w B A n ds) (hn : 0 < n) : ∃ b off, A = some ⟨b, off, none⟩ ∧ b < B ∧ ∀ j, j < n → w.cell? ⟨b, off + j, none⟩ = some (.int .u32 (ds.getD j 0 : Nat)) := h.2.2 hn
theorem Dgs.keep (h : Dgs w B A n ds) (hk : ∀ p : Addr, p.block < B → w'.cell? p = w.cell? p) : Dgs w' B A n ds :=
  ⟨h.1, h.2.1, fun hn => by
    obtain ⟨b, off, e, hb, hc⟩ := h.2.2 hn
    exact ⟨b, off, e, hb, fun j hj => (hk _ hb).trans (hc j hj)⟩⟩
theorem Dgs.more (h : Dgs w B A n ds) (hB : B ≤ B') : Dgs w B' A n ds :=
  ⟨h.1, h.2.1, fun hn => by
    obtain ⟨b, off, e, hb, hc⟩ := h.2.2 hn
    exact ⟨b, off, e, by omega, hc⟩⟩
theorem Dgs.below (h : Dgs w B A n ds) (hb : Below B w w') : Dgs w' B A n ds := h.keep fun _ hp => hb.cell hp
theorem Dgs.alloc (h : Dgs w B A n ds) (hB : B ≤ w.heap.size) (o : Obj) : Dgs (w.alloc o) B A n ds := h.keep fun p hp => World.cell?_alloc_lt w o p (by omega)
theorem Dgs.take (h : Dgs w B A n ds) {k : Nat} (hk : k ≤ n) : Dgs w B A k (ds.take k) := by
  obtain ⟨h1, h2, h3⟩ := h
  refine ⟨by rw [List.length_take, h1]; omega, h2.take k, fun hn => ?_⟩
  obtain ⟨b, off, e, hb, hc⟩ := h3 (by omega)
  refine ⟨b, off, e, hb, fun j hj => ?_⟩
  rw [hc j (by omega)]
  have : (ds.take k).getD j 0 = ds.getD j 0 := by simp [List.getD, hj]
  rw [this]
end
end Go.Proofs.Ytehoafpnmfkniaa
