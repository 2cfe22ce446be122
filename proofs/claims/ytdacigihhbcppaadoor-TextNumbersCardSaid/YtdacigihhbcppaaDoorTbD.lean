/-
  The program's Fields: the parts of a line that are no blanks, up to a comment.
-/
import Derived.Test.YtdacigihhbcppaaDoorTbC
import Derived.Maps.AppendAt
set_option linter.unusedVariables false
set_option linter.unusedSimpArgs false
namespace Go.Proofs.YtdacigihhbcppaaDoor
open Go.RowKit Go.Shelf
attribute [local go_sem] Oper.semAt_some

/-- What stands before the first byte b. -/
def bef (b : UInt8) (l : List UInt8) : List UInt8 := if idx l b = -1 then l else l.take (idx l b).toNat
theorem bef_len (b : UInt8) (l : List UInt8) : (bef b l).length ≤ l.length := by
  unfold bef; split
  · exact Nat.le_refl _
  · rw [List.length_take]; omega
def RetCut3 (w : World) (a : Option Addr) (n c : Nat) (e : Ending) (w' : World) : Prop := ∃ v2 v3, e = .returned (.tuple #[.slice a n c, v2, v3]) ∧ ∃ q, w' = w.drewN q
theorem cut_any {S : Nat → Prop} (a : Option Addr) (n c g d : Nat) (l : List UInt8) (cv : Int) (w : World) (hn : l.length = n) (hc : n ≤ c) (hm : c ≤ 9223372036854775807) (h : BIn S w a l) (hs : w.cell? ⟨g, 0, none⟩ = some (.int .u8 cv)) :
    Calls Tryd.prog 29 #[.slice a n c, .slice (some ⟨g, 0, none⟩) 1 d] w (RetCut3 w a (bef cv.toNat.toUInt8 l).length c) := by
  have hlo := idx_lo l cv.toNat.toUInt8
  have hhi := idx_hi l cv.toNat.toUInt8
  unfold bef
  by_cases hi : idx l cv.toNat.toUInt8 = -1
  · rw [if_pos hi, hn]
    refine (cut_none a n c g d l cv w hn h hs hi).mono fun e w' ⟨he, hw⟩ => ⟨_, _, he, 0, hw.symm⟩
  · rw [if_neg hi]
    obtain ⟨i, hi2⟩ : ∃ i : Nat, idx l cv.toNat.toUInt8 = (i : Int) := ⟨(idx l cv.toNat.toUInt8).toNat, by omega⟩
    rw [hi2] at hhi ⊢
    rw [show (l.take (i : Int).toNat).length = i by rw [List.length_take]; omega]
    exact (cut_some a n c g d i l cv w hn hc hm h hs hi2).mono fun e w' ⟨v, he, hw⟩ => ⟨_, _, he, hw⟩
theorem bef_take (b : UInt8) (l : List UInt8) : ∃ k, bef b l = l.take k := by
  unfold bef; split
  · exact ⟨l.length, by simp⟩
  · exact ⟨_, rfl⟩

/-- '[]byte(s)' in a block of its own. -/
theorem BIn.of_row (w : World) (l : List UInt8) (C : Nat) (t : TypeId) (fr : Nat × Nat) : BIn (· = w.heap.size) (w.alloc (.cells (bytesRow ⟨l.toArray⟩ C) t fr)) (some ⟨w.heap.size, 0, none⟩) l := by
  refine .inr ⟨w.heap.size, 0, rfl, rfl, fun i hi => ?_⟩
  rw [World.cell?_alloc_mark, Nat.zero_add, bytesRow_at _ _ _ (by simpa using hi), bAt_get hi]
  rfl
theorem BIn.convert {S : Nat → Prop} {w : World} {a : Option Addr} {l : List UInt8} (h : BIn S w a l) (n c : Nat) (hn : l.length = n) :
    (Go.convert 29 9 (.slice a n c)).run Tryd.prog w = .ok (.string ⟨l.toArray⟩) w := by
  subst hn
  have key : ∀ x : Addr, (∀ j (hj : j < l.length), w.cell? (x.add j) = some (.int .u8 (l[j].toNat : Int))) → a = some x → (Go.convert 29 9 (.slice a l.length c)).run Tryd.prog w = .ok (.string ⟨l.toArray⟩) w := fun x hx ha => by
    rw [ha]
    exact run_convert_bytes_back w 29 9 5 x c l Tryd.underlying29 Tryd.underlying5 Tryd.underlying9 hx
  rcases h with h | ⟨g, o, _, ha, hc⟩
  · subst h
    cases a with
    | none => exact run_convert_bytes_nil w 29 5 Tryd.underlying29 Tryd.underlying5 0 c 9 Tryd.underlying9
    | some x => exact key x (fun j hj => absurd hj (by simp)) rfl
  · refine key ⟨g, o, none⟩ (fun j hj => ?_) ha
    rw [show (⟨g, o, none⟩ : Addr).add j = ⟨g, o + j, none⟩ by unfold Addr.add; split <;> simp_all, hc j hj, bAt_get hj]

def RetSplit (w : World) (sv pv : Value) (e : Ending) (w' : World) : Prop :=
  e = .returned (.func (.func 52) #[] #[.pointer (some ⟨w.heap.size + 1, 0, none⟩), .pointer (some ⟨w.heap.size, 0, none⟩), .pointer (some ⟨w.heap.size + 2, 0, none⟩)]) ∧
  w' = ((w.alloc (.cells #[sv] 29)).alloc (.cells #[pv] 29)).alloc (.cells #[.int .i64 0] 3)
set_option maxHeartbeats 2000000 in
set_option maxRecDepth 100000 in
theorem splitSeq_any (a b : Option Addr) (n c m d : Nat) (w : World) : Calls Tryd.prog 30 #[.slice a n c, .slice b m d] w (RetSplit w (.slice a n c) (.slice b m d)) := by
  go_enter Tryd.func30, Tryd.ntmps30
  go_wp2
  go_ret
  exact ⟨rfl, rfl⟩
end Go.Proofs.YtdacigihhbcppaaDoor

