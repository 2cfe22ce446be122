/-
  The library's cutting at a byte.
-/
import Derived.Test.YtdacigihhbcppaaDoorTbA
set_option linter.unusedVariables false
set_option linter.unusedSimpArgs false
namespace Go.Proofs.YtdacigihhbcppaaDoor
open Go.RowKit

theorem idx_hi : ∀ (l : List UInt8) (b : UInt8), idx l b < l.length
  | [], b => by show Lib.indexByte [] b < _; simp [Lib.indexByte]
  | c :: l, b => by
    have ih := idx_hi l b
    have h0 := idx_lo l b
    unfold idx at *
    unfold Lib.indexByte
    split
    · simp only [List.length_cons]; omega
    · split <;> simp only [List.length_cons] <;> omega

set_option maxHeartbeats 2000000 in
set_option maxRecDepth 100000 in
theorem cut_none {S : Nat → Prop} (a : Option Addr) (n c g d : Nat) (l : List UInt8) (cv : Int) (w : World) (hn : l.length = n) (h : BIn S w a l) (hs : w.cell? ⟨g, 0, none⟩ = some (.int .u8 cv)) (hi : idx l cv.toNat.toUInt8 = -1) :
    Calls Tryd.prog 29 #[.slice a n c, .slice (some ⟨g, 0, none⟩) 1 d] w fun e w' => e = .returned (.tuple #[.slice a n c, .slice none 0 0, .bool false]) ∧ w = w' := by
  have hx := index_one a n c g d l cv w hn h hs
  rw [hi] at hx
  clear h hn hi
  go_enter Tryd.func29, Tryd.ntmps29
  go_wp2_with (go_at_call 43; (with_reducible refine hx.mono ?_); rintro e w1 ⟨rfl, rfl⟩)
  go_ret3
  exact ⟨rfl, rfl⟩
def RetCutS (w : World) (a : Option Addr) (i c : Nat) (e : Ending) (w' : World) : Prop := ∃ v, e = .returned (.tuple #[.slice a i c, v, .bool true]) ∧ ∃ q, w' = w.drewN q
set_option maxHeartbeats 2000000 in
set_option maxRecDepth 100000 in
theorem cut_some {S : Nat → Prop} (a : Option Addr) (n c g d i : Nat) (l : List UInt8) (cv : Int) (w : World) (hn : l.length = n) (hc : n ≤ c) (hm : c ≤ 9223372036854775807) (h : BIn S w a l) (hs : w.cell? ⟨g, 0, none⟩ = some (.int .u8 cv)) (hi : idx l cv.toNat.toUInt8 = (i : Int)) :
    Calls Tryd.prog 29 #[.slice a n c, .slice (some ⟨g, 0, none⟩) 1 d] w (RetCutS w a i c) := by
  have hx := index_one a n c g d l cv w hn h hs
  have hlt := idx_hi l cv.toNat.toUInt8
  rw [hi] at hx hlt
  rw [hn] at hlt
  clear h hn hi
  have k1 : IntKind.i64.wrap ((i : Int) + 1) = (i : Int) + 1 := IntWalk.i64_in _ (by omega)
  have k2 : (0 : Int) ≤ (i : Int) + 1 := by omega
  have k3 : ((i : Int) + 1).toNat = i + 1 := by omega
  have k4 : (i : Int) + 1 ≤ (n : Int) := by omega
  have k5 : (i : Int) ≤ (c : Int) := by omega
  go_enter Tryd.func29, Tryd.ntmps29
  go_wp2_with (go_at_call 43; (with_reducible refine hx.mono ?_); rintro e w1 ⟨rfl, rfl⟩)
  go_quiet (fail)
  go_wp2_with fail
  all_goals
    go_ret3
    exact ⟨_, rfl, _, rfl⟩
end Go.Proofs.YtdacigihhbcppaaDoor

