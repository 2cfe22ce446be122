/-
  The arithmetic of fractions, by the reference.
-/
import Derived.Test.YtekoeohkkabkdaaGreatRfrac
import Derived.Test.YtekoeohkkabkdaaGreatFrcC
set_option linter.unusedVariables false
set_option linter.unusedSimpArgs false
namespace Go.Proofs.YtekoeohkkabkdaaGreat
open Go.RowKit

theorem field_num (s s' : Bool) (A A' : Option Addr) (n c n' c' : Nat) (w : World) : (Instr.field 26 (.agg #[.bool s, .slice A n c, .bool s', .slice A' n' c']) 0).run Tryz.prog w = .ok (.agg #[.bool s, .slice A n c]) w := by kernel_rfl
theorem field_den (s s' : Bool) (A A' : Option Addr) (n c n' c' : Nat) (w : World) : (Instr.field 26 (.agg #[.bool s, .slice A n c, .bool s', .slice A' n' c']) 1).run Tryz.prog w = .ok (.agg #[.bool s', .slice A' n' c']) w := by kernel_rfl

theorem IntAt.len_ {w : World} {s : Bool} {A : Option Addr} {n c : Nat} {x : Int} (h : IntAt w s A n c x) : n ≤ 1000000 := h.lim
theorem same2_at {w : World} {s1 s2 s3 s4 : Bool} {A1 A2 A3 A4 : Option Addr} {n1 c1 n2 c2 n3 c3 n4 c4 : Nat} {x y : Int} (h1 : CanAt w s1 A1 n1 c1 x) (h2 : CanAt w s2 A2 n2 c2 y) (h3 : CanAt w s3 A3 n3 c3 x) (h4 : CanAt w s4 A4 n4 c4 y) :
    Calls Tryz.prog 10 #[.agg #[.bool s1, .slice A1 n1 c1, .bool s2, .slice A2 n2 c2], .agg #[.bool s3, .slice A3 n3 c3, .bool s4, .slice A4 n4 c4]] w (RetT1 w) := by
  have H0 := ((((((St.start w).add h4).add h3).add h2).add h1).new 26 (Plains.four s1 A1 n1 c1 s2 A2 n2 c2)).new 26 (Plains.four s3 A3 n3 c3 s4 A4 n4 c4)
  simp only [World.size_alloc] at H0
  have HH := Lib.hid H0
  clear H0 h1 h2 h3 h4
  go_enter Tryz.func10, Tryz.ntmps10
  go_wp2_with (first
    | (go_at_call 34; have K := HH.out; clear HH; have i1 := K.ints.1.c; have i2 := K.ints.2.1.c; have i3 := K.ints.2.2.1.c; have i4 := K.ints.2.2.2.1.c; (with_reducible refine (sameFrac_at i1 i2 i3 i4).mono ?_); rintro e w1 ⟨rfl, g1⟩; have K1 := K.call g1)
    | fail)
  go_ret
  exact ⟨rfl, K1.below⟩
end Go.Proofs.YtekoeohkkabkdaaGreat

