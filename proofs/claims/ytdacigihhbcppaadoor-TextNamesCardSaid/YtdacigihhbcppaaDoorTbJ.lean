/-
  The law TextNames walked: the program's IsName, IsCode and IsAirport agree with the reference's at every string.
-/
import Derived.Test.YtdacigihhbcppaaDoorTbI
set_option linter.unusedVariables false
set_option linter.unusedSimpArgs false
namespace Go.Proofs.YtdacigihhbcppaaDoor
open Go.RowKit

set_option maxHeartbeats 4000000 in
set_option maxRecDepth 100000 in
theorem textNames_any (l : List UInt8) (hl : l.length ≤ 9223372036854775807) (w : World) : Calls Tryd.prog 8 #[.string ⟨l.toArray⟩] w (RetB1 w true) := by
  have p1 := pIsName_any l hl
  have p2 := pIsCode_any l hl
  have p3 := pIsAirport_any l hl
  have r1 := rIsName_any l hl
  have r2 := rIsCode_any l hl
  have r3 := rIsAirport_any l hl
  obtain ⟨B1, HB1⟩ : ∃ v, Hid (nameB l = v) := ⟨_, rfl⟩
  obtain ⟨B2, HB2⟩ : ∃ v, Hid (codeB l = v) := ⟨_, rfl⟩
  obtain ⟨B3, HB3⟩ : ∃ v, Hid (airB l = v) := ⟨_, rfl⟩
  rw [HB1.out] at p1 r1
  rw [HB2.out] at p2 r2
  rw [HB3.out] at p3 r3
  go_enter Tryd.func8, Tryd.ntmps8
  go_wp2_with (first
    | (go_at_call 16; (with_reducible refine (p1 _).mono ?_); rintro e w1 ⟨rfl, g1⟩)
    | (go_at_call 17; (with_reducible refine (r1 _).mono ?_); rintro e w1' ⟨rfl, rfl⟩)
    | (go_at_call 18; (with_reducible refine (p2 _).mono ?_); rintro e w2 ⟨rfl, g2⟩)
    | (go_at_call 19; (with_reducible refine (r2 _).mono ?_); rintro e w2' ⟨rfl, rfl⟩)
    | (go_at_call 20; (with_reducible refine (p3 _).mono ?_); rintro e w3 ⟨rfl, g3⟩)
    | (go_at_call 21; (with_reducible refine (r3 _).mono ?_); rintro e w3' ⟨rfl, rfl⟩)
    | (go_at_call 10; (with_reducible refine (awake_any _).mono ?_); rintro e w4 ⟨rfl, g4⟩)
    | fail)
  go_ret
  have b2 := g1.trans (g2.mono g1.size)
  have b3 := b2.trans (g3.mono b2.size)
  exact ⟨rfl, b3.trans (g4.mono b3.size)⟩
end Go.Proofs.YtdacigihhbcppaaDoor

