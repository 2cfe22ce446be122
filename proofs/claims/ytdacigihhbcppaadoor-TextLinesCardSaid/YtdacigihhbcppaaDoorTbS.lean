/-
  The law TextLines walked: the program's Lines agrees with the reference's at every string of at most 30000 bytes.
-/
import Derived.Test.YtdacigihhbcppaaDoorTbR
set_option linter.unusedVariables false
set_option linter.unusedSimpArgs false
namespace Go.Proofs.YtdacigihhbcppaaDoor
open Go.RowKit

theorem linesL_len (l : List UInt8) : (linesL l).length ≤ l.length + 1 := by
  unfold linesL
  split
  · rw [lines_lw]; exact lw_len l []
  · simp
set_option maxHeartbeats 4000000 in
set_option maxRecDepth 100000 in
theorem textLines_any (l : List UInt8) (hl : l.length ≤ 9223372036854775807) (w : World) : Calls Tryd.prog 3 #[.string ⟨l.toArray⟩] w (RetB1 w true) := by
  have hsz := bsize l
  by_cases h5 : 30000 < l.length
  · obtain ⟨L, HL⟩ : ∃ v, Hid (l.length = v) := ⟨_, rfl⟩
    rw [HL.out] at hsz h5
    have q1 : (30000 : Int) < (L : Int) := by omega
    clear hl
    go_enter Tryd.func3, Tryd.ntmps3
    go_wp2_with (go_at_call 10; (with_reducible refine (awake_any _).mono ?_); rintro e w1 ⟨rfl, g1⟩)
    go_ret
    exact ⟨rfl, g1⟩
  have hp := lines_any l
  have hr := rlines_any l (by omega)
  have hlen := linesL_len l
  obtain ⟨L, HL⟩ : ∃ v, Hid (l.length = v) := ⟨_, rfl⟩
  obtain ⟨LL, HLL⟩ : ∃ v, Hid (linesL l = v) := ⟨_, rfl⟩
  obtain ⟨E, HE⟩ : ∃ v, Hid (linesE l = v) := ⟨_, rfl⟩
  rw [HLL.out, HE.out] at hp hr
  rw [HLL.out] at hlen
  rw [HL.out] at hsz h5 hlen
  have q1 : decide ((30000 : Int) < (L : Int)) = false := by simp; omega
  have hLL : LL.length ≤ 1000000 := by omega
  have HP := Lib.hid hp
  have HR := Lib.hid hr
  clear hp hr hl h5 hlen
  go_enter Tryd.func3, Tryd.ntmps3
  go_wp2_with fail
  refine (HP.out _).mono ?_
  rintro e w1 ⟨a, n, c, rfl, s1, c1, c2, b1, g1⟩
  go_wp2_with fail
  refine (HR.out _).mono ?_
  rintro e w2 ⟨b, m, d, rfl, s2, d1, d2, b2, g2⟩
  go_wp2_with fail
  have s3 := s1.below b1 g2
  have hs := same_any a b n m c d LL LL w2 s3 s2 (by rw [← s1.1]; exact hLL) c1 d1 c2 d2
  rw [show decide (LL = LL) = true by simp] at hs
  refine hs.mono ?_
  rintro e w3 ⟨rfl, q, rfl⟩
  go_wp2_with (go_at_call 10; (with_reducible refine (awake_any _).mono ?_); rintro e w4 ⟨rfl, g4⟩)
  go_ret
  have b3 := below_drewN (g1.trans (g2.mono g1.size)) q
  exact ⟨rfl, b3.trans (g4.mono b3.size)⟩
end Go.Proofs.YtdacigihhbcppaaDoor

