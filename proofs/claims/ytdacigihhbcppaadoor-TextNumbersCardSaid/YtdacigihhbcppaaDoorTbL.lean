/-
  The law TextFields walked: the program's Fields agrees with the reference's at every string of at most 5000 bytes.
-/
import Derived.Test.YtdacigihhbcppaaDoorTbK
set_option linter.unusedVariables false
set_option linter.unusedSimpArgs false
namespace Go.Proofs.YtdacigihhbcppaaDoor
open Go.RowKit

/-- What a call returns: a slice that reads as these texts, in memory that exists. -/
def RetS (w : World) (fs : List (List UInt8)) (e : Ending) (w' : World) : Prop := ∃ a n c, e = .returned (.slice a n c) ∧ SIn w' a n fs ∧ n ≤ c ∧ c ≤ 9223372036854775807 ∧ (∀ x, a = some x → x.block < w'.heap.size) ∧ Below w.heap.size w w'
theorem RetStrs.toS {w : World} {fs : List (List UInt8)} {e : Ending} {w' : World} (h : RetStrs w fs e w') : RetS w fs e w' := by
  obtain ⟨v, rfl, ho, hb⟩ := h
  obtain ⟨a, c, rfl, h1, h2, h3, h4⟩ := SIn.of_owns ho
  refine ⟨a, _, c, rfl, h3, h1, h2, fun x hx => ?_, hb⟩
  subst hx
  obtain ⟨_, o, h5, _⟩ := ownsRow_block ho x.block rfl
  exact (Array.getElem?_eq_some_iff.1 h5).1
theorem SIn.below {w w' : World} {a : Option Addr} {n : Nat} {ls : List (List UInt8)} (h : SIn w a n ls) (ha : ∀ x, a = some x → x.block < w.heap.size) (hb : Below w.heap.size w w') : SIn w' a n ls := by
  obtain ⟨h1, h2⟩ := h
  refine ⟨h1, ?_⟩
  rcases h2 with h2 | ⟨g, o, h2, h3⟩
  · exact .inl h2
  · refine .inr ⟨g, o, h2, fun i hi => ?_⟩
    have hg : g < w.heap.size := ha _ h2
    exact (hb.cell (p := ⟨g, o + i, none⟩) hg).trans (h3 i hi)
theorem fieldsV_len (l : List UInt8) : (fieldsV l).length ≤ l.length + 1 := by
  have h1 := ne_len (pieces 32 (bef 35 l))
  have h2 := pieces_len 32 (bef 35 l)
  have h3 := bef_len 35 l
  unfold fieldsV; omega
theorem pfieldsS (l : List UInt8) (hl : l.length ≤ 9223372036854775807) (hb : (bef 35 l).length ≤ 100000) (w : World) : Calls Tryd.prog 14 #[.string ⟨l.toArray⟩] w (RetS w (fieldsV l)) :=
  (fields_any l hl hb w).mono fun _ _ h => h.toS
theorem rfieldsS (l : List UInt8) (hl : l.length ≤ 100000) (w : World) : Calls Tryd.prog 15 #[.string ⟨l.toArray⟩] w (RetS w (fieldsV l)) :=
  (rfields_any l hl w).mono fun _ _ h => h.toS

set_option maxHeartbeats 4000000 in
set_option maxRecDepth 100000 in
theorem textFields_any (l : List UInt8) (hl : l.length ≤ 9223372036854775807) (w : World) : Calls Tryd.prog 6 #[.string ⟨l.toArray⟩] w (RetB1 w true) := by
  have hsz := bsize l
  by_cases h5 : 5000 < l.length
  · obtain ⟨L, HL⟩ : ∃ v, Hid (l.length = v) := ⟨_, rfl⟩
    rw [HL.out] at hsz h5
    have q1 : (5000 : Int) < (L : Int) := by omega
    clear hl
    go_enter Tryd.func6, Tryd.ntmps6
    go_wp2_with (go_at_call 10; (with_reducible refine (awake_any _).mono ?_); rintro e w1 ⟨rfl, g1⟩)
    go_ret
    exact ⟨rfl, g1⟩
  · have hp := pfieldsS l hl (Nat.le_trans (bef_len 35 l) (by omega))
    have hr := rfieldsS l (by omega)
    have hlen := fieldsV_len l
    obtain ⟨L, HL⟩ : ∃ v, Hid (l.length = v) := ⟨_, rfl⟩
    obtain ⟨FV, HF⟩ : ∃ v, Hid (fieldsV l = v) := ⟨_, rfl⟩
    rw [HF.out] at hp hr hlen
    rw [HL.out] at hsz h5 hlen
    have q1 : decide ((5000 : Int) < (L : Int)) = false := by simp; omega
    have hFV : FV.length ≤ 1000000 := by omega
    clear hl h5 hlen
    have HP := Lib.hid hp
    have HR := Lib.hid hr
    clear hp hr
    go_enter Tryd.func6, Tryd.ntmps6
    go_wp2_with fail
    refine (HP.out _).mono ?_
    rintro e w1 ⟨a, n, c, rfl, s1, c1, c2, b1, g1⟩
    go_wp2_with fail
    refine (HR.out _).mono ?_
    rintro e w2 ⟨b, m, d, rfl, s2, d1, d2, b2, g2⟩
    go_wp2_with fail
    have s3 := s1.below b1 g2
    have hs := same_any a b n m c d FV FV w2 s3 s2 (by rw [← s1.1]; exact hFV) c1 d1 c2 d2
    rw [show decide (FV = FV) = true by simp] at hs
    refine hs.mono ?_
    rintro e w3 ⟨rfl, q, rfl⟩
    go_wp2_with (go_at_call 10; (with_reducible refine (awake_any _).mono ?_); rintro e w4 ⟨rfl, g4⟩)
    go_ret
    have b3 := below_drewN (g1.trans (g2.mono g1.size)) q
    exact ⟨rfl, b3.trans (g4.mono b3.size)⟩
end Go.Proofs.YtdacigihhbcppaaDoor

