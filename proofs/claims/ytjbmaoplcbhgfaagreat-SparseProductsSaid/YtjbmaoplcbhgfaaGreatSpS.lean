/-
  Equality of canonical vectors and of lists of canonical fractions.
-/
import Derived.Test.YtjbmaoplcbhgfaaGreatVecB
import Derived.StillTailTactics
set_option linter.unusedVariables false
set_option linter.unusedSimpArgs false
namespace Go.Proofs.YtjbmaoplcbhgfaaGreat
open Go.RowKit
set_option maxHeartbeats 8000000 in
set_option maxRecDepth 100000 in
theorem sameV_at {w : World} {A B : Option Addr} {c d : Nat} {l m : List VE} (hA : VC w A l) (hB : VC w B m) (h : l.map VE.v = m.map VE.v) (hl : l.length ≤ 1000000) :
    Calls Tryz.prog 37 #[.slice A l.length c, .slice B m.length d] w (RetT1 w) := by
  have hlm : m.length = l.length := by have := congrArg List.length h; simpa using this.symm
  rw [hlm]
  have HLM := Lib.hid hlm
  have HA := Lib.hid hA
  have HB := Lib.hid hB
  have HH := Lib.hid h
  clear hA hB h hlm
  obtain ⟨L, HL⟩ : ∃ v, Hid (l.length = v) := ⟨_, rfl⟩
  rw [HL.out] at hl HLM
  rw [HL.out]
  have hL0 : (L : Int) = (L : Int) := rfl
  go_enter Tryz.func37, Tryz.ntmps37
  go_upto_region 4 with fail
  go_loopg [5] L (fun r q wr => ∃ k : Nat, k + r = L ∧ q = .int .i64 k ∧ Below w.heap.size w wr)
  case atStart => exact ⟨0, by omega, rfl, Below.refl _ _⟩
  case round =>
    obtain ⟨k, hk, rfl, hW⟩ := hrel
    by_cases hlt : k < L
    · obtain ⟨x, hx⟩ : ∃ z, l[k]? = some z := ⟨l[k]'(by rw [HL.out]; exact hlt), List.getElem?_eq_getElem _⟩
      obtain ⟨y, hy⟩ : ∃ z, m[k]? = some z := ⟨m[k]'(by rw [HLM.out]; exact hlt), List.getElem?_eq_getElem _⟩
      have hxy : VE.v x = VE.v y := by
        have h1 : (l.map VE.v)[k]? = (m.map VE.v)[k]? := by rw [HH.out]
        rw [List.getElem?_map, List.getElem?_map, hx, hy] at h1
        simpa using h1
      obtain ⟨g, o, eA, hg, hcell⟩ := HA.out.2 (by rw [HL.out]; omega)
      obtain ⟨g', o', eB, hg', hcell'⟩ := HB.out.2 (by rw [HLM.out]; omega)
      have hin := (hcell k x hx).call hg hW
      have hin' := (hcell' k y hy).call hg' hW
      have hat := (HA.out.1 x (List.mem_of_getElem? hx)).call hW
      have hat' := (HB.out.1 y (List.mem_of_getElem? hy)).call hW
      obtain ⟨q, s, P, pn, pc, s', P', qn, qc, a, b⟩ := x
      obtain ⟨q2, t, R, rn', rc, t', R', un, uc, a2, b2⟩ := y
      obtain ⟨rfl, rfl, rfl⟩ : q = q2 ∧ a = a2 ∧ b = b2 := by simpa [VE.v] using hxy
      obtain ⟨ck, c0, c1, c2, c3⟩ := hin
      obtain ⟨dk, d0, d1, d2, d3⟩ := hin'
      have hqq : (q != q) = false := by simp
      obtain ⟨i1, i2⟩ := hat
      obtain ⟨i3, i4⟩ := hat'
      simp only at ck c0 c1 c2 c3 dk d0 d1 d2 d3 i1 i2 i3 i4
      clear hcell hcell' hx hy hxy
      subst eA eB
      have j0 : (0 : Int) ≤ (k : Int) := by omega
      have j1 : (k : Int) < (L : Int) := by omega
      have HK := Lib.hid hk
      have HLT := Lib.hid hlt
      have HW := Lib.hid hW
      clear hk hW
      have hdr := (Below.refl wr.heap.size wr).drew
      have I1 := i1.call hdr
      have I2 := i2.call hdr
      have I3 := i3.call hdr
      have I4 := i4.call hdr
      clear i1 i2 i3 i4
      go_upto_region 6 with fail
      go_still_tail 22, (by kernel_rfl)
      change wpList _ _ _ _ _ wr.drew
      generalize wr.drew = w1 at *
      go_wp2_with (first
        | (go_at_call 15; (with_reducible refine (sameFrac_at I1 I2 I3 I4).mono ?_); rintro ee w2 ⟨rfl, g2⟩)
        | fail)
      go_roundg (gk - 1)
      case rel => exact ⟨k + 1, by have := HK.out; have := HLT.out; omega, by go_num, bcall (bcall HW.out hdr) g2⟩
      case measure => have := HK.out; have := HLT.out; omega
    · obtain rfl : k = L := by omega
      have j1 : ¬ (k : Int) < (k : Int) := by omega
      go_wp2_with fail
      go_ret
      exact ⟨rfl, hW⟩

end Go.Proofs.YtjbmaoplcbhgfaaGreat

