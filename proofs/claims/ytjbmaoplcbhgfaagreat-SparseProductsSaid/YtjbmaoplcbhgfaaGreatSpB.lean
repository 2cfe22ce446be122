/-
  The program's and the reference's FromDense; equality of canonical vectors and of lists of canonical fractions.
-/
import Derived.Test.YtjbmaoplcbhgfaaGreatSpA
import Derived.Test.YtjbmaoplcbhgfaaGreatOwnP
set_option linter.unusedVariables false
set_option linter.unusedSimpArgs false
namespace Go.Proofs.YtjbmaoplcbhgfaaGreat
open Go.RowKit

theorem entry_plain (k : Int) (s : Bool) (A : Option Addr) (n c : Nat) (t : Bool) (B : Option Addr) (m d : Nat) : Plains [.int .i64 k, .bool s, .slice A n c, .bool t, .slice B m d] :=
  ⟨Plain.int _ _ (by decide), Plain.bool _, Plain.slice _ _ _, Plain.bool _, Plain.slice _ _ _, trivial⟩
theorem FE.C.grown {w w' : World} {B : Nat} {t : TypeId} {size : Nat} {v : Value} {n : Nat} {xs : List Value} {e : FE} (h : FE.C w e) (hr : PRow w B t size v n xs) (hg : w.grownBy w' v.ownBlock) : FE.C w' e :=
  ⟨h.1.grown hr hg, h.2.grown hr hg⟩
/-- A vector that a call builds. -/
def VG (w0 w : World) (v : Value) (l : List VE) : Prop :=
  PRow w w0.heap.size 49 5 v l.length (flatE l) ∧ (∀ x ∈ l, FE.C w x.e) ∧ Below w0.heap.size w0 w
theorem VG.call {w0 w w' : World} {v : Value} {l : List VE} (h : VG w0 w v l) (hb : Below w.heap.size w w') : VG w0 w' v l :=
  ⟨h.1.call hb, fun x hx => (h.2.1 x hx).call hb, bcall h.2.2 hb⟩
theorem VG.nil {w0 w : World} (h : Below w0.heap.size w0 w) : VG w0 w (.slice none 0 0) [] := ⟨PRow.nil _ _ _ _, fun x hx => (by cases hx), h⟩
theorem VG.snoc {w0 w w' : World} {v v' : Value} {l : List VE} {x : VE} (h : VG w0 w v l) (hx : FE.C w x.e) (hp : PRow w' w0.heap.size 49 5 v' (l.length + 1) (flatE l ++ [.int .i64 x.k, .bool x.e.s, .slice x.e.A x.e.n x.e.c, .bool x.e.t, .slice x.e.B x.e.m x.e.d]))
    (hg : w.grownBy w' v.ownBlock) : VG w0 w' v' (l ++ [x]) := by
  refine ⟨?_, fun y hy => ?_, Below.grown h.2.2 hg h.2.2.size (fun j hj => (h.1.1.lt _ hj).1)⟩
  · rw [flatE_snoc, List.length_append]
    exact hp
  · rcases List.mem_append.1 hy with hy | hy
    · exact (h.2.1 y hy).grown h.1 hg
    · rw [List.mem_singleton.1 hy]; exact hx.grown h.1 hg
theorem VG.vc {w0 w : World} {v : Value} {l : List VE} (h : VG w0 w v l) : ∃ A c, v = .slice A l.length c ∧ VC w A l := own_VC h.1.1 h.2.1

set_option maxHeartbeats 8000000 in
set_option maxRecDepth 100000 in
theorem rfromDense_at {w : World} {A : Option Addr} {c : Nat} {l : List FE} (hF : FL w A l) (hS : ∀ e ∈ l, FE.S 1900 e) (hl : l.length ≤ 4096) :
    Calls Tryz.prog 35 #[.slice A l.length c] w (RetV w (fdV 0 l) 0) := by
  have HF := Lib.hid hF
  have HSS := Lib.hid hS
  clear hF hS
  obtain ⟨i0, hi, hz0, hz1, hz2⟩ := info_parts entry_info
  obtain ⟨L, HL⟩ : ∃ v, Hid (l.length = v) := ⟨_, rfl⟩
  rw [HL.out] at hl
  rw [HL.out]
  go_enter Tryz.func35, Tryz.ntmps35
  go_upto_region 5 with fail
  have hb0 : Below w.heap.size w w := Below.refl _ _
  go_loopg [4, 5] L (fun r v q wr => ∃ (k : Nat) (l' : List VE), k + r = L ∧ q = .int .i64 k ∧ VG w wr v l' ∧ l'.map VE.v = fdV 0 (l.take k) ∧ l'.length ≤ k)
  case atStart => exact ⟨0, [], by omega, rfl, VG.nil hb0, rfl, Nat.le_refl _⟩
  case round =>
    clear hb0
    obtain ⟨k, l', hk, rfl, hG, hM, hk'⟩ := hrel
    by_cases hlt : k < L
    · obtain ⟨z, hz⟩ : ∃ z, l[k]? = some z := ⟨l[k]'(by rw [HL.out]; exact hlt), List.getElem?_eq_getElem _⟩
      have hmem : z ∈ l := List.mem_of_getElem? hz
      obtain ⟨g, o, hA, hg, hcell⟩ := HF.out.2 (by rw [HL.out]; omega)
      have hin := (hcell k z hz).call hg hG.2.2
      have hat := (HF.out.1 z hmem).call hG.2.2
      have hsm := HSS.out z hmem
      have hnx := fdV_take hz
      obtain ⟨s, P, pn, pc, s', P', qn, qc, a, b⟩ := z
      obtain ⟨c0, c1, c2, c3⟩ := hin
      obtain ⟨i1, i2⟩ := hat
      obtain ⟨za, zb⟩ := hsm
      simp only at c0 c1 c2 c3 i1 i2 za zb hnx
      clear hcell hz hmem
      subst hA
      have j0 : (0 : Int) ≤ (k : Int) := by omega
      have j1 : (k : Int) < (L : Int) := by omega
      have HK := Lib.hid hk
      have HLT := Lib.hid hlt
      have HNX := Lib.hid hnx
      have HM := Lib.hid hM
      have HK' := Lib.hid hk'
      clear hk hnx hM hk'
      obtain ⟨t, HT⟩ : ∃ v, Hid (sgn a * sgn b = v) := ⟨_, rfl⟩
      obtain ⟨x, HX⟩ : ∃ v, Hid (rn a b = v) := ⟨_, rfl⟩
      obtain ⟨y, HY⟩ : ∃ v, Hid (rd a b = v) := ⟨_, rfl⟩
      rw [HT.out, HX.out, HY.out] at HNX
      have G1 := hG
      have I1 := i1
      have I2 := i2
      clear hG i1 i2
      by_cases ht : t = 0
      · subst ht
        have HN2 : Hid (l'.map VE.v = fdV 0 (l.take (k + 1))) := by unfold Hid; rw [HNX.out, HM.out]; simp
        go_wp2_with (first
          | (go_at_call 45; (with_reducible refine (rsignF_at I1 I2 za zb).mono ?_); rw [sgn_rn, HT.out]; rintro ee w2 ⟨rfl, g2⟩; have G2 := G1.call g2)
          | fail)
        go_roundg (gk - 1)
        case rel => exact ⟨k + 1, l', by have := HK.out; have := HLT.out; omega, by go_num, G2, HN2.out, by have := HK'.out; omega⟩
        case measure => have := HK.out; have := HLT.out; omega
      · have HN2 : Hid (l'.map VE.v ++ [((k : Int), x, y)] = fdV 0 (l.take (k + 1))) := by unfold Hid; rw [HNX.out, HM.out, if_neg ht]
        go_upto_region 8 with (first
          | (go_at_call 45; (with_reducible refine (rsignF_at I1 I2 za zb).mono ?_); rw [sgn_rn, HT.out]; rintro ee w2 ⟨rfl, g2⟩; have G2 := G1.call g2)
          | fail)
        have hgw : g < wr.heap.size := Nat.lt_of_lt_of_le hg G1.2.2.size
        replace c0 := ((bcell g2).1 g _ hgw).trans c0
        replace c1 := ((bcell g2).1 g _ hgw).trans c1
        replace c2 := ((bcell g2).1 g _ hgw).trans c2
        replace c3 := ((bcell g2).1 g _ hgw).trans c3
        have J1 := I1.call g2
        have J2 := I2.call g2
        go_wp2_with (first
          | (go_at_call 41; (with_reducible refine (reduce_at J1 J2 za zb).mono ?_); rw [HX.out, HY.out]; rintro ee w3 ⟨D1, o1, r1, D2, o2, r2, rfl, e1, e2, g3⟩; have G3 := G2.call g3)
          | (at_builtin; refine wpList_append_p _ rfl _ _ 23 rfl w.heap.size 49 i0 (.agg #[.int .i64 0, .bool false, .slice none 0 0, .bool false, .slice none 0 0]) 5 72 Tryz.underlying23 hi hz0 hz1 hz2 rfl (by decide) (entry_plain _ _ _ _ _ _ _ _ _) _ _ _ rfl (G3.call (bnew _ _)).1 ⟨w3.heap.size, 0, none⟩ 1 1 [.int .i64 (k : Int), .bool (decide (x < 0)), .slice D1 o1 r1, .bool (decide (y < 0)), .slice D2 o2 r2] rfl rfl (cell_five_new _ _ _ _ _ _ _) (fun u hu => by simp at hu; rcases hu with rfl | rfl | rfl | rfl | rfl <;> rfl) (entry_plain _ _ _ _ _ _ _ _ _) (by omega) (by have := HK'.out; unfold maxLen; omega) (by have := HK'.out; omega) (by have := G3.2.2.size; simp; omega) ?_; intro v' w4 hp hgr)
          | fail)
        have G4 := (G3.call (bnew _ _)).snoc (x := ⟨(k : Int), ⟨decide (x < 0), D1, o1, r1, decide (y < 0), D2, o2, r2, x, y⟩⟩) ⟨e1.call (bnew _ _), e2.call (bnew _ _)⟩ hp hgr
        go_roundg (gk - 1)
        case rel => exact ⟨k + 1, _, by have := HK.out; have := HLT.out; omega, by go_num, G4, by rw [List.map_append]; exact HN2.out, by have := HK'.out; simp; omega⟩
        case measure => have := HK.out; have := HLT.out; omega
    · obtain rfl : k = L := by omega
      have hlen : l.take k = l := List.take_of_length_le (by rw [HL.out]; exact Nat.le_refl _)
      rw [hlen] at hM
      have j1 : ¬ (k : Int) < (k : Int) := by omega
      obtain ⟨A', c', rfl, hV⟩ := hG.vc
      have hB := hG.2.2
      clear hG
      go_wp2_with fail
      go_ret2
      exact ⟨A', c', l', rfl, hM, hV, hB⟩

end Go.Proofs.YtjbmaoplcbhgfaaGreat

