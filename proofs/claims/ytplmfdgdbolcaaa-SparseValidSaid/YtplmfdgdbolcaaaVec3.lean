/-
  Light of vectors.
-/
import Derived.Test.YtplmfdgdbolcaaaVec1
import Derived.Test.YtplmfdgdbolcaaaLightF2
set_option linter.unusedVariables false
set_option linter.unusedSimpArgs false
namespace Go.Proofs.Ytplmfdgdbolcaaa
open Go.RowKit

/-- A vector that is handed on. -/
structure VV where
  (A : Option Addr) (c : Nat) (l : List VE)
def VV.Ok (w : World) (v : VV) : Prop :=
  (∀ x ∈ v.l, x.e.n ≤ 140737488351232 ∧ x.e.m ≤ 140737488351232) ∧ v.l.length ≤ 140737488351232 ∧
    (0 < v.l.length → ∃ g o, v.A = some ⟨g, o, none⟩ ∧ g < w.heap.size ∧ ∀ k x, v.l[k]? = some x → VE.In w g (o + k * 5) x)
def LtE (x : VE) : Prop := x.e.n ≤ 12 ∧ x.e.m ≤ 12
def tot : List VV → Nat
  | [] => 0
  | v :: vs => v.l.length + tot vs
def AllL (vs : List VV) : Prop := ∀ v ∈ vs, ∀ x ∈ v.l, LtE x
theorem tot_snoc (vs : List VV) (v : VV) : tot (vs ++ [v]) = tot vs + v.l.length := by
  induction vs with
  | nil => simp [tot]
  | cons u vs ih => simp only [List.cons_append, tot, ih]; omega
theorem take_vsnoc {α : Type} {l : List α} {k : Nat} {x : α} (h : l[k]? = some x) : l.take (k + 1) = l.take k ++ [x] := by rw [List.take_add_one, h]; rfl
theorem tot_le {vs : List VV} (h : ∀ v ∈ vs, v.l.length ≤ 140737488351232) : tot vs ≤ vs.length * 140737488351232 := by
  induction vs with
  | nil => simp [tot]
  | cons u vs ih =>
    have h1 := h u (by simp)
    have h2 := ih (fun v hv => h v (by simp [hv]))
    simp only [tot, List.length_cons]
    omega

set_option maxHeartbeats 8000000 in
set_option maxRecDepth 100000 in
theorem light3_any (g : Nat) (vs : List VV) (c : Nat) (w : World) (hg : g < w.heap.size) (hlen : vs.length ≤ 20) (hok : ∀ v ∈ vs, VV.Ok w v)
    (hc : ∀ i v, vs[i]? = some v → w.cell? ⟨g, i, none⟩ = some (.slice v.A v.l.length v.c)) (b : Bool) (hb : b = true ↔ AllL vs ∧ tot vs ≤ 60) :
    Calls Try.prog 65 #[.slice (some ⟨g, 0, none⟩) vs.length c] w (RetB1 w b) := by
  have HOK := Lib.hid hok
  have HC := Lib.hid hc
  have HBB := Lib.hid hb
  clear hok hc hb
  obtain ⟨L, HL⟩ : ∃ v, Hid (vs.length = v) := ⟨_, rfl⟩
  rw [HL.out] at hlen
  rw [HL.out]
  have HT : Hid (∀ k, tot (vs.take k) ≤ 2814749767024640) := fun k => by
    have h1 := tot_le (vs := vs.take k) (fun v hv => (HOK.out v (List.mem_of_mem_take hv)).2.1)
    have h2 : (vs.take k).length ≤ 20 := Nat.le_trans (List.length_take_le' _ _) (by rw [HL.out]; exact hlen)
    have := Nat.mul_le_mul_right 140737488351232 h2
    omega
  go_enter Try.func65, Try.ntmps65
  go_upto_region 3 with fail
  go_loopg [3, 4] L (fun r t i wr => ∃ k : Nat, k + r = L ∧ t = .int .i64 (tot (vs.take k) : Nat) ∧ i = .int .i64 k ∧ AllL (vs.take k) ∧ Below w.heap.size w wr)
  case atStart => exact ⟨0, by omega, rfl, rfl, (fun v hv => by cases hv), Below.refl _ _⟩
  case round =>
    obtain ⟨k, hk, rfl, rfl, hall, hB⟩ := hrel
    obtain ⟨t, HTT⟩ : ∃ v, Hid (tot (vs.take k) = v) := ⟨_, rfl⟩
    have ht := HT.out k
    rw [HTT.out] at ht ⊢
    by_cases hlt : k < L
    · obtain ⟨v, hv⟩ : ∃ v, vs[k]? = some v := ⟨vs[k]'(by rw [HL.out]; exact hlt), List.getElem?_eq_getElem _⟩
      have hmem := List.mem_of_getElem? hv
      have c0 := ((bcell hB).1 g k hg).trans (HC.out k _ hv)
      obtain ⟨hn, hm, hcell⟩ := HOK.out v hmem
      have hts := take_vsnoc hv
      have htk : tot (vs.take (k + 1)) = t + v.l.length := by rw [hts, tot_snoc, HTT.out]
      have hak : (∀ x ∈ v.l, LtE x) → AllL (vs.take (k + 1)) := fun h u hu => by
        rw [hts] at hu
        rcases List.mem_append.1 hu with h' | h'
        · exact hall u h'
        · rw [List.mem_singleton.1 h']; exact h
      have hbad : ∀ x ∈ v.l, ¬ LtE x → b = false := fun x hx hnx => by
        cases hbb : b with
        | false => rfl
        | true => exact absurd ((HBB.out.1 hbb).1 v hmem x hx) hnx
      have HAK := Lib.hid hak
      have HTK := Lib.hid htk
      have HBAD := Lib.hid hbad
      have HALL := Lib.hid hall
      clear hak htk hbad hall hts hmem
      obtain ⟨vA, vc, vl⟩ := v
      simp only at c0 hm hn hcell
      obtain ⟨M, HM⟩ : ∃ u, Hid (vl.length = u) := ⟨_, rfl⟩
      rw [HM.out] at c0 hm
      have HN := Lib.hid hn
      have HCC := Lib.hid hcell
      clear hn hcell
      have j0 : (0 : Int) ≤ (k : Int) := by omega
      have j1 : (k : Int) < (L : Int) := by omega
      have HK := Lib.hid hk
      have HLT := Lib.hid hlt
      clear hk hlt
      have HB0 := Lib.hid hB
      clear hB
      have hw : IntKind.i64.wrap ((t : Int) + (M : Int)) = (t : Int) + (M : Int) := by rw [IntKind.wrap_i64]; omega
      go_upto_region 7 with fail
      obtain ⟨gK, rfl⟩ : ∃ x, x = gk := ⟨_, rfl⟩
      go_loopg [5] M (fun r i wr' => ∃ j : Nat, j + r = M ∧ i = .int .i64 j ∧ (∀ x ∈ vl.take j, LtE x) ∧ Below w.heap.size w wr')
      case atStart => exact ⟨0, by omega, rfl, (fun x hx => by cases hx), HB0.out⟩
      case round =>
        obtain ⟨j, hj, rfl, hl, hB'⟩ := hrel
        have c1 := ((bcell hB').1 g k hg).trans (HC.out k _ hv)
        rw [HM.out] at c1
        by_cases hjt : j < M
        · obtain ⟨x, hx⟩ : ∃ x, vl[j]? = some x := ⟨vl[j]'(by rw [HM.out]; exact hjt), List.getElem?_eq_getElem _⟩
          have hxm := List.mem_of_getElem? hx
          obtain ⟨g', o, hA, hg', hcell⟩ := HCC.out (by rw [HM.out]; omega)
          have hin := (hcell j x hx).call hg' hB'
          obtain ⟨hx1, hx2⟩ := HN.out x hxm
          have hts := take_vsnoc hx
          have hnext : LtE x → ∀ y ∈ vl.take (j + 1), LtE y := fun h y hy => by
            rw [hts] at hy
            rcases List.mem_append.1 hy with h' | h'
            · exact hl y h'
            · rw [List.mem_singleton.1 h']; exact h
          have hbad := HBAD.out x hxm
          unfold LtE at hbad hnext
          clear hcell hts hl hx hxm
          obtain ⟨q, e⟩ := x
          obtain ⟨s, P, pn, pc, s', P', qn, qc, a, b'⟩ := e
          obtain ⟨ck, d0, d1, d2, d3⟩ := hin
          simp only at ck d0 d1 d2 d3 hx1 hx2 hbad
          have HNX := Lib.hid hnext
          clear hnext
          have i0 : (0 : Int) ≤ (j : Int) := by omega
          have i1 : (j : Int) < (M : Int) := by omega
          have HJ := Lib.hid hj
          have HJT := Lib.hid hjt
          clear hj hjt
          have HB2 := Lib.hid (hB'.alloc hB'.size (.cells #[.bool s, .slice P pn pc, .bool s', .slice P' qn qc] 42))
          clear hB'
          subst hA
          have hlight := fun bb hb => lightF1 (w := wr) (s0 := s) (t0 := s') (A0 := P) (B0 := P') (n0 := pn) (c0 := pc) (m0 := qn) (d0 := qc) rfl hx1 hx2 bb hb
          by_cases h12 : pn ≤ 12 ∧ qn ≤ 12
          · have hlt := hlight true (by simp [h12])
            clear hlight hbad
            go_wp2_with (first
              | (go_at_call 31; (with_reducible refine hlt.mono ?_); rintro ee w2 ⟨rfl, g2⟩)
              | fail)
            go_roundg (gk - 1)
            case rel => exact ⟨j + 1, by have := HJ.out; have := HJT.out; omega, by go_num, HNX.out h12, bcall HB2.out g2⟩
            case measure => have := HJ.out; have := HJT.out; omega
          · have hlt := hlight false (by simp; omega)
            obtain rfl : b = false := hbad h12
            clear hlight hbad
            go_wp2_with (first
              | (go_at_call 31; (with_reducible refine hlt.mono ?_); rintro ee w2 ⟨rfl, g2⟩)
              | fail)
            go_ret
            exact ⟨rfl, bcall HB2.out g2⟩
        · obtain rfl : j = M := by omega
          have hall2 : ∀ x ∈ vl, LtE x := by
            have : vl.take j = vl := List.take_of_length_le (by rw [HM.out]; exact Nat.le_refl _)
            rw [this] at hl; exact hl
          have i1 : ¬ (j : Int) < (j : Int) := by omega
          go_wp2_with fail
          go_roundg (gK - 1)
          case rel => exact ⟨k + 1, by have := HK.out; have := HLT.out; omega, by rw [HTK.out, HM.out]; first | go_num | (rw [hw]; go_num), by go_num, HAK.out hall2, hB'⟩
          case measure => have := HK.out; have := HLT.out; omega
    · obtain rfl : k = L := by omega
      have hlen2 : vs.take k = vs := List.take_of_length_le (by rw [HL.out]; exact Nat.le_refl _)
      rw [hlen2] at hall HTT
      have j1 : ¬ (k : Int) < (k : Int) := by omega
      have j2 : (k : Int) ≤ 20 := by omega
      by_cases h60 : t ≤ 60
      · obtain rfl : b = true := HBB.out.2 ⟨hall, by rw [HTT.out]; exact h60⟩
        have j3 : (t : Int) ≤ 60 := by omega
        go_wp2_with fail
        go_ret
        exact ⟨rfl, hB⟩
      · have hbf : b = false := by
          cases hbb : b with
          | false => rfl
          | true => exact absurd (HBB.out.1 hbb).2 (by rw [HTT.out]; exact h60)
        subst hbf
        have j3 : ¬ (t : Int) ≤ 60 := by omega
        go_wp2_with fail
        go_ret
        exact ⟨rfl, hB⟩
end Go.Proofs.Ytplmfdgdbolcaaa
