/-
  Dot of {1: x} and {0: y, 1: z} in dimension 2.
-/
import Derived.Test.YtplmfdgdbolcaaaSumP
import Derived.Test.YtplmfdgdbolcaaaVec2
import Derived.Deep.AppendLies
set_option linter.unusedVariables false
set_option linter.unusedSimpArgs false
namespace Go.Proofs.Ytplmfdgdbolcaaa
open Go.RowKit

theorem prod_info : (Try.prog.info? 134).map (fun i => (i.zero, i.size, i.bytes)) = some (some (.agg #[.pointer none, .pointer none]), 2, 16) := by kernel_rfl

theorem vboth_at {w : World} {A B : Option Addr} {c d : Nat} {l m : List VE} {n : Int} (hA : VL w A l) (hB : VL w B m) (h1 : valid l n = 0) (h2 : valid m n = 0) (hl : l.length ≤ 60) (hm : m.length ≤ 60) :
    Calls Try.prog 160 #[.slice A l.length c, .slice B m.length d, .int .i64 n] w (RetN w 0) := by
  have H1 := valid_at (c := c) (n := n) hA hl
  have H2 := fun w' h => valid_at (w := w') (A := B) (c := d) (n := n) (l := m) h hm
  rw [h1] at H1
  simp only [h2] at H2
  go_enter Try.func160, Try.ntmps160
  go_wp2_with (first
    | (go_at_call_of 67 (Value.slice A l.length c); (with_reducible refine H1.mono ?_); clear H1; rintro e w1 ⟨rfl, g1⟩; have hB1 := hB.call g1; clear hB)
    | (go_at_call 67; (with_reducible refine (H2 _ hB1).mono ?_); rintro e w2 ⟨rfl, g2⟩)
    | fail)
  go_ret
  exact ⟨rfl, bcall g1 g2⟩
theorem cell_two_new_ (w : World) (a b : Value) (t : TypeId) : ∀ j u, [a, b][j]? = some u → (w.alloc (.cells #[a, b] t)).cell? ((⟨w.heap.size, 0, none⟩ : Addr).add j) = some u := by
  intro j u hj
  match j, hj with
  | 0, hj => simp at hj; subst hj; simp [Addr.add]
  | 1, hj => simp at hj; subst hj; simp [Addr.add]
  | j + 2, hj => simp at hj
theorem row_two (w : World) (p0 p1 : Value) (zs : Array Value) (t : TypeId) : (w.alloc (.cells (#[p0, p1] ++ zs) t)).cell? ⟨w.heap.size, 0, none⟩ = some p0 ∧ (w.alloc (.cells (#[p0, p1] ++ zs) t)).cell? ⟨w.heap.size, 1, none⟩ = some p1 := by
  have h0 : (#[p0, p1] ++ zs)[0]? = some p0 := by rw [Array.getElem?_append_left (by simp)]; rfl
  have h1 : (#[p0, p1] ++ zs)[1]? = some p1 := by rw [Array.getElem?_append_left (by simp)]; rfl
  have hh := Go.Deep.blk_alloc_new w (.cells (#[p0, p1] ++ zs) t)
  constructor
  · unfold World.cell?; simp only [hh]; exact h0
  · unfold World.cell?; simp only [hh]; exact h1
/-- The state of the loop. -/
def DoI (w wr : World) : Prop := St w wr [vf w.heap.size false none 0 0 false none 0 0] []

set_option maxHeartbeats 8000000 in
set_option maxRecDepth 100000 in
theorem dot_21 {w : World} {ga gb ca cb : Nat} {x y z : FE} (hga : ga < w.heap.size) (hgb : gb < w.heap.size) (hA : VE.In w ga 0 ⟨1, x⟩) (hB : VE.In w gb 0 ⟨0, y⟩) (hB1 : VE.In w gb 5 ⟨1, z⟩)
    (hax : FE.At w x) (haz : FE.At w z) (sx : FE.Sl x) (sz : FE.Sl z)
    (hboth : ∀ w' : World, Below w.heap.size w w' → Calls Try.prog 160 #[.slice (some ⟨ga, 0, none⟩) 1 ca, .slice (some ⟨gb, 0, none⟩) 2 cb, .int .i64 2] w' (RetN w' 0)) :
    Calls Try.prog 131 #[.slice (some ⟨ga, 0, none⟩) 1 ca, .slice (some ⟨gb, 0, none⟩) 2 cb, .int .i64 2] w (RetFE w (aN 0 1 (mN x z) (mD x z)) (aD 0 1 (mN x z) (mD x z)) 0) := by
  have H0 := (St.start w).new 42 (Plains.four false none 0 0 false none 0 0)
  have HH := Lib.hid H0
  clear H0
  have HA := Lib.hid hA
  have HB := Lib.hid hB
  have HB1 := Lib.hid hB1
  clear hA hB hB1
  go_enter Try.func131, Try.ntmps131
  go_upto_region 6 with (first
    | (go_at_call 160; (with_reducible refine (hboth _ HH.out.below).mono ?_); rintro e w1 ⟨rfl, g1⟩; have HI : DoI w w1 := HH.out.call g1)
    | fail)
  clear hboth
  go_loopg [9, 10, 11] 2 (fun r pr i j wr => DoI w wr ∧ ((r = 2 ∧ pr = .slice none 0 0 ∧ i = .int .i64 0 ∧ j = .int .i64 0) ∨ (r = 1 ∧ pr = .slice none 0 0 ∧ i = .int .i64 0 ∧ j = .int .i64 1) ∨
    (r = 0 ∧ i = .int .i64 1 ∧ j = .int .i64 2 ∧ ∃ G c, pr = .slice (some ⟨G, 0, none⟩) 1 c ∧ G < wr.heap.size ∧ wr.cell? ⟨G, 0, none⟩ = some (.pointer (some ⟨ga, 1, none⟩)) ∧ wr.cell? ⟨G, 1, none⟩ = some (.pointer (some ⟨gb, 6, none⟩)))))
  case atStart => exact ⟨HI, .inl ⟨rfl, rfl, rfl, rfl⟩⟩
  case round =>
    obtain ⟨K, ⟨rfl, rfl, rfl, rfl⟩ | ⟨rfl, rfl, rfl, rfl⟩ | ⟨rfl, rfl, rfl, G, c, rfl, hG, c0, c1⟩⟩ := hrel
    · have K0 : St w wr [vf w.heap.size false none 0 0 false none 0 0] [] := K
      have a0 := (HA.out.call hga K0.below).1
      have b0 := (HB.out.call hgb K0.below).1
      simp only at a0 b0
      have KD : ∀ n, DoI w (wr.drewN n) := fun n => K0.drewN n
      go_upto_region 10 with fail
      go_quiet (fail)
      go_upto_region 12 with fail
      go_quiet (fail)
      go_wp2_with fail
      go_roundg 1
      case rel => exact ⟨by first | exact KD _ | (rw [World.drewN_drewN]; exact KD _), .inr (.inl ⟨rfl, rfl, rfl, rfl⟩)⟩
      case measure => omega
    · have K0 : St w wr [vf w.heap.size false none 0 0 false none 0 0] [] := K
      have a0 := (HA.out.call hga K0.below).1
      have b0 := (HB1.out.call hgb K0.below).1
      simp only at a0 b0
      go_upto_region 10 with fail
      go_quiet (fail)
      obtain ⟨n1, rfl⟩ : ∃ v, v = nq := ⟨_, rfl⟩
      go_upto_region 12 with fail
      go_quiet (fail)
      go_upto_region 7 with fail
      have KB := (K0.drewN n1).drewN nq
      clear K K0 a0 b0
      generalize (wr.drewN n1).drewN nq = wB at KB ⊢
      go_region_with (first | fail)
      all_goals
        generalize (Question.appendCap 1 0 134).cut (wB.tape (wB.drawn + 1) (Question.appendCap 1 0 134)) = cap
        have K2 := ((KB.alloc (.cells #[.pointer (some ⟨ga, 1, none⟩), .pointer (some ⟨gb, 6, none⟩)] 134)).alloc (.cells (#[.pointer (some ⟨ga, 1, none⟩), .pointer (some ⟨gb, 6, none⟩)] ++ Builtin.zeroCells #[.pointer none, .pointer none] (cap - 1)) 134)).drew.drew
        have hh := Go.Deep.blk_alloc_new (wB.alloc (.cells #[.pointer (some ⟨ga, 1, none⟩), .pointer (some ⟨gb, 6, none⟩)] 134)) (.cells (#[.pointer (some ⟨ga, 1, none⟩), .pointer (some ⟨gb, 6, none⟩)] ++ Builtin.zeroCells #[.pointer none, .pointer none] (cap - 1)) 134)
        generalize hX : (wB.alloc (.cells #[.pointer (some ⟨ga, 1, none⟩), .pointer (some ⟨gb, 6, none⟩)] 134)).alloc (.cells (#[.pointer (some ⟨ga, 1, none⟩), .pointer (some ⟨gb, 6, none⟩)] ++ Builtin.zeroCells #[.pointer none, .pointer none] (cap - 1)) 134) = wX at K2 hh ⊢
        have q0 : wX.drew.drew.cell? ⟨wB.heap.size + 1, 0, none⟩ = some (.pointer (some ⟨ga, 1, none⟩)) := by rw [← hX]; have := (row_two (wB.alloc (.cells #[.pointer (some ⟨ga, 1, none⟩), .pointer (some ⟨gb, 6, none⟩)] 134)) (.pointer (some ⟨ga, 1, none⟩)) (.pointer (some ⟨gb, 6, none⟩)) (Builtin.zeroCells #[.pointer none, .pointer none] (cap - 1)) 134).1; rw [World.size_alloc] at this; exact this
        have q1 : wX.drew.drew.cell? ⟨wB.heap.size + 1, 1, none⟩ = some (.pointer (some ⟨gb, 6, none⟩)) := by rw [← hX]; have := (row_two (wB.alloc (.cells #[.pointer (some ⟨ga, 1, none⟩), .pointer (some ⟨gb, 6, none⟩)] 134)) (.pointer (some ⟨ga, 1, none⟩)) (.pointer (some ⟨gb, 6, none⟩)) (Builtin.zeroCells #[.pointer none, .pointer none] (cap - 1)) 134).2; rw [World.size_alloc] at this; exact this
        have hlt1 : wB.heap.size + 1 < wX.drew.drew.heap.size := by rw [← hX]; simp
        clear hX hh
        go_wp2_with fail
        go_roundg 0
        case rel => exact ⟨K2, .inr (.inr ⟨rfl, rfl, rfl, _, _, rfl, hlt1, q0, q1⟩)⟩
        case measure => omega
    · have K0 : St w wr [vf w.heap.size false none 0 0 false none 0 0] [] := K
      have hx := HA.out.2.call hga K0.below
      have hz := HB1.out.2.call hgb K0.below
      have hs := K0.below.size
      have hsum := sumP1 (c := c) hG c0 c1 (Nat.lt_of_lt_of_le hga hs) (Nat.lt_of_lt_of_le hgb hs) hx hz (hax.call K0.below) (haz.call K0.below) sx sz
      obtain ⟨u, HU⟩ : ∃ v, Hid (aN 0 1 (mN x z) (mD x z) = v) := ⟨_, rfl⟩
      obtain ⟨v, HV⟩ : ∃ v, Hid (aD 0 1 (mN x z) (mD x z) = v) := ⟨_, rfl⟩
      simp only at hsum
      rw [HU.out, HV.out] at hsum
      obtain ⟨⟨p0, p1, p2, p3⟩, _⟩ := K0.facts
      go_wp2_with (first
        | (go_at_call 161; (with_reducible refine hsum.mono ?_); rintro ee w2 ⟨D1, n3, r1, D2, n4, r2, rfl, e1, e2, g2'⟩; have K2 := ((K0.call g2').add e2).add e1; clear p0 p1 p2 p3; obtain ⟨⟨q0, q1, q2, q3⟩, _⟩ := K2.facts; obtain ⟨f0, f1, f2, f3⟩ := K2.free (i := 0) rfl; have K3 := K2.put4 0 rfl (decide (u < 0)) D1 n3 r1 (decide (v < 0)) D2 n4 r2; simp only [List.set] at K3; obtain ⟨⟨r0, r1', r2', r3⟩, _⟩ := K3.facts)
        | fail)
      refine bodyPost_ret (v := .tuple #[.agg #[.bool (decide (u < 0)), .slice D1 n3 r1, .bool (decide (v < 0)), .slice D2 n4 r2], .int .i64 0]) (by simp [results, Try.results131, go_sem, r0, r1', r2', r3]) rfl ?_
      rw [HU.out, HV.out]
      exact RetFE.of_st K3
end Go.Proofs.Ytplmfdgdbolcaaa
