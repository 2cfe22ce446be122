/-
  Sums of lists of fractions, by the program and by the reference.
-/
import Derived.Test.YtplmfdgdbolcaaaRfrac3
import Derived.Test.YtplmfdgdbolcaaaRound3
import Derived.Test.YtplmfdgdbolcaaaFrField
import Derived.Deep.LoopGhost
set_option linter.unusedVariables false
set_option linter.unusedSimpArgs false
namespace Go.Proofs.Ytplmfdgdbolcaaa
open Go.RowKit

/-- A fraction in a list: its cells and its values. -/
structure FE where
  (s : Bool) (A : Option Addr) (n c : Nat) (t : Bool) (B : Option Addr) (m d : Nat) (a b : Int)
def FE.At (w : World) (e : FE) : Prop := IntAt w e.s e.A e.n e.c e.a ∧ IntAt w e.t e.B e.m e.d e.b
def FE.Sm (e : FE) : Prop := Sz e.a 27 ∧ Sz e.b 27
def FE.In (w : World) (g o : Nat) (e : FE) : Prop := w.cell? ⟨g, o, none⟩ = some (.bool e.s) ∧ w.cell? ⟨g, o + 1, none⟩ = some (.slice e.A e.n e.c) ∧ w.cell? ⟨g, o + 2, none⟩ = some (.bool e.t) ∧ w.cell? ⟨g, o + 3, none⟩ = some (.slice e.B e.m e.d)
/-- A slice that reads as a list of fractions. -/
def FL (w : World) (A : Option Addr) (l : List FE) : Prop :=
  (∀ e ∈ l, FE.At w e ∧ FE.Sm e) ∧ (0 < l.length → ∃ g o, A = some ⟨g, o, none⟩ ∧ g < w.heap.size ∧ ∀ k e, l[k]? = some e → FE.In w g (o + k * 4) e)
theorem FE.At.call {w w' : World} {e : FE} (h : FE.At w e) (hb : Below w.heap.size w w') : FE.At w' e := ⟨h.1.call hb, h.2.call hb⟩
theorem FE.In.call {w w' : World} {g o : Nat} {e : FE} (h : FE.In w g o e) (hg : g < w.heap.size) (hb : Below w.heap.size w w') : FE.In w' g o e := by
  obtain ⟨h1, h2, h3, h4⟩ := h
  have hc := (bcell hb).1
  exact ⟨(hc g _ hg).trans h1, (hc g _ hg).trans h2, (hc g _ hg).trans h3, (hc g _ hg).trans h4⟩
theorem FL.call {w w' : World} {A : Option Addr} {l : List FE} (h : FL w A l) (hb : Below w.heap.size w w') : FL w' A l := by
  refine ⟨fun e he => ⟨(h.1 e he).1.call hb, (h.1 e he).2⟩, fun hl => ?_⟩
  obtain ⟨g, o, e1, e2, e4⟩ := h.2 hl
  exact ⟨g, o, e1, Nat.lt_of_lt_of_le e2 hb.size, fun k e hk => (e4 k e hk).call e2 hb⟩
def stepF (p : Int × Int) (e : FE) : Int × Int := (aN p.1 p.2 e.a e.b, aD p.1 p.2 e.a e.b)
def sumF (l : List FE) : Int × Int := l.foldl stepF (0, 1)
def CanP (p : Int × Int) : Prop := 0 < p.2 ∧ Int.gcd p.1 p.2 = 1
theorem can_step (p : Int × Int) (e : FE) : CanP (stepF p e) := ⟨aD_pos .., aN_gcd ..⟩
theorem foldl_can (l : List FE) (p : Int × Int) (hp : CanP p) : CanP (l.foldl stepF p) := by
  induction l generalizing p with
  | nil => exact hp
  | cons e l ih => exact ih _ (can_step p e)
theorem sum_can (l : List FE) : CanP (sumF l) := foldl_can l _ ⟨by decide, by decide⟩
theorem sum_snoc (l : List FE) (e : FE) : sumF (l ++ [e]) = stepF (sumF l) e := by unfold sumF; rw [List.foldl_append]; rfl
theorem sum_take {l : List FE} {k : Nat} {e : FE} (h : l[k]? = some e) : sumF (l.take (k + 1)) = stepF (sumF (l.take k)) e := by
  rw [← sum_snoc, List.take_add_one, h]; rfl
theorem sz_aN2 {a b c d : Int} {k l : Nat} (ha : Sz a k) (hb : Sz b k) (hc : Sz c l) (hd : Sz d l) (hk : 0 < k) (hl : 0 < l) : Sz (aN a b c d) (k + l + 3) ∧ Sz (aD a b c d) (k + l + 3) := by
  have h1 : Sz (rn a b * rd c d) (k + l + 1) := ((sz_rn ha).mul (sz_rd hd hl)).mono (by omega)
  have h2 : Sz (rn c d * rd a b) (k + l + 1) := ((sz_rn hc).mul (sz_rd hb hk)).mono (by omega)
  have h3 : Sz (rd a b * rd c d) (k + l + 2) := ((sz_rd hb hk).mul (sz_rd hd hl)).mono (by omega)
  exact ⟨(sz_rn (h1.add h2)).mono (by omega), (sz_rd h3 (by omega)).mono (by omega)⟩
theorem sz_sum (l : List FE) (h : ∀ e ∈ l, FE.Sm e) : Sz (sumF l).1 (30 * l.length + 2) ∧ Sz (sumF l).2 (30 * l.length + 2) := by
  suffices ∀ (l : List FE) (p : Int × Int) (k : Nat), 0 < k → Sz p.1 k → Sz p.2 k → (∀ e ∈ l, FE.Sm e) → Sz (l.foldl stepF p).1 (30 * l.length + k) ∧ Sz (l.foldl stepF p).2 (30 * l.length + k) from
    this l (0, 1) 2 (by decide) (Sz.zero _) (sz_i64 (by decide) (by decide)) h
  intro l
  induction l with
  | nil => intro p k _ h1 h2 _; exact ⟨by simpa using h1, by simpa using h2⟩
  | cons e l ih =>
    intro p k hk h1 h2 h3
    have he := h3 e (by simp)
    have h4 := sz_aN2 h1 h2 he.1 he.2 hk (by decide)
    have := ih (stepF p e) (k + 30) (by omega) (h4.1.mono (by omega)) (h4.2.mono (by omega)) (fun x hx => h3 x (by simp [hx]))
    rw [List.foldl_cons, List.length_cons]
    exact ⟨this.1.mono (by omega), this.2.mono (by omega)⟩
theorem sz_take {l : List FE} (h : ∀ e ∈ l, FE.Sm e) (k : Nat) (hl : l.length ≤ 30) : Sz (sumF (l.take k)).1 902 ∧ Sz (sumF (l.take k)).2 902 := by
  have h1 := sz_sum (l.take k) (fun e he => h e (List.mem_of_mem_take he))
  have h2 : (l.take k).length ≤ 30 := Nat.le_trans (List.length_take_le' _ _) hl
  exact ⟨h1.1.mono (by omega), h1.2.mono (by omega)⟩

/-- The head of the program's loop. -/
def SuI (w wr : World) (h3 : Nat) (x y : Int) : Prop :=
  ∃ (A : Option Addr) (n c : Nat) (B : Option Addr) (m d : Nat), St w wr [vf h3 (decide (x < 0)) A n c (decide (y < 0)) B m d, vf w.heap.size false none 0 0 false none 0 0] [(decide (x < 0), A, n, c, x, true), (decide (y < 0), B, m, d, y, true)]

set_option maxHeartbeats 8000000 in
set_option maxRecDepth 100000 in
theorem rsumF_at {w : World} {A : Option Addr} {c : Nat} {l : List FE} (hF : FL w A l) (hl : l.length ≤ 30) :
    Calls Try.prog 64 #[.slice A l.length c] w (RetFr w (sumF l).1 (sumF l).2) := by
  have H0 := (St.start w).new 42 (Plains.four false none 0 0 false none 0 0)
  have HH := Lib.hid H0
  clear H0
  have HF := Lib.hid hF
  clear hF
  obtain ⟨L, HL⟩ : ∃ v, Hid (l.length = v) := ⟨_, rfl⟩
  rw [HL.out] at hl
  rw [HL.out]
  go_enter Try.func64, Try.ntmps64
  go_wp2_with (first
    | (go_at_call 130; have K := HH.out; clear HH; (with_reducible refine (whole_any 0 (by decide) (by decide) _).mono ?_); rw [(r_int 0).1, (r_int 0).2]; rintro e w1 ⟨B1, m1, k1, B2, m2, k2, rfl, d1, d2, g1⟩; have K1 := (((K.call g1).add (show CanAt w1 false B2 m2 k2 1 from d2)).add (show CanAt w1 false B1 m1 k1 0 from d1)).new 42 (Plains.four false B1 m1 k1 false B2 m2 k2))
    | fail)
  clear K d1 d2 g1
  generalize w1.alloc (.cells #[.bool false, .slice B1 m1 k1, .bool false, .slice B2 m2 k2] 42) = W1 at K1 ⊢
  generalize w1.heap.size = h3 at K1 ⊢
  have HI : SuI w W1 h3 (sumF (l.take 0)).1 (sumF (l.take 0)).2 := ⟨B1, m1, k1, B2, m2, k2, K1⟩
  clear K1
  go_loopg [4] L (fun r i wr => ∃ k : Nat, k + r = L ∧ i = .int .i64 k ∧ SuI w wr h3 (sumF (l.take k)).1 (sumF (l.take k)).2)
  case atStart => exact ⟨0, by omega, rfl, HI⟩
  case round =>
    clear HI
    obtain ⟨k, hk, rfl, hI⟩ := hrel
    obtain ⟨x, HX⟩ : ∃ v, Hid ((sumF (l.take k)).1 = v) := ⟨_, rfl⟩
    obtain ⟨y, HY⟩ : ∃ v, Hid ((sumF (l.take k)).2 = v) := ⟨_, rfl⟩
    have hz := sz_take (fun e he => (HF.out.1 e he).2) k (by rw [HL.out]; exact hl)
    rw [HX.out, HY.out] at hI hz
    obtain ⟨C1, n1, t1, C2, n2, t2, K⟩ := hI
    by_cases hlt : k < L
    · obtain ⟨e, he⟩ : ∃ e, l[k]? = some e := ⟨l[k]'(by rw [HL.out]; exact hlt), List.getElem?_eq_getElem _⟩
      have hmem : e ∈ l := List.mem_of_getElem? he
      obtain ⟨g, o, hA, hg, hcell⟩ := HF.out.2 (by rw [HL.out]; omega)
      have hin := (hcell k e he).call hg K.below
      have hat := (HF.out.1 e hmem).1.call K.below
      have hsm := (HF.out.1 e hmem).2
      have hs := sum_take he
      have HE1 : Hid (aN x y e.a e.b = (sumF (l.take (k + 1))).1 ∧ aD x y e.a e.b = (sumF (l.take (k + 1))).2) := by
        unfold Hid; rw [hs, ← HX.out, ← HY.out]; exact ⟨rfl, rfl⟩
      obtain ⟨s, P, pn, pc, s', P', qn, qc, a, b⟩ := e
      obtain ⟨c0, c1, c2, c3⟩ := hin
      obtain ⟨i1, i2⟩ := hat
      obtain ⟨za, zb⟩ := hsm
      simp only at c0 c1 c2 c3 i1 i2 za zb HE1
      clear hs hcell he hmem
      have za9 : Sz a 910 := za.mono (by decide)
      have zb9 : Sz b 910 := zb.mono (by decide)
      have zx9 : Sz x 910 := hz.1.mono (by decide)
      have zy9 : Sz y 910 := hz.2.mono (by decide)
      have kx := zx9.ok
      have ky := zy9.ok
      subst hA
      obtain ⟨u, HU⟩ : ∃ v, Hid ((sumF (l.take (k + 1))).1 = v) := ⟨_, rfl⟩
      obtain ⟨v, HV⟩ : ∃ v, Hid ((sumF (l.take (k + 1))).2 = v) := ⟨_, rfl⟩
      rw [HU.out, HV.out] at HE1
      have HK := Lib.hid hk
      have HLT := Lib.hid hlt
      have j0 : (0 : Int) ≤ (k : Int) := by omega
      have j1 : (k : Int) < (L : Int) := by omega
      clear hk hz
      go_upto_region 5 with fail
      have Kd := K.drew
      clear K
      obtain ⟨⟨p0, p1, p2, p3⟩, _⟩ := Kd.facts
      have jx := Kd.ints.1.ci kx
      have jy := Kd.ints.2.1.ci ky
      have I1 := i1.call (Below.refl _ wr).drew
      have I2 := i2.call (Below.refl _ wr).drew
      go_region_with (first
        | (go_at_call 45; (with_reducible refine (raddF_at jx jy I1 I2 zx9 zy9 za9 zb9).mono ?_); rw [HE1.out.1, HE1.out.2]; rintro ee w2 ⟨D1, o1, r1, D2, o2, r2, rfl, e1, e2, g2⟩; have K2 := ((Kd.call g2).add e2).add e1; clear p0 p1 p2 p3; obtain ⟨⟨p0, p1, p2, p3⟩, _⟩ := K2.facts; obtain ⟨f0, f1, f2, f3⟩ := K2.free (i := 0) rfl)
        | fail)
      all_goals
        have K3 := K2.put4 0 rfl (decide (u < 0)) D1 o1 r1 (decide (v < 0)) D2 o2 r2
        simp only [List.set] at K3
        go_wp2_with fail
        go_roundg (gk - 1)
        case rel => exact ⟨k + 1, by have := HK.out; have := HLT.out; omega, by go_num, by rw [HU.out, HV.out]; exact ⟨D1, o1, r1, D2, o2, r2, K3.ints_ ⟨K3.ints.1, K3.ints.2.1, trivial⟩⟩⟩
        case measure => have := HK.out; have := HLT.out; omega
    · obtain rfl : k = L := by omega
      have hlen : l.take k = l := List.take_of_length_le (by rw [HL.out]; exact Nat.le_refl _)
      rw [hlen] at HX HY
      have j1 : ¬ (k : Int) < (k : Int) := by omega
      have hend : Hid ((sumF l).1 = x ∧ (sumF l).2 = y) := ⟨HX.out, HY.out⟩
      clear hlen hz
      obtain ⟨⟨p0, p1, p2, p3⟩, ⟨q0, q1, q2, q3⟩, _⟩ := K.facts
      obtain ⟨f0, f1, f2, f3⟩ := K.free (i := 1) rfl
      obtain ⟨y1, y2⟩ := K.ne 0 1 rfl rfl (by decide)
      have K3 := K.put4 1 rfl (decide (x < 0)) C1 n1 t1 (decide (y < 0)) C2 n2 t2
      simp only [List.set] at K3
      obtain ⟨_, ⟨r0, r1, r2, r3⟩, _⟩ := K3.facts
      go_wp2_with fail
      refine bodyPost_ret (v := .agg #[.bool (decide (x < 0)), .slice C1 n1 t1, .bool (decide (y < 0)), .slice C2 n2 t2]) (by simp [results, Try.results64, go_sem, r0, r1, r2, r3]) rfl ?_
      rw [hend.out.1, hend.out.2]
      exact RetFr.of_st K3
end Go.Proofs.Ytplmfdgdbolcaaa
