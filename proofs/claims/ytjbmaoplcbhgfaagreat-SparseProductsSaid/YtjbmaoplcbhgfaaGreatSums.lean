/-
  Sums of lists of fractions; lists built by append; Light of a list.
-/
import Derived.Test.YtjbmaoplcbhgfaaGreatRfrac3
import Derived.Test.YtjbmaoplcbhgfaaGreatRndA
import Derived.Test.YtjbmaoplcbhgfaaGreatFrM
import Derived.Deep.LoopGhost
import Derived.Test.YtjbmaoplcbhgfaaGreatLightA
import Derived.Test.YtjbmaoplcbhgfaaGreatParA
import Derived.Laws.OwnMore
import Derived.Laws.AppendOwn
import Derived.OwnWalk
set_option linter.unusedVariables false
set_option linter.unusedSimpArgs false
namespace Go.Proofs.YtjbmaoplcbhgfaaGreat
section
open Go.RowKit

/-- A fraction in a list: its cells and its values. -/
structure FE where
  (s : Bool) (A : Option Addr) (n c : Nat) (t : Bool) (B : Option Addr) (m d : Nat) (a b : Int)
def FE.At (w : World) (e : FE) : Prop := IntAt w e.s e.A e.n e.c e.a ∧ IntAt w e.t e.B e.m e.d e.b
/-- The numbers of a fraction have at most K digits. -/
def FE.S (K : Nat) (e : FE) : Prop := Sz e.a K ∧ Sz e.b K
theorem FE.S.mono {K M : Nat} {e : FE} (h : FE.S K e) (hK : K ≤ M) : FE.S M e := ⟨h.1.mono hK, h.2.mono hK⟩
def FE.In (w : World) (g o : Nat) (e : FE) : Prop := w.cell? ⟨g, o, none⟩ = some (.bool e.s) ∧ w.cell? ⟨g, o + 1, none⟩ = some (.slice e.A e.n e.c) ∧ w.cell? ⟨g, o + 2, none⟩ = some (.bool e.t) ∧ w.cell? ⟨g, o + 3, none⟩ = some (.slice e.B e.m e.d)
/-- A slice that reads as a list of fractions. -/
def FL (w : World) (A : Option Addr) (l : List FE) : Prop :=
  (∀ e ∈ l, FE.At w e) ∧ (0 < l.length → ∃ g o, A = some ⟨g, o, none⟩ ∧ g < w.heap.size ∧ ∀ k e, l[k]? = some e → FE.In w g (o + k * 4) e)
theorem FE.At.call {w w' : World} {e : FE} (h : FE.At w e) (hb : Below w.heap.size w w') : FE.At w' e := ⟨h.1.call hb, h.2.call hb⟩
theorem FE.In.call {w w' : World} {g o : Nat} {e : FE} (h : FE.In w g o e) (hg : g < w.heap.size) (hb : Below w.heap.size w w') : FE.In w' g o e := by
  obtain ⟨h1, h2, h3, h4⟩ := h
  have hc := (bcell hb).1
  exact ⟨(hc g _ hg).trans h1, (hc g _ hg).trans h2, (hc g _ hg).trans h3, (hc g _ hg).trans h4⟩
theorem FL.call {w w' : World} {A : Option Addr} {l : List FE} (h : FL w A l) (hb : Below w.heap.size w w') : FL w' A l := by
  refine ⟨fun e he => (h.1 e he).call hb, fun hl => ?_⟩
  obtain ⟨g, o, e1, e2, e4⟩ := h.2 hl
  exact ⟨g, o, e1, Nat.lt_of_lt_of_le e2 hb.size, fun k e hk => (e4 k e hk).call e2 hb⟩
def stepF (p : Int × Int) (e : FE) : Int × Int := (aN p.1 p.2 e.a e.b, aD p.1 p.2 e.a e.b)
def sumF (l : List FE) : Int × Int := l.foldl stepF (0, 1)
def CanP (p : Int × Int) : Prop := 0 < p.2 ∧ Int.gcd p.1 p.2 = 1
theorem can_step (p : Int × Int) (e : FE) : CanP (stepF p e) := ⟨aD_pos .., aN_gcd ..⟩
theorem foldl_can (l : List FE) (p : Int × Int) (hp : CanP p) : CanP (l.foldl stepF p) := by
  induction l generalizing p with
  | nil => exact hp
  | cons e l ih => exact ih _ (can_step p e)
theorem sum_can (l : List FE) : CanP (sumF l) := foldl_can l _ ⟨by decide, by decide⟩
theorem sum_snoc (l : List FE) (e : FE) : sumF (l ++ [e]) = stepF (sumF l) e := by unfold sumF; rw [List.foldl_append]; rfl
theorem sum_take {l : List FE} {k : Nat} {e : FE} (h : l[k]? = some e) : sumF (l.take (k + 1)) = stepF (sumF (l.take k)) e := by
  rw [← sum_snoc, List.take_add_one, h]; rfl
theorem sz_aN2 {a b c d : Int} {k l : Nat} (ha : Sz a k) (hb : Sz b k) (hc : Sz c l) (hd : Sz d l) (hk : 0 < k) (hl : 0 < l) : Sz (aN a b c d) (k + l + 3) ∧ Sz (aD a b c d) (k + l + 3) := by
  have h1 : Sz (rn a b * rd c d) (k + l + 1) := ((sz_rn ha).mul (sz_rd hd hl)).mono (by omega)
  have h2 : Sz (rn c d * rd a b) (k + l + 1) := ((sz_rn hc).mul (sz_rd hb hk)).mono (by omega)
  have h3 : Sz (rd a b * rd c d) (k + l + 2) := ((sz_rd hb hk).mul (sz_rd hd hl)).mono (by omega)
  exact ⟨(sz_rn (h1.add h2)).mono (by omega), (sz_rd h3 (by omega)).mono (by omega)⟩
theorem sz_sum {K : Nat} (hK : 0 < K) (l : List FE) (h : ∀ e ∈ l, FE.S K e) : Sz (sumF l).1 ((K + 3) * l.length + 2) ∧ Sz (sumF l).2 ((K + 3) * l.length + 2) := by
  suffices ∀ (l : List FE) (p : Int × Int) (k : Nat), 0 < k → Sz p.1 k → Sz p.2 k → (∀ e ∈ l, FE.S K e) → Sz (l.foldl stepF p).1 ((K + 3) * l.length + k) ∧ Sz (l.foldl stepF p).2 ((K + 3) * l.length + k) from
    this l (0, 1) 2 (by decide) (Sz.zero _) (sz_i64 (by decide) (by decide)) h
  intro l
  induction l with
  | nil => intro p k _ h1 h2 _; exact ⟨by simpa using h1, by simpa using h2⟩
  | cons e l ih =>
    intro p k hk h1 h2 h3
    have he := h3 e (by simp)
    have h4 := sz_aN2 h1 h2 he.1 he.2 hk hK
    have := ih (stepF p e) (k + K + 3) (by omega) h4.1 h4.2 (fun x hx => h3 x (by simp [hx]))
    rw [List.foldl_cons, List.length_cons, Nat.mul_succ]
    exact ⟨this.1.mono (by omega), this.2.mono (by omega)⟩
/-- All sums of the first ones have at most M digits. -/
def SumS (l : List FE) (M : Nat) : Prop := ∀ k, Sz (sumF (l.take k)).1 M ∧ Sz (sumF (l.take k)).2 M
theorem SumS.of {K M : Nat} {l : List FE} (h : ∀ e ∈ l, FE.S K e) (hK : 0 < K) (hM : (K + 3) * l.length + 2 ≤ M) : SumS l M := fun k => by
  have h1 := sz_sum hK (l.take k) (fun e he => h e (List.mem_of_mem_take he))
  have h2 : (l.take k).length ≤ l.length := by rw [List.length_take]; omega
  have h3 := Nat.mul_le_mul_left (K + 3) h2
  exact ⟨h1.1.mono (by omega), h1.2.mono (by omega)⟩

/-- The head of the program's loop. -/
def SuI (w wr : World) (h3 : Nat) (x y : Int) : Prop :=
  ∃ (A : Option Addr) (n c : Nat) (B : Option Addr) (m d : Nat), St w wr [vf h3 (decide (x < 0)) A n c (decide (y < 0)) B m d, vf w.heap.size false none 0 0 false none 0 0] [(decide (x < 0), A, n, c, x, true), (decide (y < 0), B, m, d, y, true)]

end
section
open Go.RowKit

set_option maxHeartbeats 16000000 in
set_option maxRecDepth 100000 in
theorem sumF_at {w : World} {A : Option Addr} {c : Nat} {l : List FE} (hF : FL w A l) (hS : ∀ e ∈ l, FE.S 2000 e) (hT : SumS l 4000) (hl : l.length ≤ 1000000) :
    Calls Tryz.prog 44 #[.slice A l.length c] w (RetFr w (sumF l).1 (sumF l).2) := by
  have H0 := (St.start w).new 28 (Plains.four false none 0 0 false none 0 0)
  have HH := Lib.hid H0
  clear H0
  have HF := Lib.hid hF
  have HSS := Lib.hid hS
  have HTT := Lib.hid hT
  clear hF hS hT
  obtain ⟨L, HL⟩ : ∃ v, Hid (l.length = v) := ⟨_, rfl⟩
  rw [HL.out] at hl
  rw [HL.out]
  have z0 : rn 0 0 = 0 ∧ rd 0 0 = 1 := r_zero 0
  go_enter Tryz.func44, Tryz.ntmps44
  go_wp2_with (first
    | (go_at_call 51; have K := HH.out; clear HH; (with_reducible refine (canonFrac_at (IntAt.nul _) (IntAt.nul _) (Sz.zero 2000) (Sz.zero 2000)).mono ?_); rw [z0.1, z0.2]; rintro e w1 ⟨B1, m1, k1, B2, m2, k2, rfl, d1, d2, g1⟩; have K1 := (((K.call g1).add (show CanAt w1 false B2 m2 k2 1 from d2)).add (show CanAt w1 false B1 m1 k1 0 from d1)).new 28 (Plains.four false B1 m1 k1 false B2 m2 k2))
    | fail)
  clear K d1 d2 g1 z0
  generalize w1.alloc (.cells #[.bool false, .slice B1 m1 k1, .bool false, .slice B2 m2 k2] 28) = W1 at K1 ⊢
  generalize w1.heap.size = h3 at K1 ⊢
  have HI : SuI w W1 h3 (sumF (l.take 0)).1 (sumF (l.take 0)).2 := ⟨B1, m1, k1, B2, m2, k2, K1⟩
  clear K1
  go_loopg [12] L (fun r i wr => ∃ k : Nat, k + r = L ∧ i = .int .i64 k ∧ SuI w wr h3 (sumF (l.take k)).1 (sumF (l.take k)).2)
  case atStart => exact ⟨0, by omega, rfl, HI⟩
  case round =>
    clear HI
    obtain ⟨k, hk, rfl, hI⟩ := hrel
    obtain ⟨x, HX⟩ : ∃ v, Hid ((sumF (l.take k)).1 = v) := ⟨_, rfl⟩
    obtain ⟨y, HY⟩ : ∃ v, Hid ((sumF (l.take k)).2 = v) := ⟨_, rfl⟩
    have hz := HTT.out k
    have hcan := sum_can (l.take k)
    unfold CanP at hcan
    rw [HX.out, HY.out] at hI hz hcan
    obtain ⟨C1, n1, t1, C2, n2, t2, K⟩ := hI
    by_cases hlt : k < L
    · obtain ⟨e, he⟩ : ∃ e, l[k]? = some e := ⟨l[k]'(by rw [HL.out]; exact hlt), List.getElem?_eq_getElem _⟩
      have hmem : e ∈ l := List.mem_of_getElem? he
      obtain ⟨g, o, hA, hg, hcell⟩ := HF.out.2 (by rw [HL.out]; omega)
      have hin := (hcell k e he).call hg K.below
      have hat := (HF.out.1 e hmem).call K.below
      have hsm := HSS.out e hmem
      have hs := sum_take he
      have HE1 : Hid (aN x y e.a e.b = (sumF (l.take (k + 1))).1 ∧ aD x y e.a e.b = (sumF (l.take (k + 1))).2) := by
        unfold Hid; rw [hs, ← HX.out, ← HY.out]; exact ⟨rfl, rfl⟩
      obtain ⟨s, P, pn, pc, s', P', qn, qc, a, b⟩ := e
      obtain ⟨c0, c1, c2, c3⟩ := hin
      obtain ⟨i1, i2⟩ := hat
      obtain ⟨za, zb⟩ := hsm
      simp only at c0 c1 c2 c3 i1 i2 za zb HE1
      clear hs hcell he hmem
      have za2 : Sz a 2000 := za.mono (by decide)
      have zb2 : Sz b 2000 := zb.mono (by decide)
      have zx4 : Sz x 4000 := hz.1.mono (by decide)
      have zy4 : Sz y 4000 := hz.2.mono (by decide)
      have kx := zx4.ok
      have ky := zy4.ok
      subst hA
      obtain ⟨u, HU⟩ : ∃ v, Hid ((sumF (l.take (k + 1))).1 = v) := ⟨_, rfl⟩
      obtain ⟨v, HV⟩ : ∃ v, Hid ((sumF (l.take (k + 1))).2 = v) := ⟨_, rfl⟩
      rw [HU.out, HV.out] at HE1
      obtain ⟨f, HFa⟩ : ∃ v, Hid (rn a b = v) := ⟨_, rfl⟩
      obtain ⟨h, HFb⟩ : ∃ v, Hid (rd a b = v) := ⟨_, rfl⟩
      have zf : Sz f 4000 := by rw [← HFa.out]; exact (sz_rn za).mono (by decide)
      have zh : Sz h 4000 := by rw [← HFb.out]; exact (sz_rd zb (by decide)).mono (by decide)
      have hfh : Hid (0 < h ∧ Int.gcd f h = 1) := by unfold Hid; rw [← HFa.out, ← HFb.out]; exact ⟨rd_pos a b, rn_gcd a b⟩
      have HE2 : Hid (rn (x * h + f * y) (y * h) = u ∧ rd (x * h + f * y) (y * h) = v) := by
        have h1 := r_self hcan.1 hcan.2
        have h2 := HE1.out
        unfold aN aD at h2
        rw [h1.1, h1.2, HFa.out, HFb.out] at h2
        exact h2
      have HCAN := Lib.hid hcan
      have HK := Lib.hid hk
      have HLT := Lib.hid hlt
      have j0 : (0 : Int) ≤ (k : Int) := by omega
      have j1 : (k : Int) < (L : Int) := by omega
      have Ka := K.new 28 (Plains.four s P pn pc s' P' qn qc)
      have i3 := i1.call (bnew wr (.cells #[.bool s, .slice P pn pc, .bool s', .slice P' qn qc] 28))
      have i4 := i2.call (bnew wr (.cells #[.bool s, .slice P pn pc, .bool s', .slice P' qn qc] 28))
      obtain ⟨⟨p0, p1, p2, p3⟩, _⟩ := K.facts
      obtain ⟨_, ⟨p4, p5, p6, p7⟩, _⟩ := Ka.facts
      have jx := Ka.ints.1.ci kx
      have jy := Ka.ints.2.1.ci ky
      clear hk hz hcan
      go_upto_region 6 with (first
        | (go_at_call 53; (with_reducible refine (addWords_at jx jy i3 i4).mono ?_); rintro ee w2 ⟨x1, y1, ok, hok, D1, o1, r1, D2, o2, r2, rfl, e1, e2, g2⟩; have HOK := Lib.hid hok; clear hok; have K2 := (((Ka.call g2).add e2).add e1).new 28 (Plains.four (decide (x1 < 0)) D1 o1 r1 (decide (y1 < 0)) D2 o2 r2))
        | fail)
      have b1 := (i3.call g2).call (bnew w2 (.cells #[.bool (decide (x1 < 0)), .slice D1 o1 r1, .bool (decide (y1 < 0)), .slice D2 o2 r2] 28))
      have b2 := (i4.call g2).call (bnew w2 (.cells #[.bool (decide (x1 < 0)), .slice D1 o1 r1, .bool (decide (y1 < 0)), .slice D2 o2 r2] 28))
      clear K Ka i1 i2 i3 i4 p0 p1 p2 p3 p4 p5 p6 p7 jx jy e1 e2 g2 c0 c1 c2 c3
      generalize w2.alloc (.cells #[.bool (decide (x1 < 0)), .slice D1 o1 r1, .bool (decide (y1 < 0)), .slice D2 o2 r2] 28) = W2 at K2 b1 b2 ⊢
      generalize w2.heap.size = h6 at K2 ⊢
      generalize wr.heap.size = h5 at K2 ⊢
      cases ok with
      | true =>
        obtain ⟨q1, q2⟩ := HOK.out rfl
        rw [HE1.out.1] at q1
        rw [HE1.out.2] at q2
        subst q1 q2
        go_upto_region 7 with fail
        obtain ⟨⟨p0, p1, p2, p3⟩, _, ⟨p4, p5, p6, p7⟩, _⟩ := K2.facts
        obtain ⟨f0, f1, f2, f3⟩ := K2.free (i := 2) rfl
        obtain ⟨z1, z2⟩ := K2.ne 0 2 rfl rfl (by decide)
        have K3 := K2.put4 2 rfl (decide (x1 < 0)) D1 o1 r1 (decide (y1 < 0)) D2 o2 r2
        simp only [List.set] at K3
        have K4 := (K3.erase 0).erase 0
        simp only [List.eraseIdx] at K4
        go_wp2_with fail
        go_roundg (gk - 1)
        case rel => exact ⟨k + 1, by have := HK.out; have := HLT.out; omega, by go_num, by rw [HU.out, HV.out]; exact ⟨D1, o1, r1, D2, o2, r2, K4.ints_ ⟨K4.ints.1, K4.ints.2.1, trivial⟩⟩⟩
        case measure => have := HK.out; have := HLT.out; omega
      | false =>
        clear HOK
        go_upto_region 8 with fail
        have Kd := K2.drew
        have b3 := b1.call (Below.refl _ W2).drew
        have b4 := b2.call (Below.refl _ W2).drew
        clear K2 b1 b2
        obtain ⟨_, ⟨p0, p1, p2, p3⟩, ⟨p4, p5, p6, p7⟩, _⟩ := Kd.facts
        go_region_with (first
          | (go_at_call 51; (with_reducible refine (canonFrac_at b3 b4 za2 zb2).mono ?_); rw [HFa.out, HFb.out]; rintro ee w3 ⟨E1, l1, q1, E2, l2, q2, rfl, e1, e2, g3⟩; have K3 := ((Kd.call g3).add e2).add e1; clear p0 p1 p2 p3 p4 p5 p6 p7; obtain ⟨_, ⟨p0, p1, p2, p3⟩, ⟨p4, p5, p6, p7⟩, _⟩ := K3.facts; have jx := K3.ints.2.2.2.2.1.c; have jy := K3.ints.2.2.2.2.2.1.c)
          | (go_at_call 54; (with_reducible refine (addCanonical_at jx jy e1 e2 zx4 zy4 zf zh HCAN.out.1 hfh.out.1 HCAN.out.2 hfh.out.2).mono ?_); rw [HE2.out.1, HE2.out.2]; rintro ee w4 ⟨E3, l3, q3, E4, l4, q4, rfl, e3, e4, g4⟩; have K4 := ((K3.call g4).add e4).add e3; clear p0 p1 p2 p3 p4 p5 p6 p7; obtain ⟨_, ⟨p0, p1, p2, p3⟩, ⟨p4, p5, p6, p7⟩, _⟩ := K4.facts; obtain ⟨f0, f1, f2, f3⟩ := K4.free (i := 2) rfl)
          | fail)
        all_goals
          have K5 := K4.put4 2 rfl (decide (u < 0)) E3 l3 q3 (decide (v < 0)) E4 l4 q4
          simp only [List.set] at K5
          have K6 := (K5.erase 0).erase 0
          simp only [List.eraseIdx] at K6
          go_wp2_with fail
          go_roundg (gk - 1)
          case rel => exact ⟨k + 1, by have := HK.out; have := HLT.out; omega, by go_num, by rw [HU.out, HV.out]; exact ⟨E3, l3, q3, E4, l4, q4, K6.ints_ ⟨K6.ints.1, K6.ints.2.1, trivial⟩⟩⟩
          case measure => have := HK.out; have := HLT.out; omega
    · obtain rfl : k = L := by omega
      have hlen : l.take k = l := List.take_of_length_le (by rw [HL.out]; exact Nat.le_refl _)
      rw [hlen] at HX HY
      have j1 : ¬ (k : Int) < (k : Int) := by omega
      have hend : Hid ((sumF l).1 = x ∧ (sumF l).2 = y) := ⟨HX.out, HY.out⟩
      clear hlen hz hcan
      obtain ⟨⟨p0, p1, p2, p3⟩, ⟨q0, q1, q2, q3⟩, _⟩ := K.facts
      obtain ⟨f0, f1, f2, f3⟩ := K.free (i := 1) rfl
      obtain ⟨y1, y2⟩ := K.ne 0 1 rfl rfl (by decide)
      have K3 := K.put4 1 rfl (decide (x < 0)) C1 n1 t1 (decide (y < 0)) C2 n2 t2
      simp only [List.set] at K3
      obtain ⟨_, ⟨r0, r1, r2, r3⟩, _⟩ := K3.facts
      go_wp2_with fail
      refine bodyPost_ret (v := .agg #[.bool (decide (x < 0)), .slice C1 n1 t1, .bool (decide (y < 0)), .slice C2 n2 t2]) (by simp [results, Tryz.results44, go_sem, r0, r1, r2, r3]) rfl ?_
      rw [hend.out.1, hend.out.2]
      exact RetFr.of_st K3
end
section
open Go.RowKit

theorem aN_comm (a b c d : Int) : aN a b c d = aN c d a b ∧ aD a b c d = aD c d a b := by
  unfold aN aD; rw [Int.add_comm, Int.mul_comm (rd a b)]; exact ⟨rfl, rfl⟩
theorem step_comm (p : Int × Int) (e f : FE) : stepF (stepF p e) f = stepF (stepF p f) e := by
  unfold stepF
  have h1 := fld_assoc p.1 p.2 e.a e.b f.a f.b
  have h2 := fld_assoc p.1 p.2 f.a f.b e.a e.b
  have h3 := aN_comm e.a e.b f.a f.b
  rw [h3.1, h3.2] at h1
  show (_, _) = (_, _)
  rw [← h1.1, ← h1.2, ← h2.1, ← h2.2]
theorem foldl_step (l : List FE) (p : Int × Int) (e : FE) : l.foldl stepF (stepF p e) = stepF (l.foldl stepF p) e := by
  induction l generalizing p with
  | nil => rfl
  | cons f l ih => rw [List.foldl_cons, List.foldl_cons, step_comm, ih]
theorem sum_reverse (l : List FE) : sumF l.reverse = sumF l := by
  unfold sumF
  suffices ∀ p, l.reverse.foldl stepF p = l.foldl stepF p from this _
  induction l with
  | nil => intro p; rfl
  | cons e l ih =>
    intro p
    rw [List.reverse_cons, List.foldl_append, ih]
    show stepF (l.foldl stepF p) e = l.foldl stepF (stepF p e)
    exact (foldl_step l p e).symm

def FE.cells (e : FE) : List Value := [.bool e.s, .slice e.A e.n e.c, .bool e.t, .slice e.B e.m e.d]
def flatF (l : List FE) : List Value := l.flatMap FE.cells
theorem flat_snoc (l : List FE) (e : FE) : flatF (l ++ [e]) = flatF l ++ e.cells := by unfold flatF; simp
theorem flat_len (l : List FE) : (flatF l).length = l.length * 4 := by
  induction l with
  | nil => rfl
  | cons e l ih => unfold flatF at *; rw [List.flatMap_cons, List.length_append, ih, List.length_cons]; show 4 + _ = _; omega
theorem flat_get (l : List FE) (k i : Nat) (e : FE) (h : l[k]? = some e) (hi : i < 4) : (flatF l)[k * 4 + i]? = e.cells[i]? := by
  induction l generalizing k with
  | nil => simp at h
  | cons f l ih =>
    unfold flatF at *
    rw [List.flatMap_cons]
    have h4 : f.cells.length = 4 := rfl
    cases k with
    | zero =>
      simp only [List.getElem?_cons_zero, Option.some.injEq] at h
      subst h
      rw [List.getElem?_append_left (by rw [h4]; omega), Nat.zero_mul, Nat.zero_add]
    | succ k =>
      rw [List.getElem?_cons_succ] at h
      rw [List.getElem?_append_right (by rw [h4]; omega), h4, show (k + 1) * 4 + i - 4 = k * 4 + i by omega]
      exact ih k h
/-- An owned row of fractions reads as their list. -/
theorem own_FL {w wr : World} {v : Value} {l : List FE} (hown : wr.ownsRow w.heap.size 28 4 v l.length (flatF l)) (hall : ∀ e ∈ l, FE.At wr e) :
    ∃ A c, v = .slice A l.length c ∧ FL wr A l := by
  rcases Nat.eq_zero_or_pos l.length with h0 | h0
  · rcases hown.2 with ⟨rfl, _⟩ | ⟨g, cap, cur, rfl, _⟩
    · exact ⟨none, 0, by rw [h0], hall, fun h => by omega⟩
    · exact ⟨_, cap, rfl, hall, fun h => by omega⟩
  · rcases hown.2 with ⟨_, hz⟩ | ⟨g, cap, cur, rfl, hg, hb, _⟩
    · omega
    · refine ⟨_, cap, rfl, hall, fun _ => ⟨g, 0, rfl, ?_, fun k e hk => ?_⟩⟩
      · rcases Nat.lt_or_ge g wr.heap.size with h | h
        · exact h
        · rw [Array.getElem?_eq_none h] at hb; cases hb
      · have hkl : k < l.length := by
          rcases Nat.lt_or_ge k l.length with h | h
          · exact h
          · rw [List.getElem?_eq_none h] at hk; cases hk
        have hc : ∀ i, i < 4 → wr.cell? ⟨g, k * 4 + i, none⟩ = e.cells[i]? := fun i hi => (hown.cellAt (k * 4 + i) (by omega)).trans (flat_get l k i e hk hi)
        have c0 := hc 0 (by omega)
        have c1 := hc 1 (by omega)
        have c2 := hc 2 (by omega)
        have c3 := hc 3 (by omega)
        rw [Nat.zero_add]
        exact ⟨c0, c1, c2, c3⟩
theorem cell_four_new (w : World) (a b c d : Value) (t : TypeId) : ∀ j u, [a, b, c, d][j]? = some u → (w.alloc (.cells #[a, b, c, d] t)).cell? ((⟨w.heap.size, 0, none⟩ : Addr).add j) = some u := by
  intro j u hj
  have hh := Go.Deep.blk_alloc_new w (.cells #[a, b, c, d] t)
  match j, hj with
  | 0, hj => simp at hj; subst hj; simp [Addr.add]
  | 1, hj => simp at hj; subst hj; simp [Addr.add]
  | 2, hj => simp at hj; subst hj; simp [Addr.add]
  | 3, hj => simp at hj; subst hj; simp [Addr.add]
  | (j + 4), hj => simp at hj
theorem frac_info : (Tryz.prog.info? 28).map (fun i => (i.zero, i.size, i.bytes)) = some (some (.agg #[.bool false, .slice none 0 0, .bool false, .slice none 0 0]), 4, 64) := by kernel_rfl

set_option maxHeartbeats 4000000 in
set_option maxRecDepth 100000 in
theorem lightF_nil (A : Option Addr) (c : Nat) (w : World) : Calls Tryz.prog 6 #[.slice A 0 c] w (RetB1 w true) := by
  go_enter Tryz.func6, Tryz.ntmps6
  go_wp2
  go_loopg [3] 0 (fun m i wr => i = .int .i64 0 ∧ wr = w)
  case atStart => exact ⟨rfl, rfl⟩
  case round =>
    obtain ⟨rfl, rfl⟩ := hrel
    go_wp2
    go_ret
    exact ⟨rfl, Below.refl _ _⟩
/-- Light of a list of fractions. -/
theorem lightL {w : World} {A : Option Addr} {c : Nat} {l : List FE} (hN : ∀ e ∈ l, e.n ≤ 140737488351232 ∧ e.m ≤ 140737488351232) (hl : l.length ≤ 140737488351232)
    (hc : 0 < l.length → ∃ g o, A = some ⟨g, o, none⟩ ∧ g < w.heap.size ∧ ∀ k e, l[k]? = some e → FE.In w g (o + k * 4) e) (b : Bool) (hb : b = true ↔ (∀ e ∈ l, e.n ≤ 12 ∧ e.m ≤ 12) ∧ l.length < 20) :
    Calls Tryz.prog 6 #[.slice A l.length c] w (RetB1 w b) := by
  rcases Nat.eq_zero_or_pos l.length with h0 | h0
  · rw [h0]
    have hbt : b = true := hb.2 ⟨fun e he => (by rw [List.length_eq_zero_iff.1 h0] at he; cases he), by omega⟩
    rw [hbt]
    exact lightF_nil A c w
  · obtain ⟨g, o, rfl, hg, hcell⟩ := hc h0
    let z : FE := ⟨false, none, 0, 0, false, none, 0, 0, 0, 0⟩
    have hget : ∀ i, i < l.length → l[i]? = some (l.getD i z) := fun i hi => by simp [List.getD, List.getElem?_eq_getElem hi]
    refine lightF_any g o l.length c (fun i => (l.getD i z).s) (fun i => (l.getD i z).t) (fun i => (l.getD i z).A) (fun i => (l.getD i z).B) (fun i => (l.getD i z).n) (fun i => (l.getD i z).c) (fun i => (l.getD i z).m) (fun i => (l.getD i z).d) w hg hl (fun i hi => hN _ (List.mem_of_getElem? (hget i hi))) (fun i hi => hcell i _ (hget i hi)) b (hb.trans ?_)
    refine ⟨fun ⟨h1, h2⟩ => ⟨fun i hi => h1 _ (List.mem_of_getElem? (hget i hi)), h2⟩, fun ⟨h1, h2⟩ => ⟨fun e he => ?_, h2⟩⟩
    obtain ⟨i, hi, rfl⟩ := List.mem_iff_getElem.1 he
    have := h1 i hi
    simpa [List.getD, List.getElem?_eq_getElem hi] using this

/-- A fraction of a parameter. -/
def FE.P (w : World) (e : FE) : Prop := ∃ da db, InP w e.A e.n e.c da ∧ InP w e.B e.m e.d db ∧ e.a = zOf e.s (val da) ∧ e.b = zOf e.t (val db)

end
end Go.Proofs.YtjbmaoplcbhgfaaGreat

