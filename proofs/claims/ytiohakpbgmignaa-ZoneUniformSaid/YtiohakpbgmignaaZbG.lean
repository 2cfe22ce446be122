/-
  Zones: the program's Nights.
-/
import Derived.Test.YtiohakpbgmignaaZbF
set_option linter.unusedVariables false
set_option linter.unusedSimpArgs false
set_option warningAsError false
namespace Go.Proofs.Ytiohakpbgmignaa
open Go.RowKit Go.Shelf
attribute [local go_sem] Oper.semAt_some

theorem frozen2 {W : World} {B : Nat} {t : TypeId} {u v : Value} (h : W.heap[B]? = some (.cells #[u, v] t (0, 0))) : W.frozen? ⟨B, 0, none⟩ = false ∧ W.frozen? ⟨B, 1, none⟩ = false := ⟨by simp [World.frozen?, h], by simp [World.frozen?, h]⟩
theorem grownBy_setCell2 (W : World) (b i : Nat) (v : Value) : W.grownBy (W.setCell ⟨b, i, none⟩ v) (some b) :=
  ⟨rfl, rfl, rfl, (KeepsWalks.setCell W _ v).size, fun k _ hk => Below.heap_setCell _ _ _ k (fun e => hk (by rw [e]))⟩
theorem set2_0 {W : World} {B : Nat} {t : TypeId} {u v : Value} (x : Value) (h : W.heap[B]? = some (.cells #[u, v] t (0, 0))) : (W.setCell ⟨B, 0, none⟩ x).heap[B]? = some (.cells #[x, v] t (0, 0)) := by
  obtain ⟨hlt, hk⟩ := Array.getElem?_eq_some_iff.1 h
  show (W.heap.modify B _)[B]? = _
  rw [Array.getElem?_eq_getElem (by rw [Array.size_modify]; exact hlt), Array.getElem_modify_self, hk]
  rfl
theorem set2_1 {W : World} {B : Nat} {t : TypeId} {u v : Value} (x : Value) (h : W.heap[B]? = some (.cells #[u, v] t (0, 0))) : (W.setCell ⟨B, 1, none⟩ x).heap[B]? = some (.cells #[u, x] t (0, 0)) := by
  obtain ⟨hlt, hk⟩ := Array.getElem?_eq_some_iff.1 h
  show (W.heap.modify B _)[B]? = _
  rw [Array.getElem?_eq_getElem (by rw [Array.size_modify]; exact hlt), Array.getElem_modify_self, hk]
  rfl
def ngM (A k : Nat) (_ : Obj) : Prop := k = A + 1 ∨ k = A + 1 + 1
/-- The nights counted, the night that goes on, the band. -/
structure NgI (w2 V : World) (A : Nat) (f bl N F T : Int) : Prop where
  n : Boxed V (A + 1) 3 (.int .i64 N)
  p : V.heap[A + 1 + 1]? = some (.cells #[.int .i64 F, .int .i64 T] 40 (0, 0))
  q : V.heap[A]? = some (.cells #[.int .i64 f, .int .i64 bl] 63 (0, 0))
  b : Below A w2 V
  sz : A + 3 ≤ V.heap.size
theorem NgI.kept {w2 V V' : World} {A : Nat} {f bl N F T : Int} {row : Option Nat} (h : NgI w2 V A f bl N F T) (hA : True) (hg : V.grownBy V' row) (hr : ∀ r, row = some r → A + 3 ≤ r ∧ ∃ o : Obj, V.heap[r]? = some o ∧ o.isCells = false) : NgI w2 V' A f bl N F T := by
  have hs := h.sz
  refine ⟨h.n.kept hg (fun e => by have := (hr _ e.symm).1; omega), ?_, ?_, h.b.grown hg (by omega) (fun k e => by have := (hr k e).1; omega), by have := hg.size; omega⟩
  · exact (hg.block _ (by omega) (fun e => by have := (hr _ e.symm).1; omega)).trans h.p
  · exact (hg.block _ (by omega) (fun e => by have := (hr _ e.symm).1; omega)).trans h.q
theorem NgI.alloc {w2 V : World} {A : Nat} {f bl N F T : Int} (h : NgI w2 V A f bl N F T) (hA : True) (o : Obj) : NgI w2 (V.alloc o) A f bl N F T := h.kept trivial (World.grownBy_alloc V o none) (fun r e => by cases e)
theorem NgI.setT {w2 V : World} {A : Nat} {f bl N F T : Int} (h : NgI w2 V A f bl N F T) (x : Int) : NgI w2 (V.setCell ⟨A + 1 + 1, 1, none⟩ (.int .i64 x)) A f bl N F x :=
  ⟨(Below.heap_setCell _ _ _ _ (by simp)).trans h.n, set2_1 _ h.p, (Below.heap_setCell _ _ _ _ (by show ¬ A = A + 1 + 1; omega)).trans h.q, h.b.setCell (p := ⟨A + 1 + 1, 1, none⟩) (by show A ≤ A + 1 + 1; omega) _, by simpa using h.sz⟩
theorem NgI.setF {w2 V : World} {A : Nat} {f bl N F T : Int} (h : NgI w2 V A f bl N F T) (x : Int) : NgI w2 (V.setCell ⟨A + 1 + 1, 0, none⟩ (.int .i64 x)) A f bl N x T :=
  ⟨(Below.heap_setCell _ _ _ _ (by simp)).trans h.n, set2_0 _ h.p, (Below.heap_setCell _ _ _ _ (by show ¬ A = A + 1 + 1; omega)).trans h.q, h.b.setCell (p := ⟨A + 1 + 1, 0, none⟩) (by show A ≤ A + 1 + 1; omega) _, by simpa using h.sz⟩
theorem NgI.setN {w2 V : World} {A : Nat} {f bl N F T : Int} (h : NgI w2 V A f bl N F T) (x : Int) : NgI w2 (V.setCell ⟨A + 1, 0, none⟩ (.int .i64 x)) A f bl x F T :=
  ⟨h.n.set _, (Below.heap_setCell _ _ _ _ (by simp)).trans h.p, (Below.heap_setCell _ _ _ _ (by simp)).trans h.q, h.b.setCell (p := ⟨A + 1, 0, none⟩) (by show A ≤ A + 1; omega) _, by simpa using h.sz⟩
theorem NgI.call {w2 V V' : World} {A : Nat} {f bl N F T : Int} (h : NgI w2 V A f bl N F T) (g : Below V.heap.size V V') : NgI w2 V' A f bl N F T :=
  have hs := h.sz
  ⟨(g.block _ (by omega)).trans h.n, (g.block _ (by omega)).trans h.p, (g.block _ (by omega)).trans h.q, h.b.trans (g.mono (by omega)), Nat.le_trans hs g.size⟩
theorem NgI.n5 {w2 V V' : World} {A : Nat} {f bl N F T : Int} (h : NgI w2 V A f bl N F T) (g : Below V.heap.size V V') : Boxed V' (A + 1) 3 (.int .i64 N) := (h.call g).n
theorem NgI.added {w2 Z w5 : World} {A B v : Nat} {f bl N F T x : Int} {ob : Obj} (h : NgI w2 Z A f bl N F T) (g : Below Z.heap.size Z w5) (hp : Z.heap[v]? = some ob) (hv : A + 3 ≤ v) (hB : A + 3 ≤ B) :
    Hid (NgI w2 (w5.setCell ⟨A + 1, 0, none⟩ (.int .i64 x)) A f bl x F T) ∧ Hid ((w5.setCell ⟨A + 1, 0, none⟩ (.int .i64 x)).heap[v]? = some ob) ∧ Hid (KeepsFrom B Z (w5.setCell ⟨A + 1, 0, none⟩ (.int .i64 x))) ∧ Hid (KeepsC (ngM A) Z (w5.setCell ⟨A + 1, 0, none⟩ (.int .i64 x))) := by
  refine ⟨Lib.hid ((h.call g).setN _), Lib.hid ?_, Lib.hid ?_, Lib.hid ?_⟩
  · exact (Below.heap_setCell _ _ _ _ (by show ¬ _ = _; simp; omega)).trans ((g.block _ (Array.getElem?_eq_some_iff.1 hp).1).trans hp)
  · exact (⟨g.size, fun k o _ hk _ => (g.block k (Array.getElem?_eq_some_iff.1 hk).1).trans hk⟩ : KeepsFrom B Z w5).trans ((KeepsOthers.setCell _ _ _).from _)
  · exact (KeepsC.of_below g (Nat.le_refl _)).trans (KeepsC.of_grownBy (grownBy_setCell2 _ _ _ _) (fun k e ob hob => .inl (by cases e; exact .inl rfl)))
set_option maxHeartbeats 8000000 in
set_option maxRecDepth 1000000 in
theorem nights_any (nm : List UInt8) (hnl : nm.length ≤ 9223372036854775807) (o : Int) (a : Option Addr) (n c : Nat) (ss : List (Int × Int)) (w : World) (hS : ShIn w a n ss) (hn : n ≤ 9223372036854775807) (y z f t : Int) :
    Calls Try.prog 28 #[.agg #[.string ⟨nm.toArray⟩, .int .i64 o, .slice a n c], .agg #[.int .i64 y, .int .i64 z], .int .i64 f, .int .i64 t] w (RetNE w (ngV (zE (nameB nm) o ss) o ss y z f t) (bandE (zE (nameB nm) o ss) y z f t)) := by
  have hv := fun w hS => validateBand_any nm hnl o a n c ss w hS hn y z f t
  have hok := @zE_ok (nameB nm) o ss
  have K0 := Lib.hid (KS.start (nm := nm) (o := o) (c := c) hS y z 24 40)
  obtain ⟨E, HE⟩ : ∃ v, Hid (zE (nameB nm) o ss = v) := ⟨_, rfl⟩
  rw [HE.out] at hok ⊢
  simp only [HE.out] at hv
  have hbo := @bandE_ok E y z f t
  have hdV : ngV E o ss y z f t = if bandE E y z f t = 0 then _ else 0 := rfl
  obtain ⟨X, HX⟩ : ∃ v, Hid (bandE E y z f t = v) := ⟨_, rfl⟩
  obtain ⟨V, HV⟩ : ∃ v, Hid (ngV E o ss y z f t = v) := ⟨_, rfl⟩
  simp only [HX.out] at hv
  rw [HX.out] at hbo hdV ⊢
  rw [HV.out] at hdV ⊢
  have HSo := Lib.hid hS
  by_cases h0 : X = 0
  · subst h0
    rw [if_pos rfl] at hdV
    obtain ⟨rfl, hsp, hf, ht⟩ := hbo rfl
    obtain ⟨_, hz⟩ := hok rfl
    obtain ⟨sp1, sp2, sp3⟩ := spanB_in hsp
    have hmb := makeBand_any f t hf ht
    obtain ⟨bl, hbl⟩ : ∃ v, (t - f) % 1440 = v := ⟨_, rfl⟩
    rw [hbl] at hmb
    have hst := stays_any nm o a n c y z f bl
    have HZ := Lib.hid hz
    have HDV := Lib.hid hdV
    have HBL := Lib.hid hbl
    have HNN := Lib.hid hn
    clear hS hz hok hbo hdV hbl
    refine (callsIn_wide (n := 0)).1 ?_
    refine callsIn_of_wp_marks (n := 0) Try.func28 rfl trivial ?_ rfl
    simp only [Try.ntmps28, List.size_toArray, List.length_cons, List.length_nil, Nat.reduceAdd, Nat.reduceSub, Array.replicate_succ, Array.replicate_zero, List.push_toArray, List.append_toArray, List.nil_append, List.cons_append]
    obtain ⟨b0, b1, b2⟩ := K0.out.k.z
    obtain ⟨c0, c1⟩ := K0.out.p
    gi_upto_region 7 with (first
      | (refine ⟨trivial, rfl, ?_⟩; (with_reducible refine (callsIn_wide.2 (hv _ K0.out.k.s)).mono ?_); rintro e w1 ⟨rfl, g1⟩; have K1 := Lib.hid (K0.out.call g1); obtain ⟨d0, d1, d2⟩ := K1.out.k.z; obtain ⟨f0, f1⟩ := K1.out.p; clear g1)
      | (refine ⟨trivial, rfl, ?_⟩; (with_reducible refine (callsIn_wide.2 (hmb _)).mono ?_); rintro e w2 ⟨rfl, g2⟩; have K2 := Lib.hid (K1.out.call g2); obtain ⟨r0, r1, r2⟩ := K2.out.k.z; obtain ⟨s0, s1⟩ := K2.out.p; have l1 := K2.out.k.z.lt; have l2 := K2.out.p.lt; clear g2)
      | fail)
    clear b0 b1 b2 c0 c1 d0 d1 d2 f0 f1
    obtain ⟨W1, hW1⟩ : ∃ W1, ((w2.alloc (.cells #[.int .i64 f, .int .i64 bl] 63)).alloc (.cells #[.int .i64 0] 3)).alloc (.cells #[.int .i64 0, .int .i64 0] 40) = W1 := ⟨_, rfl⟩
    rw [hW1]
    have a1 : W1.heap[w2.heap.size]? = some (.cells #[.int .i64 f, .int .i64 bl] 63) := by
      rw [← hW1]
      exact (Below.heap_alloc _ _ _ (by simp; omega)).trans ((Below.heap_alloc _ _ _ (by simp)).trans (World.alloc_heap_new w2 _))
    have a2 : Boxed W1 (w2.heap.size + 1) 3 (.int .i64 0) := by
      have h := (Boxed.new (w2.alloc (.cells #[.int .i64 f, .int .i64 bl] 63)) 3 (.int .i64 0)).alloc (.cells #[.int .i64 0, .int .i64 0] 40)
      rw [World.size_alloc] at h
      rw [← hW1]; exact h
    have a3 : W1.heap[w2.heap.size + 1 + 1]? = some (.cells #[.int .i64 0, .int .i64 0] 40) := by
      have h := World.alloc_heap_new ((w2.alloc (.cells #[.int .i64 f, .int .i64 bl] 63)).alloc (.cells #[.int .i64 0] 3)) (.cells #[.int .i64 0, .int .i64 0] 40)
      rw [World.size_alloc, World.size_alloc] at h
      rw [← hW1]; exact h
    have a4 : W1.heap.size = w2.heap.size + 3 := by rw [← hW1]; simp
    have a5 : Below w2.heap.size w2 W1 := by rw [← hW1]; exact (((cnew _ _).alloc (by simp) _).alloc (by simp; omega) _)
    clear hW1 r0 r1 r2 s0 s1 l1 l2
    obtain ⟨b0, b1, b2⟩ := K2.out.k.z.call a5
    obtain ⟨c0, c1⟩ := K2.out.p.call a5
    obtain ⟨q0, q1⟩ := BoxS.at a1
    gi_wp2_with (first
      | (refine ⟨trivial, rfl, ?_⟩; (with_reducible refine (callsIn_wide.2 (hst _)).mono ?_); rintro e w3 ⟨rfl, rfl⟩)
      | fail)
    clear b0 b1 b2 c0 c1 q0 q1
    obtain ⟨W2, hW2⟩ : ∃ W2, ((W1.alloc (.cells #[.string ⟨nm.toArray⟩, .int .i64 o, .slice a n c] 24)).alloc (.cells #[.int .i64 y, .int .i64 z] 40)).alloc (.cells #[.int .i64 f, .int .i64 bl] 63) = W2 := ⟨_, rfl⟩
    rw [hW2]
    have f2 : BoxZ W2 (w2.heap.size + 3) nm o a n c := by
      have h := ((boxZ_new W1 nm o a n c 24).call (cnew _ (.cells #[.int .i64 y, .int .i64 z] 40))).call (cnew _ (.cells #[.int .i64 f, .int .i64 bl] 63))
      rw [← hW2, ← a4]; exact h
    have f3 : BoxS W2 (w2.heap.size + 3 + 1) y z := by
      have h := (boxS_new (W1.alloc (.cells #[.string ⟨nm.toArray⟩, .int .i64 o, .slice a n c] 24)) y z 40).call (cnew _ (.cells #[.int .i64 f, .int .i64 bl] 63))
      rw [World.size_alloc] at h
      rw [← hW2, ← a4]; exact h
    have f4 : BoxS W2 (w2.heap.size + 3 + 1 + 1) f bl := by
      have h := boxS_new ((W1.alloc (.cells #[.string ⟨nm.toArray⟩, .int .i64 o, .slice a n c] 24)).alloc (.cells #[.int .i64 y, .int .i64 z] 40)) f bl 63
      rw [World.size_alloc, World.size_alloc] at h
      rw [← hW2, ← a4]; exact h
    have f5 : W2.heap.size = w2.heap.size + 6 := by rw [← hW2]; simp; omega
    have f6 : Below W1.heap.size W1 W2 := by rw [← hW2]; exact (((cnew _ _).alloc (by simp) _).alloc (by simp; omega) _)
    have f7 : ShIn W2 a n ss := (K2.out.k.s.call a5).call f6
    have f8 : Below w2.heap.size w2 W2 := a5.trans (f6.mono (by omega))
    have hNg : NgI w2 W2 w2.heap.size f bl 0 0 0 := ⟨(f6.block _ (by omega)).trans a2, (f6.block _ (by omega)).trans a3, (f6.block _ (by omega)).trans a1, f8, by omega⟩
    have hww := K2.out.k.b.size
    have hgK : 0 < n → ∀ x, a = some x → x.block < w2.heap.size := by
      intro h0 x hx
      rcases HSo.out.2 with h | ⟨g, o', e2, e3, _⟩
      · omega
      · rw [e2] at hx; cases hx; show g < _; omega
    obtain ⟨A, HA⟩ : ∃ A, w2.heap.size = A := ⟨_, rfl⟩
    rw [HA] at f2 f3 f4 f5 f8 hgK hww hNg ⊢
    have HAs := Lib.hid HA
    have HWB : Hid (Below w.heap.size w w2) := Lib.hid K2.out.k.b
    clear hW2 HA f6 hst hmb a1 a2 a3 a4 a5
    refine range_d (gf := 55) (lb := #[.pointer (some ⟨A + 3, 0, none⟩), .pointer (some ⟨A + 3 + 1, 0, none⟩), .pointer (some ⟨A + 3 + 1 + 1, 0, none⟩)]) rfl (enters_of Try.func55 (by kernel_rfl) rfl)
      (stays_iter W2 (A + 3) (A + 3 + 1) (A + 3 + 1 + 1) nm o a n c ss y z f t bl (ngM A) f2 f3 f4 f7 HNN.out (fun ob (h : _ = _ ∨ _ = _) => by omega) (fun h0 x hx ob (h : _ = _ ∨ _ = _) => by have := hgK h0 x hx; omega) (fun k ob hk (h : _ = _ ∨ _ = _) => by omega) HZ.out hsp hf ht HBL.out)
      (Below.refl _ _) (fun _ => rfl)
      (fun pre V => NgI w2 V A f bl (nst bl pre).1 (nst bl pre).2.1 (nst bl pre).2.2) (fun _ _ => False)
      (fun s X B row h hg hr => h.kept trivial hg (fun r e => ⟨by have := (hr r e).1; omega, (hr r e).2⟩)) (fun _ _ _ _ h _ _ => h)
      hNg ?round ?done ?stop
    case round =>
      rintro lr pre ⟨sf, st⟩ V ⟨t', hcov, ht'⟩ hI
      have hle := hcov.le
      obtain ⟨g1, g2, g3⟩ := hcov.last
      obtain ⟨_, bd1, bd2⟩ := g1.bounds bl sp1
      have hle1 := g1.le
      have hsn := nst_snoc bl pre (sf, st)
      obtain ⟨U, HU⟩ : ∃ v, Hid (nst bl pre = v) := ⟨_, rfl⟩
      rw [HU.out] at bd1 bd2 hI hsn
      obtain ⟨N, F, T⟩ := U
      simp only at bd1 bd2 hI
      have HSN := Lib.hid hsn
      have HI := Lib.hid hI
      have hcp := complete_any F T f bl ⟨by omega, by omega⟩ ⟨by omega, by omega⟩
      have hcb : 0 ≤ compl bl (T - F) ∧ compl bl (T - F) ≤ 1 := by unfold compl; split <;> omega
      obtain ⟨C, HC⟩ : ∃ v, Hid (compl bl (T - F) = v) := ⟨_, rfl⟩
      simp only [HC.out] at hcp hcb
      clear f2 f3 f4 f7 f8 hgK hcov g1 hsn hNg hI
      dsimp only [encStay]
      gi_wp2
      refine ⟨(KeepsOthers.alloc V _).from _, KeepsC.alloc _ _ _, by rw [HU.out]; exact HI.out.alloc trivial _, ?_⟩
      intro Z hZ hTu
      rw [HU.out] at hZ
      have HZZ := Lib.hid hZ
      have hpb := hTu.heap (World.alloc_heap_new V _) rfl
      have HPB := Lib.hid hpb
      have hvs := HI.out.sz
      have hzs := hTu.size
      rw [World.size_alloc] at hzs
      obtain ⟨p0, p1⟩ := BoxS.at hpb
      obtain ⟨x0, x1⟩ := BoxS.at hZ.p
      obtain ⟨z0, z1⟩ := frozen2 hZ.p
      clear hTu hpb hZ
      by_cases hsT : sf = T
      · have hne : (sf != T) = false := by simpa using hsT
        have hst' : nstep bl (N, F, T) (sf, st) = (N, F, st) := by unfold nstep; rw [if_pos hsT]
        have HST := Lib.hid hst'
        clear hsT hst'
        gi_wp2
        refine ⟨(KeepsOthers.setCell _ _ _).from _, KeepsC.of_grownBy (grownBy_setCell2 _ _ _ _) (fun k e ob hob => .inl (by cases e; exact .inr rfl)), ?_⟩
        show NgI w2 _ A f bl (nst bl (pre ++ [(sf, st)])).1 (nst bl (pre ++ [(sf, st)])).2.1 (nst bl (pre ++ [(sf, st)])).2.2
        rw [HSN.out, HST.out]
        exact HZZ.out.setT _
      · have hne : (sf != T) = true := by simpa using hsT
        have hst' : nstep bl (N, F, T) (sf, st) = (N + C, sf, st) := by unfold nstep; rw [if_neg hsT]; simp only [HC.out]
        have HST := Lib.hid hst'
        clear hst'
        have w4 : IntKind.i64.wrap (N + C) = N + C := IntWalk.i64_in _ (by omega)
        gi_upto_region 10 with fail
        gi_cut [] from 37 (fun wx => Hid (NgI w2 wx A f bl (N + C) F T) ∧ Hid (wx.heap[V.heap.size]? = some (.cells #[.int .i64 sf, .int .i64 st] 40)) ∧ Hid (KeepsFrom (A + 6) Z wx) ∧ Hid (KeepsC (ngM A) Z wx))
        case first =>
          have n0 := HZZ.out.n.cell
          have n1 := HZZ.out.n.frozen
          obtain ⟨q0, q1⟩ := BoxS.at HZZ.out.q
          first
          | gi_region_with (first
            | (refine ⟨trivial, rfl, ?_⟩; (with_reducible refine (CallsIn.inRound lr (callsIn_wide.2 (hcp _))).mono ?_); rintro e w5 ⟨rfl, g5⟩; have G5 := Lib.hid (by first | exact g5 | exact (Below.refl _ _).drew.trans g5 : Below Z.heap.size Z w5); have m0 := (HZZ.out.n5 G5.out).cell; have m1 := (HZZ.out.n5 G5.out).frozen; clear g5)
            | fail)
          | fail
          all_goals
            gi_wp2
            gi_meet
            case rel => exact HZZ.out.added G5.out HPB.out (by omega) (by omega)
        obtain ⟨H1, H2, H3, H4⟩ := hcut
        clear p0 p1 x0 x1 z0 z1
        obtain ⟨p0, p1⟩ := BoxS.at H2.out
        obtain ⟨x0, x1⟩ := BoxS.at H1.out.p
        obtain ⟨z0, z1⟩ := frozen2 H1.out.p
        have nx : ¬ V.heap.size = A + 1 + 1 := by omega
        have nx2 : ¬ A + 1 + 1 = V.heap.size := by omega
        gi_wp2
        refine ⟨(H3.out.trans ((KeepsOthers.setCell _ _ _).from _)).trans ((KeepsOthers.setCell _ _ _).from _), (H4.out.trans (KeepsC.of_grownBy (grownBy_setCell2 _ _ _ _) (fun k e ob hob => .inl (by cases e; exact .inr rfl)))).trans (KeepsC.of_grownBy (grownBy_setCell2 _ _ _ _) (fun k e ob hob => .inl (by cases e; exact .inr rfl))), ?_⟩
        show NgI w2 _ A f bl (nst bl (pre ++ [(sf, st)])).1 (nst bl (pre ++ [(sf, st)])).2.1 (nst bl (pre ++ [(sf, st)])).2.2
        rw [HSN.out, HST.out]
        exact (H1.out.setF _).setT _
    case done =>
      rintro D xs V hD hSx hI hKD
      have hng := hSx.nights (sz := bl) sp1 (by have := HBL.out; omega) (fun h u => inB_off (by rw [HBL.out]; exact h) hf ht _)
      have hdv := HDV.out
      rw [HBL.out, ← hng] at hdv
      obtain ⟨_, bd1, bd2⟩ := hSx.bounds bl sp1
      obtain ⟨U, HU⟩ : ∃ v, Hid (nst bl xs = v) := ⟨_, rfl⟩
      have hI2 : NgI w2 V A f bl (nst bl xs).1 (nst bl xs).2.1 (nst bl xs).2.2 := hI
      rw [HU.out] at bd1 bd2 hI2 hdv
      obtain ⟨N, F, T⟩ := U
      simp only at bd1 bd2 hI2 hdv
      have hcp := complete_any F T f bl ⟨by omega, by omega⟩ ⟨by omega, by omega⟩
      have hcb : 0 ≤ compl bl (T - F) ∧ compl bl (T - F) ≤ 1 := by unfold compl; split <;> omega
      obtain ⟨C, HC⟩ : ∃ v, Hid (compl bl (T - F) = v) := ⟨_, rfl⟩
      simp only [HC.out] at hcp hcb
      rw [HC.out] at hdv
      have w4 : IntKind.i64.wrap (N + C) = N + C := IntWalk.i64_in _ (by omega)
      have HI := Lib.hid hI2
      have HDV2 := Lib.hid hdv
      obtain ⟨x0, x1⟩ := BoxS.at hI2.p
      obtain ⟨q0, q1⟩ := BoxS.at hI2.q
      have n0 := hI2.n.cell
      clear f2 f3 f4 f7 f8 hgK hNg hI hI2 hng hdv hSx
      gi_wp2
      first
      | gi_region_with (first
        | (refine ⟨trivial, rfl, ?_⟩; (with_reducible refine (callsIn_wide.2 (hcp _)).mono ?_); rintro e w5 ⟨rfl, g5⟩; have G5 := Lib.hid (by first | exact g5 | exact (Below.refl _ _).drew.trans g5 : Below V.heap.size V w5); have m0 := (HI.out.n5 G5.out).cell; clear g5)
        | fail)
      | fail
      all_goals
        have hK5 := (G5.out.block D (Array.getElem?_eq_some_iff.1 hKD).1).trans hKD
        gi_wp2
        refine ⟨by simp, .inl ⟨_, _, rfl, run_takeDeferred hK5, ?_⟩⟩
        have hv5 := HI.out.sz
        have hBw : Below w.heap.size w w5 := (HWB.out.trans (HI.out.b.mono (by omega))).trans (G5.out.mono (by omega))
        refine ⟨_, results_tmp2 rfl _ _ _, by rw [HDV2.out]; rfl, hBw.trans (belowK_b (w := w) (Nat.le_refl _) w5 D _ _ (by omega) hK5 rfl rfl)⟩
    case stop =>
      intro D pre V _ _ h _
      exact h.elim
  · rw [if_neg h0] at hdV
    subst hdV
    have h1 : (X != 0) = true := by simpa using h0
    clear hS hok hbo
    go_enter Try.func28, Try.ntmps28
    obtain ⟨b0, b1, b2⟩ := K0.out.k.z
    obtain ⟨c0, c1⟩ := K0.out.p
    go_wp2_with (first
      | (go_at_call 43; (with_reducible refine (hv _ K0.out.k.s).mono ?_); rintro e w1 ⟨rfl, g1⟩)
      | fail)
    go_ret2
    exact ⟨rfl, (K0.out.call g1).k.b⟩
end Go.Proofs.Ytiohakpbgmignaa

