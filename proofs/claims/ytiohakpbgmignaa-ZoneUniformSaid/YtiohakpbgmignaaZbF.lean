/-
  Zones: the program's BandMinutes.
-/
import Derived.Test.YtiohakpbgmignaaZbE
import Derived.Sort.CutIn
set_option linter.unusedVariables false
set_option linter.unusedSimpArgs false
set_option warningAsError false
namespace Go.Proofs.Ytiohakpbgmignaa
open Go.RowKit Go.Shelf
attribute [local go_sem] Oper.semAt_some
def bmM (K : Nat) : Nat → Obj → Prop := fun k _ => k = K
structure BmI (w1 V : World) (K : Nat) (s : Int) : Prop where
  v : Boxed V K 3 (.int .i64 s)
  b : Below K w1 V
  sz : K + 1 ≤ V.heap.size
set_option maxHeartbeats 8000000 in
set_option maxRecDepth 1000000 in
theorem bandMinutes_any (nm : List UInt8) (hnl : nm.length ≤ 9223372036854775807) (o : Int) (a : Option Addr) (n c : Nat) (ss : List (Int × Int)) (w : World) (hS : ShIn w a n ss) (hn : n ≤ 9223372036854775807) (y z f t : Int) :
    Calls Try.prog 26 #[.agg #[.string ⟨nm.toArray⟩, .int .i64 o, .slice a n c], .agg #[.int .i64 y, .int .i64 z], .int .i64 f, .int .i64 t] w (RetNE w (bmV (zE (nameB nm) o ss) o ss y z f t) (bandE (zE (nameB nm) o ss) y z f t)) := by
  have hv := fun w hS => validateBand_any nm hnl o a n c ss w hS hn y z f t
  have hok := @zE_ok (nameB nm) o ss
  have K0 := Lib.hid (KS.start (nm := nm) (o := o) (c := c) hS y z 24 40)
  obtain ⟨E, HE⟩ : ∃ v, Hid (zE (nameB nm) o ss = v) := ⟨_, rfl⟩
  rw [HE.out] at hok ⊢
  simp only [HE.out] at hv
  have hbo := @bandE_ok E y z f t
  have hdV : bmV E o ss y z f t = if bandE E y z f t = 0 then _ else 0 := rfl
  obtain ⟨X, HX⟩ : ∃ v, Hid (bandE E y z f t = v) := ⟨_, rfl⟩
  obtain ⟨V, HV⟩ : ∃ v, Hid (bmV E o ss y z f t = v) := ⟨_, rfl⟩
  simp only [HX.out] at hv
  rw [HX.out] at hbo hdV ⊢
  rw [HV.out] at hdV ⊢
  have HSo := Lib.hid hS
  by_cases h0 : X = 0
  · subst h0
    rw [if_pos rfl] at hdV
    obtain ⟨rfl, hsp, hf, ht⟩ := hbo rfl
    obtain ⟨_, hz⟩ := hok rfl
    obtain ⟨sp1, sp2, sp3⟩ := spanB_in hsp
    have hmb := makeBand_any f t hf ht
    obtain ⟨bl, hbl⟩ : ∃ v, (t - f) % 1440 = v := ⟨_, rfl⟩
    rw [hbl] at hmb
    have hst := stays_any nm o a n c y z f bl
    have HZ := Lib.hid hz
    have HDV := Lib.hid hdV
    have HBL := Lib.hid hbl
    have HNN := Lib.hid hn
    clear hS hz hok hbo hdV hbl
    refine (callsIn_wide (n := 0)).1 ?_
    refine callsIn_of_wp_marks (n := 0) Try.func26 rfl trivial ?_ rfl
    simp only [Try.ntmps26, List.size_toArray, List.length_cons, List.length_nil, Nat.reduceAdd, Nat.reduceSub, Array.replicate_succ, Array.replicate_zero, List.push_toArray, List.append_toArray, List.nil_append, List.cons_append]
    obtain ⟨b0, b1, b2⟩ := K0.out.k.z
    obtain ⟨c0, c1⟩ := K0.out.p
    gi_upto_region 5 with (first
      | (refine ⟨trivial, rfl, ?_⟩; (with_reducible refine (callsIn_wide.2 (hv _ K0.out.k.s)).mono ?_); rintro e w1 ⟨rfl, g1⟩; have K1 := Lib.hid (K0.out.call g1); obtain ⟨d0, d1, d2⟩ := K1.out.k.z; obtain ⟨f0, f1⟩ := K1.out.p; have l1 := K1.out.k.z.lt; have l2 := K1.out.p.lt; have HN1 := Lib.hid (Nat.le_trans (by simp) g1.size : w.heap.size + 2 ≤ w1.heap.size); clear g1)
      | fail)
    clear b0 b1 b2 c0 c1
    have K2 := Lib.hid (K1.out.call (cnew w1 (.cells #[.int .i64 0] 3)))
    have BX := Lib.hid (Boxed.new w1 3 (.int .i64 0))
    gi_cut [26] from 21 (fun v wx => ∃ w2 : World, KS w w2 w.heap.size (w.heap.size + 1) nm o a n c ss y z ∧ Below (w1.alloc (.cells #[.int .i64 0] 3)).heap.size (w1.alloc (.cells #[.int .i64 0] 3)) w2 ∧ v = .func (.func 55) #[] #[.pointer (some ⟨w2.heap.size, 0, none⟩), .pointer (some ⟨w2.heap.size + 1, 0, none⟩), .pointer (some ⟨w2.heap.size + 1 + 1, 0, none⟩)] ∧ wx = ((w2.alloc (.cells #[.string ⟨nm.toArray⟩, .int .i64 o, .slice a n c] 24)).alloc (.cells #[.int .i64 y, .int .i64 z] 40)).alloc (.cells #[.int .i64 f, .int .i64 bl] 63))
    case first =>
      obtain ⟨p0, p1, p2⟩ := K2.out.k.z
      obtain ⟨q0, q1⟩ := K2.out.p
      first
      | gi_region_with (first
        | (refine ⟨trivial, rfl, ?_⟩; (with_reducible refine (callsIn_wide.2 (hmb _)).mono ?_); rintro e w2 ⟨rfl, g2⟩; have K3 := Lib.hid (K2.out.call (by first | exact g2 | exact (Below.refl _ _).drew.trans g2)); obtain ⟨r0, r1, r2⟩ := K3.out.k.z; obtain ⟨s0, s1⟩ := K3.out.p; have G2 := Lib.hid (by first | exact g2 | exact (Below.refl _ _).drew.trans g2 : Below (w1.alloc (.cells #[.int .i64 0] 3)).heap.size (w1.alloc (.cells #[.int .i64 0] 3)) w2); clear g2)
        | (refine ⟨trivial, rfl, ?_⟩; (with_reducible refine (callsIn_wide.2 (hst _)).mono ?_); rintro e w3 ⟨rfl, rfl⟩)
        | fail)
      | fail
      all_goals
        gi_wp2
        gi_meet
        case rel => exact ⟨w2, K3.out, G2.out, rfl, rfl⟩
    obtain ⟨w2, hK, hB, rfl, rfl⟩ := hcut
    have K3 := Lib.hid hK
    have B3 := Lib.hid hB
    clear hK hB d0 d1 d2 f0 f1 l1 l2
    gi_wp2
    obtain ⟨W2, hW2⟩ : ∃ W2, ((w2.alloc (.cells #[.string ⟨nm.toArray⟩, .int .i64 o, .slice a n c] 24)).alloc (.cells #[.int .i64 y, .int .i64 z] 40)).alloc (.cells #[.int .i64 f, .int .i64 bl] 63) = W2 := ⟨_, rfl⟩
    rw [hW2]
    have f2 : BoxZ W2 w2.heap.size nm o a n c := by
      have h := ((boxZ_new w2 nm o a n c 24).call (cnew _ (.cells #[.int .i64 y, .int .i64 z] 40))).call (cnew _ (.cells #[.int .i64 f, .int .i64 bl] 63))
      rw [← hW2]; exact h
    have f3 : BoxS W2 (w2.heap.size + 1) y z := by
      have h := (boxS_new (w2.alloc (.cells #[.string ⟨nm.toArray⟩, .int .i64 o, .slice a n c] 24)) y z 40).call (cnew _ (.cells #[.int .i64 f, .int .i64 bl] 63))
      rw [World.size_alloc] at h
      rw [← hW2]; exact h
    have f4 : BoxS W2 (w2.heap.size + 1 + 1) f bl := by
      have h := boxS_new ((w2.alloc (.cells #[.string ⟨nm.toArray⟩, .int .i64 o, .slice a n c] 24)).alloc (.cells #[.int .i64 y, .int .i64 z] 40)) f bl 63
      rw [World.size_alloc, World.size_alloc] at h
      rw [← hW2]; exact h
    have f5 : W2.heap.size = w2.heap.size + 3 := by rw [← hW2]; simp
    have f6 : Below w2.heap.size w2 W2 := by rw [← hW2]; exact (((cnew _ _).alloc (by simp) _).alloc (by simp; omega) _)
    have hsz2 := B3.out.size
    rw [World.size_alloc] at hsz2
    have f1 : Boxed W2 w1.heap.size 3 (.int .i64 0) := (f6.block _ (by omega)).trans ((B3.out.block _ (by simp)).trans BX.out)
    have f7 : ShIn W2 a n ss := K3.out.k.s.call f6
    have f8 : Below w1.heap.size w1 W2 := (cnew w1 _).trans ((B3.out.mono (by simp)).trans (f6.mono (by omega)))
    have hgK : 0 < n → ∀ x, a = some x → x.block < w1.heap.size := by
      intro h0 x hx
      rcases HSo.out.2 with h | ⟨g, o', e2, e3, _⟩
      · omega
      · rw [e2] at hx; cases hx; have := HN1.out; show g < _; omega
    obtain ⟨K, HK⟩ : ∃ K, w1.heap.size = K := ⟨_, rfl⟩
    have hN1 := HN1.out
    have BXo := BX.out
    rw [HK] at f1 f8 hgK hN1 hsz2 ⊢
    have HKs := Lib.hid HK
    obtain ⟨N2, HN2⟩ : ∃ N2, w2.heap.size = N2 := ⟨_, rfl⟩
    rw [HN2] at f2 f3 f4 f5 hsz2 ⊢
    have HWB : Hid (Below w.heap.size w w1) := Lib.hid K1.out.k.b
    clear hW2 HK HN2 f6 BXo hst hmb
    refine range_d (gf := 55) (lb := #[.pointer (some ⟨N2, 0, none⟩), .pointer (some ⟨N2 + 1, 0, none⟩), .pointer (some ⟨N2 + 1 + 1, 0, none⟩)]) rfl (enters_of Try.func55 (by kernel_rfl) rfl)
      (stays_iter W2 N2 (N2 + 1) (N2 + 1 + 1) nm o a n c ss y z f t bl (bmM K) f2 f3 f4 f7 HNN.out (fun ob (h : _ = K) => by omega) (fun h0 x hx ob (h : _ = K) => by have := hgK h0 x hx; omega) (fun k ob hk (h : _ = K) => by omega) HZ.out hsp hf ht HBL.out)
      (Below.refl _ _) (fun _ => rfl)
      (fun pre V => BmI w1 V K (sumL pre)) (fun _ _ => False)
      (fun s A B row h hg hr => ⟨h.v.kept hg (fun e => by have := (hr K e.symm).1; omega), h.b.grown hg (by have := h.sz; omega) (fun k e => by have := (hr k e).1; omega), by have := hg.size; have := h.sz; omega⟩) (fun _ _ _ _ h _ _ => h)
      ⟨f1, f8, by omega⟩ ?round ?done ?stop
    case round =>
      rintro lr pre ⟨sf, st⟩ V ⟨t', hcov, ht'⟩ ⟨hv, hB, hs⟩
      have hbd := (hcov.bounds bl sp1).1
      have hle := hcov.le
      obtain ⟨g1, g2, g3⟩ := hcov.last
      have hbd1 := (g1.bounds bl sp1).1
      have hle1 := g1.le
      have hsn := sumL_snoc (sf, st) pre
      rw [hsn] at hbd
      obtain ⟨U, HU⟩ : ∃ v, Hid (sumL pre = v) := ⟨_, rfl⟩
      rw [HU.out] at hbd hbd1 hv
      have HSN := Lib.hid hsn
      clear f1 f2 f3 f4 f7 f8 hgK hcov g1 hsn
      dsimp only [encStay]
      gi_wp2
      refine ⟨(KeepsOthers.alloc V _).from _, KeepsC.alloc _ _ _, ⟨by rw [HU.out]; exact hv.alloc _, hB.alloc (by omega) _, by simp; omega⟩, ?_⟩
      rintro Z ⟨hv2, hB2, hs2⟩ hTu
      rw [HU.out] at hv2
      have hpb := hTu.heap (World.alloc_heap_new V _) rfl
      obtain ⟨p0, p1⟩ := BoxS.at hpb
      have hc := hv2.cell
      have hf2 := hv2.frozen
      have w4 : IntKind.i64.wrap (st - sf) = st - sf := IntWalk.i64_in _ (by omega)
      have w5 : IntKind.i64.wrap (U + (st - sf)) = U + (st - sf) := IntWalk.i64_in _ (by omega)
      clear hTu hpb hv hB hs
      gi_wp2
      exact ⟨(KeepsOthers.setCell _ _ _).from _, KeepsC.of_grownBy (grownBy_setCell' _ _ _) (fun k e ob hob => .inl (by cases e; exact rfl)), by rw [HSN.out, HU.out]; exact hv2.set _, hB2.setCell (p := ⟨K, 0, none⟩) (Nat.le_refl _) _, by simpa using hs2⟩
    case done =>
      rintro D xs V hD hSx ⟨hv, hB, hs⟩ hKD
      have hsum := hSx.sum
      rw [← HDV.out] at hsum
      rw [hsum] at hv
      have hc := hv.cell
      have HB := Lib.hid hB
      clear f1 f2 f3 f4 f7 f8 hgK hsum hB
      gi_wp2
      refine ⟨by simp, .inl ⟨_, _, rfl, run_takeDeferred hKD, ?_⟩⟩
      have hBw : Below w.heap.size w V := HWB.out.trans (HB.out.mono (by omega))
      exact ⟨_, results_tmp2 rfl _ _ _, rfl, hBw.trans (belowK_b (w := w) (Nat.le_refl _) V D _ _ (by omega) hKD rfl rfl)⟩
    case stop =>
      intro D pre V _ _ h _
      exact h.elim
  · rw [if_neg h0] at hdV
    subst hdV
    have h1 : (X != 0) = true := by simpa using h0
    clear hS hok hbo
    go_enter Try.func26, Try.ntmps26
    obtain ⟨b0, b1, b2⟩ := K0.out.k.z
    obtain ⟨c0, c1⟩ := K0.out.p
    go_wp2_with (first
      | (go_at_call 43; (with_reducible refine (hv _ K0.out.k.s).mono ?_); rintro e w1 ⟨rfl, g1⟩)
      | fail)
    go_ret2
    exact ⟨rfl, (K0.out.call g1).k.b⟩
end Go.Proofs.Ytiohakpbgmignaa

