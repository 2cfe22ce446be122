/-
  Zones: the iterator over the stays of a span in a band.
-/
import Derived.Test.YtiohakpbgmignaaZbC
set_option linter.unusedVariables false
set_option linter.unusedSimpArgs false
namespace Go.Proofs.Ytiohakpbgmignaa
open Go.RowKit Go.Shelf
attribute [local go_sem] Oper.semAt_some

theorem roundIn_in {F : Fence} {n : Nat} {P : Program} {l : Nat} {f : FuncId} {tmps : Array Value} {assign body : Code} {w : World} {R : Ending → World → Prop} (l₂ : Nat)
    (h : RoundIn F n P l f tmps assign body w R) : RoundIn (F.inRound l₂) n P l f tmps assign body w R := h
theorem stay_on {o bf bt pf pt x S : Int} {ss : List (Int × Int)} (hf : 0 ≤ bf ∧ bf < 1440) (ht : 0 ≤ bt ∧ bt < 1440) (hx : ∀ u, pf ≤ u → u < pt → offs o ss u = x) (hS : (S + x - bf) % 1440 = 0) :
    ∀ u, pf ≤ u → u < pt → S ≤ u → u < S + 1440 → bandB o ss bf bt u = decide (u - S < (bt - bf) % 1440) := by
  intro u h1 h2 h3 h4
  unfold bandB
  rw [hx u h1 h2, inB_mod hf ht]
  exact decide_eq_decide.2 (by omega)
theorem cov_stay {P : Int → Bool} {y pf pt S bl s0 e0 : Int} {L : List (Int × Int)} (hP : ∀ u, pf ≤ u → u < pt → S ≤ u → u < S + 1440 → P u = decide (u - S < bl)) (hb : 0 ≤ bl ∧ bl < 1440) (h1 : pf - 1440 < S) (h2 : S < pt) (hpp : pf < pt)
    (hs : max S pf = s0) (he : min (S + bl) pt = e0) (hlt : s0 < e0) (hc : Cov P y L (min (max S pf) pt)) : Cov P y (L ++ [(s0, e0)]) e0 ∧ Cov P y (L ++ [(s0, e0)]) (min (max (S + 1440) pf) pt) := by
  have e1 : min (max S pf) pt = s0 := by omega
  rw [e1] at hc
  have h := Cov.stay e0 hc hlt (fun u h3 h4 => by rw [hP u (by omega) (by omega) (by omega) (by omega)]; exact decide_eq_true (by omega))
  exact ⟨h, .skip _ h (by omega) (fun u h3 h4 => by rw [hP u (by omega) (by omega) (by omega) (by omega)]; exact decide_eq_false (by omega))⟩
theorem cov_gap {P : Int → Bool} {y pf pt S bl s0 e0 : Int} {L : List (Int × Int)} (hP : ∀ u, pf ≤ u → u < pt → S ≤ u → u < S + 1440 → P u = decide (u - S < bl)) (hb : 0 ≤ bl ∧ bl < 1440) (h1 : pf - 1440 < S) (h2 : S < pt) (hpp : pf < pt)
    (hs : max S pf = s0) (he : min (S + bl) pt = e0) (hlt : ¬ s0 < e0) (hc : Cov P y L (min (max S pf) pt)) : Cov P y L (min (max (S + 1440) pf) pt) :=
  .skip _ hc (by omega) (fun u h3 h4 => by rw [hP u (by omega) (by omega) (by omega) (by omega)]; exact decide_eq_false (by omega))

def encStay (x : Int × Int) : Array Value := #[.agg #[.int .i64 x.1, .int .i64 x.2]]
def StayOk (P : Int → Bool) (y z : Int) (L : List (Int × Int)) : Prop := ∃ t, Cov P y L t ∧ t ≤ z
def RetStays (w : World) (zo so bo : Obj) (e : Ending) (w' : World) : Prop :=
  e = .returned (.func (.func 55) #[] #[.pointer (some ⟨w.heap.size, 0, none⟩), .pointer (some ⟨w.heap.size + 1, 0, none⟩), .pointer (some ⟨w.heap.size + 1 + 1, 0, none⟩)]) ∧ w' = ((w.alloc zo).alloc so).alloc bo
set_option maxHeartbeats 8000000 in
set_option maxRecDepth 1000000 in
theorem stays_any (nm : List UInt8) (o : Int) (a : Option Addr) (n c : Nat) (y z bf bl : Int) (w : World) :
    Calls Try.prog 44 #[.agg #[.string ⟨nm.toArray⟩, .int .i64 o, .slice a n c], .agg #[.int .i64 y, .int .i64 z], .agg #[.int .i64 bf, .int .i64 bl]] w (RetStays w (.cells #[.string ⟨nm.toArray⟩, .int .i64 o, .slice a n c] 24) (.cells #[.int .i64 y, .int .i64 z] 40) (.cells #[.int .i64 bf, .int .i64 bl] 63)) := by
  go_enter Try.func44, Try.ntmps44
  go_wp2
  go_ret
  exact ⟨rfl, rfl⟩
/-- What the iterator over stays needs of its own memory. -/
structure StK (V : World) (Y bb ly : Nat) (bf bl : Int) : Prop where
  yb : V.cell? ⟨Y, 0, none⟩ = some (.func (.yield ly) #[] #[])
  bb : BoxS V bb bf bl
  sz : Y + 3 ≤ V.heap.size
theorem StK.kept {V V' : World} {Y bb ly : Nat} {bf bl : Int} {row : Option Nat} (h : StK V Y bb ly bf bl) (hg : V.grownBy V' row) (hr : ∀ r, row = some r → ∃ o : Obj, V.heap[r]? = some o ∧ o.isCells = false) : StK V' Y bb ly bf bl :=
  ⟨cell_kept h.yb hg hr, ⟨cell_kept h.bb.1 hg hr, cell_kept h.bb.2 hg hr⟩, Nat.le_trans h.sz hg.size⟩
theorem StK.keeps {M : Nat → Obj → Prop} {V V' : World} {Y bb ly : Nat} {bf bl : Int} (h : StK V Y bb ly bf bl) (hk : KeepsC M V V') (hs : V.heap.size ≤ V'.heap.size) (hY : ∀ ob, ¬ M Y ob) (hb : ∀ ob, ¬ M bb ob) : StK V' Y bb ly bf bl :=
  ⟨hk.cell hY h.yb, h.bb.keeps hk hb, Nat.le_trans h.sz hs⟩
theorem keepsC_drewN (M : Nat → Obj → Prop) (W : World) (k : Nat) : KeepsC M W (W.drewN k) := KeepsC.of_grownBy (row := none) ⟨rfl, rfl, rfl, by simp, by simp⟩ (fun k e => by cases e)
theorem keepsF_drewN (B : Nat) (W : World) (k : Nat) : KeepsFrom B W (W.drewN k) := KeepsFrom.of_grownBy (row := none) ⟨rfl, rfl, rfl, by simp, by simp⟩ (fun k e => by cases e)
set_option maxHeartbeats 8000000 in
set_option maxRecDepth 1000000 in
theorem stays_iter (w : World) (zb sb bb : Nat) (nm : List UInt8) (o : Int) (a : Option Addr) (n c : Nat) (ss : List (Int × Int)) (y z bf bt bl : Int) (M : Nat → Obj → Prop)
    (hz : BoxZ w zb nm o a n c) (hs : BoxS w sb y z) (hb : BoxS w bb bf bl) (hS : ShIn w a n ss) (hn : n ≤ 9223372036854775807) (hMb : ∀ ob, ¬ M bb ob) (hMg : 0 < n → ∀ x, a = some x → ∀ ob, ¬ M x.block ob)
    (hMf : ∀ k ob, w.heap.size ≤ k → ¬ M k ob) (hok : ZOk o ss) (hsp : spanB y z = true) (hf : 0 ≤ bf ∧ bf < 1440) (ht : 0 ≤ bt ∧ bt < 1440) (hbl : (bt - bf) % 1440 = bl) :
    IterC Try.prog 55 #[.pointer (some ⟨zb, 0, none⟩), .pointer (some ⟨sb, 0, none⟩), .pointer (some ⟨bb, 0, none⟩)] encStay M (StayOk (bandB o ss bf bt) y z) (fun L => Cov (bandB o ss bf bt) y L z) w := by
  intro ly J Jx W hW hJ hJx hY h0
  obtain ⟨sp1, sp2, sp3⟩ := spanB_in hsp
  have HOK := Lib.hid hok
  have HM := Lib.hid (And.intro hMb (And.intro hMg hMf))
  obtain ⟨z0, z1, z2⟩ := hz.call hW
  obtain ⟨s0, s1⟩ := hs.call hW
  have HB := Lib.hid (hb.call hW)
  have HSh := Lib.hid (hS.call hW)
  have HWs := Lib.hid hW.size
  have hl1 : zb < W.heap.size := World.block_lt_of_cell? _ _ z0
  have hl2 : sb < W.heap.size := World.block_lt_of_cell? _ _ s0
  have HY := Lib.hid hY
  have HJ := Lib.hid hJ
  have HJx := Lib.hid hJx
  have H0 := Lib.hid h0
  have HBL := Lib.hid hbl
  have hbb : 0 ≤ bl ∧ bl < 1440 := by omega
  have hsg := segments_any nm o a n c y z
  have HP : ∀ pf pt x S, Hid (∀ u, pf ≤ u → u < pt → offs o ss u = x) → (S + x - bf) % 1440 = 0 → ∀ u, pf ≤ u → u < pt → S ≤ u → u < S + 1440 → bandB o ss bf bt u = decide (u - S < bl) := fun pf pt x S hx hS => by
    have h := stay_on hf ht hx.out hS
    rw [hbl] at h; exact h
  obtain ⟨P, hPd⟩ : ∃ P, bandB o ss bf bt = P := ⟨_, rfl⟩
  rw [hPd] at HP HY ⊢
  have HPP := Lib.hid HP
  clear hz hs hb hS hok hMb hMg hMf hW hY hJ hJx h0 hsp hbl HP hPd
  refine (callsIn_of_wp_marks (n := 0) Try.func55 rfl trivial ?_ rfl)
  simp only [Try.ntmps55, List.size_toArray, List.length_cons, List.length_nil, Nat.reduceAdd, Nat.reduceSub, Array.replicate_succ, Array.replicate_zero, List.push_toArray, List.append_toArray, List.nil_append, List.cons_append]
  gi_wp2_with (first
    | (refine ⟨trivial, rfl, ?_⟩; (with_reducible refine (callsIn_wide.2 (hsg _)).mono ?_); rintro e w3 ⟨rfl, rfl⟩)
    | fail)
  obtain ⟨W2, hW2⟩ : ∃ W2, ((W.alloc (.cells #[.func (.yield ly) #[] #[]] 57)).alloc (.cells #[.string ⟨nm.toArray⟩, .int .i64 o, .slice a n c] 24)).alloc (.cells #[.int .i64 y, .int .i64 z] 40) = W2 := ⟨_, rfl⟩
  rw [hW2]
  have f1 : W2.cell? ⟨W.heap.size, 0, none⟩ = some (.func (.yield ly) #[] #[]) := by
    rw [← hW2]; exact (((Boxed.new W _ _).alloc _).alloc _).cell
  have f2 : BoxZ W2 (W.heap.size + 1) nm o a n c := by
    have h := (boxZ_new (W.alloc (.cells #[.func (.yield ly) #[] #[]] 57)) nm o a n c 24).call (cnew _ (.cells #[.int .i64 y, .int .i64 z] 40))
    rw [World.size_alloc] at h
    rw [← hW2]; exact h
  have f3 : BoxS W2 (W.heap.size + 1 + 1) y z := by
    have h := boxS_new ((W.alloc (.cells #[.func (.yield ly) #[] #[]] 57)).alloc (.cells #[.string ⟨nm.toArray⟩, .int .i64 o, .slice a n c] 24)) y z 40
    rw [World.size_alloc, World.size_alloc] at h
    rw [← hW2]; exact h
  have f4 : W2.heap.size = W.heap.size + 3 := by rw [← hW2]; simp
  have f5 : Below W.heap.size W W2 := by rw [← hW2]; exact (((cnew _ _).alloc (by simp) _).alloc (by simp; omega) _)
  have f6 : ShIn W2 a n ss := HSh.out.call f5
  have f7 : BoxS W2 bb bf bl := HB.out.call f5
  have f8 : J [] W2 := by rw [← hW2]; exact HJ.out.alloc _ (HJ.out.alloc _ (HJ.out.alloc _ H0.out))
  obtain ⟨Y, HY0⟩ : ∃ Y, W.heap.size = Y := ⟨_, rfl⟩
  have hwY := HWs.out
  have hJ2 := HJ.out
  have hJx2 := HJx.out
  have hY2 := HY.out
  rw [HY0] at f1 f2 f3 f4 f5 hwY hJ2 hJx2 hY2 ⊢
  have HJ2 := Lib.hid hJ2
  have HJx2 := Lib.hid hJx2
  have HY2 := Lib.hid hY2
  have hMbig : ∀ k ob, Y ≤ k → ¬ M k ob := fun k ob hk => HM.out.2.2 k ob (by omega)
  have HMB := Lib.hid hMbig
  have HF4 := Lib.hid f4
  clear hW2 z0 z1 z2 s0 s1 hl1 hl2 HB HSh HWs HY HJ HJx H0 HY0 hJ2 hJx2 hY2 f5 hMbig hsg
  refine range_d (gf := 54) (lb := #[.pointer (some ⟨Y + 1 + 1, 0, none⟩), .pointer (some ⟨Y + 1, 0, none⟩)]) rfl (enters_of Try.func54 (by kernel_rfl) rfl)
    (segments_iter W2 (Y + 1) (Y + 1 + 1) nm o a n c ss y z M f2 f3 f6 hn (fun ob => HMB.out _ ob (by omega)) (fun ob => HMB.out _ ob (by omega)) HM.out.2.1 (fun k cs hk => HMB.out _ _ (by omega)) HOK.out sp2)
    (Below.refl _ _) (fun _ => rfl)
    (fun pre V => ∃ L t, Seg (offs o ss) y pre t ∧ Cov P y L t ∧ J L V ∧ StK V Y bb ly bf bl) (fun pre V => ∃ L, StayOk P y z L ∧ Jx L V)
    (fun s A B row h hg hr => by obtain ⟨L, t, h1, h2, h3, h4⟩ := h; exact ⟨L, t, h1, h2, (OwnFrom.more HJ2.out (by omega)) _ _ _ _ h3 hg hr, h4.kept hg (fun r e => (hr r e).2)⟩)
    (fun s A B row h hg hr => by obtain ⟨L, h1, h2⟩ := h; exact ⟨L, h1, (OwnFrom.more HJx2.out (by omega)) _ _ _ _ h2 hg hr⟩)
    ⟨[], y, .nil, .nil, f8, ⟨f1, f7, by omega⟩⟩ ?round ?done ?stop
  case round =>
    rintro lr pre ⟨pf, pt, x⟩ V ⟨t', hseg, ht'⟩ ⟨L, t0, hs0, hcov, hJL, hst⟩
    obtain ⟨g1, rfl, g2, g3⟩ := hseg.last
    obtain rfl := hs0.det g1
    have hp0 := g1.le
    have hxb := HOK.out.bound t0
    rw [g3 t0 (Int.le_refl _) g2] at hxb
    have HSEG := Lib.hid hseg
    have HG1 := Lib.hid g1
    have HG3 := Lib.hid g3
    have HJL := Lib.hid hJL
    have HST := Lib.hid hst
    have HCOV := Lib.hid hcov
    clear f1 f2 f3 f6 f7 f8 hs0 hseg g1 g3 hJL hst hcov
    dsimp only [encSeg]
    gi_wp2
    refine ⟨(KeepsOthers.alloc V _).from _, KeepsC.alloc _ _ _, ⟨L, t0, HG1.out, HCOV.out, HJ2.out.alloc _ HJL.out, HST.out.kept (World.grownBy_alloc V _ none) (fun r e => by cases e)⟩, ?_⟩
    rintro Z ⟨L1, t1, hs1, hcov1, hJ1, hst1⟩ hTu
    obtain rfl := hs1.det HG1.out
    have hpb := hTu.heap (World.alloc_heap_new V _) rfl
    obtain ⟨p0, p1⟩ := BoxS.at hpb
    have hVs := HST.out.sz
    have hps := hTu.size
    rw [World.size_alloc] at hps
    obtain ⟨q0, q1⟩ := hst1.bb
    have y0 := hst1.yb
    have hsm := splitMinute_any (t1 + x - bf) (by omega) (by omega)
    have hr0 : 0 ≤ (t1 + x - bf) % 1440 := Int.emod_nonneg _ (by omega)
    have hr1 : (t1 + x - bf) % 1440 < 1440 := Int.emod_lt_of_pos _ (by omega)
    have hS0 : (t1 - (t1 + x - bf) % 1440 + x - bf) % 1440 = 0 := by omega
    obtain ⟨Q, HQ⟩ : ∃ v, Hid ((t1 + x - bf) / 1440 = v) := ⟨_, rfl⟩
    obtain ⟨R, HR⟩ : ∃ v, Hid ((t1 + x - bf) % 1440 = v) := ⟨_, rfl⟩
    simp only [HQ.out, HR.out] at hsm
    rw [HR.out] at hr0 hr1 hS0
    have w1 : IntKind.i64.wrap (t1 + x) = t1 + x := IntWalk.i64_in _ (by omega)
    have w2 : IntKind.i64.wrap (t1 + x - bf) = t1 + x - bf := IntWalk.i64_in _ (by omega)
    have w3 : IntKind.i64.wrap (t1 - R) = t1 - R := IntWalk.i64_in _ (by omega)
    have HS0 := Lib.hid hS0
    have HC1 := Lib.hid hcov1
    have HJ1 := Lib.hid hJ1
    have HST1 := Lib.hid hst1
    have HPB := Lib.hid hpb
    clear hcov1 hJ1 hst1 hTu hpb hs1 hS0
    gi_wp2_with (first
      | (refine ⟨trivial, rfl, ?_⟩; (with_reducible refine (CallsIn.inRound lr (callsIn_wide.2 (hsm _))).mono ?_); rintro e w3 ⟨rfl, k3, rfl⟩)
      | fail)
    gi_loopw [9] (fun s wr => ∃ (S : Int) (L : List (Int × Int)), s = .int .i64 S ∧ (t1 - 1440 < S ∧ S ≤ pt + 1440) ∧ Hid ((S + x - bf) % 1440 = 0) ∧ Hid (Cov P y L (min (max S t1) pt)) ∧ Hid (J L wr) ∧ Hid (KeepsFrom W2.heap.size Z wr) ∧ Hid (KeepsC M Z wr)) (fun s _ => (pt - intOf s).toNat)
    case atStart => exact ⟨t1 - R, L1, rfl, ⟨by omega, by omega⟩, HS0, Lib.hid (by rw [show min (max (t1 - R) t1) pt = t1 by omega]; exact HC1.out), Lib.hid (OwnFrom.drewN HJ2.out _ HJ1.out), Lib.hid (keepsF_drewN _ _ _), Lib.hid (keepsC_drewN _ _ _)⟩
    case round =>
      obtain ⟨S, L2, rfl, ⟨b1, b2⟩, HS, HC, HJ3, HKF, HKC⟩ := hrel
      clear p0 p1 q0 q1 y0
      have hpb := HKC.out _ _ (HMB.out _ _ (by omega)) HPB.out rfl
      obtain ⟨p0, p1⟩ := BoxS.at hpb
      obtain ⟨q0, q1⟩ := HST1.out.bb.keeps HKC.out HM.out.1
      have y0 := HKC.out.cell (fun ob => HMB.out Y ob (Nat.le_refl _)) HST1.out.yb
      have hwz := HKF.out.size
      clear hpb
      by_cases hlt : S < pt
      · obtain ⟨s0, hs0⟩ : ∃ v, max S t1 = v := ⟨_, rfl⟩
        obtain ⟨e0, he0⟩ : ∃ v, min (S + bl) pt = v := ⟨_, rfl⟩
        have w4 : IntKind.i64.wrap (S + bl) = S + bl := IntWalk.i64_in _ (by omega)
        have w5 : IntKind.i64.wrap (S + 1440) = S + 1440 := IntWalk.i64_in _ (by omega)
        have hSn : Hid ((S + 1440 + x - bf) % 1440 = 0) := Lib.hid (by have := HS.out; omega)
        have HPS := Lib.hid (HPP.out t1 pt x S HG3 HS.out)
        have l1 : Y < wr.heap.size := by omega
        have l2 : bb < wr.heap.size := World.block_lt_of_cell? _ _ q0
        have l3 : V.heap.size < wr.heap.size := by omega
        by_cases hse : s0 < e0
        · have hcs := cov_stay HPS.out hbb b1 hlt g2 hs0 he0 hse HC.out
          have HCS := Lib.hid hcs
          have hok2 : StayOk P y z (L2 ++ [(s0, e0)]) := ⟨e0, hcs.1, by omega⟩
          have HOK2 := Lib.hid hok2
          obtain ⟨fn, tmps, assign, body, hy, hR⟩ := HY2.out L2 (s0, e0) (wr.alloc (.cells #[.int .i64 s0, .int .i64 e0] 40)) hok2 (HJ2.out.alloc _ HJ3.out)
          dsimp only [encStay] at hy
          clear hcs hok2
          gi_wp2
          refine ⟨rfl, (roundIn_in lr hR).mono ?_⟩
          rintro e W3 (⟨rfl, hJ4, hk4, hf4⟩ | ⟨rfl, hJx4, hf4⟩)
          · have HJ4 := Lib.hid hJ4
            have HK4 := Lib.hid hk4
            have HF4' := Lib.hid hf4
            clear hJ4 hk4 hf4
            gi_wp2
            refine ⟨⟨S + 1440, L2 ++ [(s0, e0)], rfl, ⟨by omega, by omega⟩, hSn, Lib.hid HCS.out.2, HJ4, Lib.hid ?_, Lib.hid ?_⟩, ?_⟩
            · exact (HKF.out.trans ((KeepsOthers.alloc wr _).from _)).trans (keepsFrom_more HF4'.out (by have := HF4.out; omega))
            · exact (HKC.out.trans (KeepsC.alloc M wr _)).trans HK4.out
            · simp [intOf]; omega
          · have HF4' := Lib.hid hf4
            clear hf4
            gi_wp2
            exact ⟨(HKF.out.trans ((KeepsOthers.alloc wr _).from _)).trans (keepsFrom_more HF4'.out (by have := HF4.out; omega)), _, HOK2.out, hJx4⟩
        · have hse2 : decide (s0 < e0) = false := by simpa using hse
          have HCG := Lib.hid (cov_gap HPS.out hbb b1 hlt g2 hs0 he0 hse HC.out)
          clear hse
          gi_wp2
          refine ⟨fun _ h => (by cases h), ?_⟩
          gi_wp2
          refine ⟨⟨S + 1440, L2, rfl, ⟨by omega, by omega⟩, hSn, HCG, Lib.hid (HJ2.out.alloc _ HJ3.out), Lib.hid (HKF.out.trans ((KeepsOthers.alloc wr _).from _)), Lib.hid (HKC.out.trans (KeepsC.alloc M wr _))⟩, ?_⟩
          simp [intOf]; omega
      · have hlt2 : decide (S < pt) = false := by simpa using hlt
        have he : min (max S t1) pt = pt := by omega
        have hcov := HC.out
        rw [he] at hcov
        have HCV := Lib.hid hcov
        clear hcov he
        gi_wp2
        exact ⟨by have h := HKF.out; rwa [HF4.out] at h, HKC.out, L2, pt, HSEG.out, HCV.out, HJ3.out, HST1.out.keeps HKC.out HKF.out.size (fun ob => HMB.out Y ob (Nat.le_refl _)) HM.out.1⟩
  case done =>
    rintro D xs V hD hSx ⟨L, t, hs, hcov, hJL, hst⟩ hKD
    obtain rfl := hs.det hSx
    have HCV := Lib.hid hcov
    have HJL := Lib.hid hJL
    clear f1 f2 f3 f6 f7 f8 hs hcov hJL hst
    gi_wp2
    refine ⟨by simp, .inl ⟨_, _, rfl, run_takeDeferred hKD, ?_⟩⟩
    exact ⟨_, results_none rfl _ _ _, ⟨_, rfl⟩, .inl ⟨L, HCV.out, HJ2.out.putObj _ HJL.out (by omega) hKD rfl⟩⟩
  case stop =>
    rintro D pre V hD hok ⟨L, hokL, hJxL⟩ hKD
    have HOKL := Lib.hid hokL
    have HJX := Lib.hid hJxL
    clear f1 f2 f3 f6 f7 f8 hok hokL hJxL
    gi_wp2
    refine ⟨by simp, .inl ⟨_, _, rfl, run_takeDeferred hKD, ?_⟩⟩
    exact ⟨_, results_none rfl _ _ _, ⟨_, rfl⟩, .inr ⟨L, HOKL.out, HJx2.out.putObj _ HJX.out (by omega) hKD rfl⟩⟩
end Go.Proofs.Ytiohakpbgmignaa

