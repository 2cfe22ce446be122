/-
  The walk of the law IntegerEuclid.
-/
import Derived.Test.YtehoafpnmfkniaaEucM
import Derived.Test.YtehoafpnmfkniaaAt2
import Derived.Deep.DeepCutAuto
set_option linter.unusedVariables false
set_option linter.unusedSimpArgs false
namespace Go.Proofs.Ytehoafpnmfkniaa
open Go.RowKit

/-- The arguments, the quotient and the remainder in the call's own variables. -/
def Inv (w w' : World) (x1 x2 : Bool) (A1 A2 : Option Addr) (n1 c1 n2 c2 : Nat) (a b : Int) (gq gr : Nat) (AQ AR : Option Addr) (nQ cQ nR cR : Nat) (q r : Int) : Prop :=
  Env2 w w' x1 x2 A1 A2 n1 c1 n2 c2 a b ∧ Box w' gq (decide (q < 0)) AQ nQ cQ q ∧ Box w' gr (decide (r < 0)) AR nR cR r ∧ Sz q 70 ∧ Sz r 70
section
variable {w w' w'' : World} {x1 x2 : Bool} {A1 A2 AQ AR : Option Addr} {n1 c1 n2 c2 gq gr nQ cQ nR cR : Nat} {a b q r : Int}
theorem Inv.call (h : Inv w w' x1 x2 A1 A2 n1 c1 n2 c2 a b gq gr AQ AR nQ cQ nR cR q r) (hb : Below w'.heap.size w' w'') : Inv w w'' x1 x2 A1 A2 n1 c1 n2 c2 a b gq gr AQ AR nQ cQ nR cR q r := ⟨h.1.call hb, h.2.1.call hb, h.2.2.1.call hb, h.2.2.2⟩
theorem Inv.drew (h : Inv w w' x1 x2 A1 A2 n1 c1 n2 c2 a b gq gr AQ AR nQ cQ nR cR q r) : Inv w w'.drew x1 x2 A1 A2 n1 c1 n2 c2 a b gq gr AQ AR nQ cQ nR cR q r := ⟨h.1.drew, h.2.1, h.2.2.1, h.2.2.2⟩
theorem Inv.alloc (h : Inv w w' x1 x2 A1 A2 n1 c1 n2 c2 a b gq gr AQ AR nQ cQ nR cR q r) (o : Obj) : Inv w (w'.alloc o) x1 x2 A1 A2 n1 c1 n2 c2 a b gq gr AQ AR nQ cQ nR cR q r := h.call (bnew _ _)
theorem Inv.ib (h : Inv w w' x1 x2 A1 A2 n1 c1 n2 c2 a b gq gr AQ AR nQ cQ nR cR q r) : IntAt w' x2 A2 n2 c2 b := h.1.ib
theorem Inv.ia (h : Inv w w' x1 x2 A1 A2 n1 c1 n2 c2 a b gq gr AQ AR nQ cQ nR cR q r) : IntAt w' x1 A1 n1 c1 a := h.1.ia
theorem Inv.iq (h : Inv w w' x1 x2 A1 A2 n1 c1 n2 c2 a b gq gr AQ AR nQ cQ nR cR q r) : IntAt w' (decide (q < 0)) AQ nQ cQ q := h.2.1.can.at_ (Nat.le_trans h.2.2.2.1.len (by decide))
theorem Inv.ir (h : Inv w w' x1 x2 A1 A2 n1 c1 n2 c2 a b gq gr AQ AR nQ cQ nR cR q r) : IntAt w' (decide (r < 0)) AR nR cR r := h.2.2.1.can.at_ (Nat.le_trans h.2.2.2.2.len (by decide))
theorem Inv.lq (h : Inv w w' x1 x2 A1 A2 n1 c1 n2 c2 a b gq gr AQ AR nQ cQ nR cR q r) : gq < w'.heap.size := h.2.1.lt
theorem Inv.lr (h : Inv w w' x1 x2 A1 A2 n1 c1 n2 c2 a b gq gr AQ AR nQ cQ nR cR q r) : gr < w'.heap.size := h.2.2.1.lt
theorem Inv.lb (h : Inv w w' x1 x2 A1 A2 n1 c1 n2 c2 a b gq gr AQ AR nQ cQ nR cR q r) : w.heap.size + 1 < w'.heap.size := h.1.2.1.lt
theorem Inv.below (h : Inv w w' x1 x2 A1 A2 n1 c1 n2 c2 a b gq gr AQ AR nQ cQ nR cR q r) : Below w.heap.size w w' := h.1.below
theorem Inv.facts (h : Inv w w' x1 x2 A1 A2 n1 c1 n2 c2 a b gq gr AQ AR nQ cQ nR cR q r) :
    w'.cell? ⟨w.heap.size, 0, none⟩ = some (.bool x1) ∧ w'.cell? ⟨w.heap.size, 1, none⟩ = some (.slice A1 n1 c1) ∧ w'.cell? ⟨w.heap.size + 1, 0, none⟩ = some (.bool x2) ∧ w'.cell? ⟨w.heap.size + 1, 1, none⟩ = some (.slice A2 n2 c2) ∧
    w'.cell? ⟨gq, 0, none⟩ = some (.bool (decide (q < 0))) ∧ w'.cell? ⟨gq, 1, none⟩ = some (.slice AQ nQ cQ) ∧ w'.cell? ⟨gr, 0, none⟩ = some (.bool (decide (r < 0))) ∧ w'.cell? ⟨gr, 1, none⟩ = some (.slice AR nR cR) := by
  obtain ⟨f1, f2, f3, f4⟩ := h.1.facts
  exact ⟨f1, f2, f3, f4, h.2.1.facts.1, h.2.1.facts.2, h.2.2.1.facts.1, h.2.2.1.facts.2⟩
theorem Inv.store (h : Inv w w' x1 x2 A1 A2 n1 c1 n2 c2 a b gq gr AQ AR nQ cQ nR cR q r) {g : Nat} {x : Bool} {l : Option Addr} {k m : Nat} (ho : Own w' g 24 (.bool x) (.slice l k m)) (h1 : gq ≠ g) (h2 : gr ≠ g) (h3 : w.heap.size + 1 < g) (u v : Value) :
    Inv w ((w'.setCell ⟨g, 0, none⟩ u).setCell ⟨g, 1, none⟩ v) x1 x2 A1 A2 n1 c1 n2 c2 a b gq gr AQ AR nQ cQ nR cR q r := by
  obtain ⟨⟨e1, e2, e3, e4, e5⟩, k1, k2, k3⟩ := h
  exact ⟨⟨e1.far2 (by omega) u v, e2.far2 (by omega) u v, e3.store ho u v, e4.store ho u v, (e5.setCell (p := ⟨g, 0, none⟩) (by show _ ≤ g; omega) _).setCell (p := ⟨g, 1, none⟩) (by show _ ≤ g; omega) _⟩, k1.store ho h1 u v, k2.store ho h2 u v, k3⟩
end

theorem sgn_ne {b : Int} (h : b ≠ 0) : ¬ sgn b = 0 := by
  rcases Int.lt_trichotomy b 0 with h1 | h1 | h1
  · rw [sgn, cmpI_lt h1]; decide
  · exact absurd h1 h
  · rw [sgn, cmpI_gt h1]; decide

set_option maxHeartbeats 8000000 in
set_option maxRecDepth 100000 in
theorem euclid_law (x1 x2 : Bool) (A1 A2 : Option Addr) (n1 c1 n2 c2 : Nat) (d1 d2 : List Nat) (w : World) (h1 : Dgs w w.heap.size A1 n1 d1) (h2 : Dgs w w.heap.size A2 n2 d2)
    (hc1 : n1 ≤ c1) (hm1 : c1 ≤ maxLen) (hc2 : n2 ≤ c2) (hm2 : c2 ≤ maxLen) (hn1 : n1 ≤ 140737488351232) (hn2 : n2 ≤ 140737488351232) :
    Calls Try.prog 4 #[.agg #[.bool x1, .slice A1 n1 c1], .agg #[.bool x2, .slice A2 n2 c2]] w (RetT1 w) := by
  have hb3 : Below w.heap.size w (((w.alloc (.cells #[.bool x1, .slice A1 n1 c1] 24)).alloc (.cells #[.bool x2, .slice A2 n2 c2] 24)).alloc (.cells #[.bool x1, .slice A1 n1 c1, .bool x2, .slice A2 n2 c2] 24)) := (bnew2 _ _ _).alloc (by simp; omega) _
  by_cases hl : n1 + n2 ≤ 60
  · have hlight := light2 (w := ((w.alloc (.cells #[.bool x1, .slice A1 n1 c1] 24)).alloc (.cells #[.bool x2, .slice A2 n2 c2] 24))) (x1 := x1) (x2 := x2) (A1 := A1) (A2 := A2) (c1 := c1) (c2 := c2) (g := w.heap.size + 1 + 1) (by simp) hn1 hn2 true (by simp [hl])
    have E0 : Env2 w (((w.alloc (.cells #[.bool x1, .slice A1 n1 c1] 24)).alloc (.cells #[.bool x2, .slice A2 n2 c2] 24)).alloc (.cells #[.bool x1, .slice A1 n1 c1, .bool x2, .slice A2 n2 c2] 24)) x1 x2 A1 A2 n1 c1 n2 c2 (zOf x1 (val d1)) (zOf x2 (val d2)) := by
      have hT := Two.new w (.bool x1) (.slice A1 n1 c1) (.bool x2) (.slice A2 n2 c2)
      exact ⟨hT.2.1.alloc _, hT.2.2.1.alloc _, ⟨d1, (h1.below hb3).more hb3.size, hc1, hm1, rfl, by omega⟩, ⟨d2, (h2.below hb3).more hb3.size, hc2, hm2, rfl, by omega⟩, hb3⟩
    have z1 := (sz_of h1 x1).mono (show n1 ≤ 60 by omega)
    have z2 := (sz_of h2 x2).mono (show n2 ≤ 60 by omega)
    clear h1 h2 hb3 hl
    generalize zOf x1 (val d1) = a at *
    generalize zOf x2 (val d2) = b at *
    have HE0 := Lib.hid E0
    clear E0
    by_cases hb0 : b = 0
    · have HS : Hid (sgn b = 0) := cmpI_eq hb0
      clear hb0
      go_enter Try.func4, Try.ntmps4
      go_wp2_with (first
        | (go_at_call 16; (with_reducible refine hlight.mono ?_); rintro e w' ⟨rfl, rfl⟩; have E0 := HE0.out; clear HE0)
        | (go_at_call 21; (with_reducible refine (sign_at (Env2.ib E0)).mono ?_); rw [HS.out]; rintro e w1 ⟨rfl, g1⟩; have E1 := Env2.call E0 g1)
        | (go_at_call 17; (with_reducible refine (awake_any _).mono ?_); rintro e w2 ⟨rfl, g2⟩; have E2 := Env2.call E1 g2)
        | fail)
      go_ret
      exact ⟨rfl, Env2.below E2⟩
    · obtain ⟨sb, HS⟩ : ∃ v, Hid (sgn b = v) := ⟨_, rfl⟩
      have hsb : ¬ sb = 0 := by rw [← HS.out]; exact sgn_ne hb0
      obtain ⟨q, HQ⟩ : ∃ v, Hid (dmQ a b = v) := ⟨_, rfl⟩
      obtain ⟨r, HR⟩ : ∃ v, Hid (dmR a b = v) := ⟨_, rfl⟩
      have HE := Lib.hid (dm_err hb0)
      have HB0 := Lib.hid hb0
      clear hb0
      go_enter Try.func4, Try.ntmps4
      go_wp2_with (first
        | (go_at_call 16; (with_reducible refine hlight.mono ?_); rintro e w' ⟨rfl, rfl⟩; have E0 := HE0.out; clear HE0)
        | (go_at_call 21; (with_reducible refine (sign_at (Env2.ib E0)).mono ?_); rw [HS.out]; rintro e w1 ⟨rfl, g1⟩; have E1 := Env2.call E0 g1; obtain ⟨p0, p1, p2, p3⟩ := Env2.facts E1)
        | (go_at_call 18; (with_reducible refine (divMod_at (Env2.ia E1) (Env2.ib E1)).mono ?_); rw [HQ.out, HR.out, HE.out]; rintro e w2 ⟨AQ, nQ, cQ, AR, nR, cR, rfl, eQ, uQ, vQ, eR, uR, vR, g2⟩; have E2 := Env2.call E1 g2; clear p0 p1 p2 p3; obtain ⟨p0, p1, p2, p3⟩ := Env2.facts E2)
        | fail)
      have zq : Sz q 70 := by rw [← HQ.out]; exact (dmQ_sz z1).mono (by decide)
      have zr : Sz r 70 := by rw [← HR.out]; exact (dmR_sz z2 HB0.out).mono (by decide)
      have hsum : q * b + r = a := by rw [← HQ.out, ← HR.out]; exact euclid_sum a HB0.out
      obtain ⟨m, H0⟩ : ∃ v, Hid (q * b = v) := ⟨_, rfl⟩
      have hqb : (digs m.natAbs).length ≤ 1000000 := by rw [← H0.out]; exact Nat.le_trans (zq.mul z2).len (by decide)
      have H1 : Hid (m + r = a) := by unfold Hid; rw [← H0.out]; exact hsum
      clear hsum
      have I00 : Inv w ((w2.alloc (.cells #[.bool (decide (q < 0)), .slice AQ nQ cQ] 24)).alloc (.cells #[.bool (decide (r < 0)), .slice AR nR cR] 24)) x1 x2 A1 A2 n1 c1 n2 c2 a b w2.heap.size (w2.heap.size + 1) AQ AR nQ cQ nR cR q r := by
        refine ⟨Env2.call (Env2.call E2 (bnew _ _)) (bnew _ _), (Box.new rfl eQ uQ vQ).call (bnew _ _), ?_, zq, zr⟩
        have := Box.new rfl ((eR.alloc (Nat.le_refl _) (.cells #[.bool (decide (q < 0)), .slice AQ nQ cQ] 24)).more (by simp)) uR vR
        simpa using this
      clear p0 p1 p2 p3
      generalize ((w2.alloc (.cells #[.bool (decide (q < 0)), .slice AQ nQ cQ] 24)).alloc (.cells #[.bool (decide (r < 0)), .slice AR nR cR] 24)) = wc at I00 ⊢
      obtain ⟨gq, hgq⟩ : ∃ g, g = w2.heap.size := ⟨_, rfl⟩
      rw [← hgq] at I00 ⊢
      obtain ⟨gr, hgr⟩ : ∃ g, g = gq + 1 := ⟨_, rfl⟩
      rw [← hgr] at I00 ⊢
      clear hgq hgr
      go_upto_region 4 with fail
      go_cut [8] (fun s wx => ∃ h m B k d, s = .pointer (some ⟨h, 0, none⟩) ∧ Box wx h m B k d a ∧ Inv w wx x1 x2 A1 A2 n1 c1 n2 c2 a b gq gr AQ AR nQ cQ nR cR q r)
      case first =>
        obtain ⟨p0, p1, p2, p3, p4, p5, p6, p7⟩ := Inv.facts I00
        have I0 := Inv.drew I00
        go_region_held3 (fun w' => w'.cell? ⟨w.heap.size + 1, 0, none⟩ = some (.bool x2) ∧ w'.cell? ⟨w.heap.size + 1, 1, none⟩ = some (.slice A2 n2 c2) ∧ w'.cell? ⟨gq, 0, none⟩ = some (.bool (decide (q < 0))) ∧ w'.cell? ⟨gq, 1, none⟩ = some (.slice AQ nQ cQ) ∧ w'.cell? ⟨gr, 0, none⟩ = some (.bool (decide (r < 0))) ∧ w'.cell? ⟨gr, 1, none⟩ = some (.slice AR nR cR))
          (go_keep)
          (first
            | (go_at_call 23; (with_reducible refine (mul_at (Inv.iq I0) (Inv.ib I0)).mono ?_); rw [H0.out]; rintro e y0 ⟨C0, N0, D0, rfl, e0, u0, v0, g0⟩; have I1 := Inv.call I0 g0; clear p0 p1 p2 p3 p4 p5 p6 p7; obtain ⟨p0, p1, p2, p3, p4, p5, p6, p7⟩ := Inv.facts I1; have J0 := IntAt.of_ret e0 u0 v0 hqb; try (replace O := Own.below O g0; clear o0 o1 o2 o3; obtain ⟨o0, o1, o2, o3⟩ := O.facts))
            | (go_at_call 23; (with_reducible refine (mul_at (Inv.iq (Inv.drew (Inv.alloc I00 (.cells #[.bool false, .slice none 0 0] 24)))) (Inv.ib (Inv.drew (Inv.alloc I00 (.cells #[.bool false, .slice none 0 0] 24))))).mono ?_); rw [H0.out]; rintro e y0 ⟨C0, N0, D0, rfl, e0, u0, v0, g0⟩; have I1 := Inv.call (Inv.drew (Inv.alloc I00 (.cells #[.bool false, .slice none 0 0] 24))) g0; clear p0 p1 p2 p3 p4 p5 p6 p7; obtain ⟨p0, p1, p2, p3, p4, p5, p6, p7⟩ := Inv.facts I1; have J0 := IntAt.of_ret e0 u0 v0 hqb; have O := Own.below (Own.drew (Own.new wc 24 (.bool false) (.slice none 0 0))) g0; obtain ⟨o0, o1, o2, o3⟩ := O.facts; have lb := Inv.lb I00; have lq := Nat.ne_of_lt (Inv.lq I00); have lr := Nat.ne_of_lt (Inv.lr I00); have z0 : ¬ wc.heap.size = w.heap.size + 1 := (by omega); have z1 : ¬ wc.heap.size = gq := (Ne.symm lq); have z2 : ¬ wc.heap.size = gr := (Ne.symm lr))
            | (go_at_call 22; (with_reducible refine (add_at J0 (Inv.ir I1)).mono ?_); rw [H1.out]; rintro e y1 ⟨C1, N1, D1, rfl, e1, u1, v1, g1⟩; have I2 := Inv.call I1 g1; clear p0 p1 p2 p3 p4 p5 p6 p7; obtain ⟨p0, p1, p2, p3, p4, p5, p6, p7⟩ := Inv.facts I2; try (replace O := Own.below O g1; clear o0 o1 o2 o3; obtain ⟨o0, o1, o2, o3⟩ := O.facts))
            | (go_at_call 22; (with_reducible refine (add_at (IntAt.alloc J0 _) (Inv.ir (Inv.alloc I1 (.cells #[.bool false, .slice none 0 0] 24)))).mono ?_); rw [H1.out]; rintro e y1 ⟨C1, N1, D1, rfl, e1, u1, v1, g1⟩; have I2 := Inv.call (Inv.alloc I1 (.cells #[.bool false, .slice none 0 0] 24)) g1; clear p0 p1 p2 p3 p4 p5 p6 p7; obtain ⟨p0, p1, p2, p3, p4, p5, p6, p7⟩ := Inv.facts I2; have O := Own.below (Own.new y0 24 (.bool false) (.slice none 0 0)) g1; obtain ⟨o0, o1, o2, o3⟩ := O.facts; have lb := Inv.lb I1; have lq := Nat.ne_of_lt (Inv.lq I1); have lr := Nat.ne_of_lt (Inv.lr I1); have z0 : ¬ y0.heap.size = w.heap.size + 1 := (by omega); have z1 : ¬ y0.heap.size = gq := (Ne.symm lq); have z2 : ¬ y0.heap.size = gr := (Ne.symm lr))
            | fail)
        all_goals (go_wp2_with fail; go_meet; first | exact ⟨_, _, _, _, _, rfl, Box.new rfl e1 u1 v1, Inv.call I2 (bnew y1 _)⟩ | exact ⟨_, _, _, _, _, rfl, Box.stored O rfl e1 u1 v1, Inv.store I2 O lq lr lb _ _⟩)
      case rest =>
        clear I00
        obtain ⟨h, mB, B, kB, dB, rfl, XB, I0⟩ := hcut
        have hla : (digs a.natAbs).length ≤ 1000000 := Nat.le_trans z1.len (by decide)
        have hlr : (digs ((r.natAbs : Nat) : Int).natAbs).length ≤ 1000000 := by rw [Int.natAbs_natCast]; exact Nat.le_trans zr.len (by decide)
        have hlb : (digs ((b.natAbs : Nat) : Int).natAbs).length ≤ 1000000 := by rw [Int.natAbs_natCast]; exact Nat.le_trans z2.len (by decide)
        have heuc := euclid_rest a HB0.out
        rw [HR.out] at heuc
        have HC1 : Hid (cmpI a a = 0) := cmpI_eq rfl
        have HC2 : Hid (cmpI ((r.natAbs : Nat) : Int) ((b.natAbs : Nat) : Int) = -1) := cmpI_lt (by have := heuc.2; omega)
        obtain ⟨Zr, HZr⟩ : ∃ v, Hid (((r.natAbs : Nat) : Int) = v) := ⟨_, rfl⟩
        obtain ⟨Zb, HZb⟩ : ∃ v, Hid (((b.natAbs : Nat) : Int) = v) := ⟨_, rfl⟩
        rw [HZr.out, HZb.out] at HC2
        rw [HZr.out] at hlr
        rw [HZb.out] at hlb
        have heuc1 := heuc.1
        clear heuc
        by_cases hr0 : r = 0
        · obtain ⟨sr, HSr⟩ : ∃ v, Hid (sgn r = v) := ⟨_, rfl⟩
          have hsr : (sr == 0) = true := by rw [← HSr.out, show sgn r = 0 from cmpI_eq hr0]; rfl
          clear hr0 heuc1
          go_upto_region 5 with fail
          replace I0 := I0.drew
          replace XB := XB.drew
          have I9 := I0
          obtain ⟨p0, p1, p2, p3, p4, p5, p6, p7⟩ := Inv.facts I0
          obtain ⟨s0, s1⟩ := XB.facts
          refine wp_region_held_drew (S := fun w' => w'.cell? ⟨w.heap.size, 0, none⟩ = some (.bool x1) ∧ w'.cell? ⟨w.heap.size, 1, none⟩ = some (.slice A1 n1 c1) ∧ w'.cell? ⟨w.heap.size + 1, 0, none⟩ = some (.bool x2) ∧ w'.cell? ⟨w.heap.size + 1, 1, none⟩ = some (.slice A2 n2 c2) ∧ w'.cell? ⟨gr, 0, none⟩ = some (.bool (decide (r < 0))) ∧ w'.cell? ⟨gr, 1, none⟩ = some (.slice AR nR cR) ∧ w'.cell? ⟨h, 0, none⟩ = some (.bool mB) ∧ w'.cell? ⟨h, 1, none⟩ = some (.slice B kB dB)) (by kernel_rfl) ?_ (fun hHeld0 => ?_)
          · ((try dsimp only); go_keep)
          refine wpAnyH_take (i := 0) (oi := ⟨some 32, _, _, _, _, _⟩) (v := ?_) rfl (by kernel_rfl) (by kernel_rfl) (by kernel_rfl) (fun _ _ _ h => h) (Or.inl ⟨by rfl, ?_⟩) (by assumption) ?_
          rotate_left
          · (intro w' hSw; (try dsimp only at hSw); go_simp; (try with_reducible rfl))
          (try simp only [Act.put, List.setIfInBounds_toArray, List.set_cons_zero, List.set_cons_succ])
          refine wpAnyH_take (i := 1) (oi := ⟨some 33, _, _, _, _, _⟩) (v := ?_) rfl (by kernel_rfl) (by kernel_rfl) (by kernel_rfl) (fun _ _ _ h => h) (Or.inl ⟨by rfl, ?_⟩) (by assumption) ?_
          rotate_left
          · (intro w' hSw; (try dsimp only at hSw); go_simp; (try with_reducible rfl))
          (try simp only [Act.put, List.setIfInBounds_toArray, List.set_cons_zero, List.set_cons_succ])
          refine wpAnyH_take (i := 2) (oi := ⟨some 34, _, _, _, _, _⟩) (v := ?_) rfl (by kernel_rfl) (by kernel_rfl) (by kernel_rfl) (fun _ _ _ h => h) (Or.inl ⟨by rfl, ?_⟩) (by assumption) ?_
          rotate_left
          · (intro w' hSw; (try dsimp only at hSw); go_simp; (try with_reducible rfl))
          (try simp only [Act.put, List.setIfInBounds_toArray, List.set_cons_zero, List.set_cons_succ])
          refine wpAnyH_take (i := 3) (oi := ⟨some 35, _, _, _, _, _⟩) (v := ?_) rfl (by kernel_rfl) (by kernel_rfl) (by kernel_rfl) (fun _ _ _ h => h) (Or.inl ⟨by rfl, ?_⟩) (by assumption) ?_
          rotate_left
          · (intro w' hSw; (try dsimp only at hSw); go_simp; (try with_reducible rfl))
          (try simp only [Act.put, List.setIfInBounds_toArray, List.set_cons_zero, List.set_cons_succ])
          refine wpAnyH_take (i := 4) (oi := ⟨some 36, _, _, _, _, _⟩) (v := ?_) rfl (by kernel_rfl) (by kernel_rfl) (by kernel_rfl) (fun _ _ _ h => h) (Or.inl ⟨by rfl, ?_⟩) (by assumption) ?_
          rotate_left
          · (intro w' hSw; (try dsimp only at hSw); go_simp; (try with_reducible rfl))
          (try simp only [Act.put, List.setIfInBounds_toArray, List.set_cons_zero, List.set_cons_succ])
          refine wpAnyH_ready (rs := [5]) (by kernel_rfl) (by simp) ?_
          refine AllReadyH.cons (o := ⟨some 37, _, _, _, _, _⟩) rfl (fun K hK => ?_) AllReadyH.nil
          go_simp
          (first | (go_at_call_of 24 (Value.agg #[Value.bool mB, Value.slice B kB dB]); (with_reducible refine (compare_at (CanAt.at_ (Box.can XB) hla) (Inv.ia I0)).mono ?_); rw [HC1.out]; rintro e y ⟨rfl, g⟩; replace I0 := Inv.call I0 g; clear p0 p1 p2 p3 p4 p5 p6 p7; obtain ⟨p0, p1, p2, p3, p4, p5, p6, p7⟩ := Inv.facts I0; replace XB := Box.call XB g; clear s0 s1; obtain ⟨s0, s1⟩ := XB.facts) | (go_at_call_of 21 (Value.agg #[Value.bool (decide (r < 0)), Value.slice AR nR cR]); (with_reducible refine (sign_at (Inv.ir I0)).mono ?_); rw [HSr.out]; rintro e y ⟨rfl, g⟩; replace I0 := Inv.call I0 g; clear p0 p1 p2 p3 p4 p5 p6 p7; obtain ⟨p0, p1, p2, p3, p4, p5, p6, p7⟩ := Inv.facts I0; replace XB := Box.call XB g; clear s0 s1; obtain ⟨s0, s1⟩ := XB.facts) | (go_at_call_of 21 (Value.agg #[Value.bool x2, Value.slice A2 n2 c2]); (with_reducible refine (sign_at (Inv.ib I0)).mono ?_); rw [HS.out]; rintro e y ⟨rfl, g⟩; replace I0 := Inv.call I0 g; clear p0 p1 p2 p3 p4 p5 p6 p7; obtain ⟨p0, p1, p2, p3, p4, p5, p6, p7⟩ := Inv.facts I0; replace XB := Box.call XB g; clear s0 s1; obtain ⟨s0, s1⟩ := XB.facts) | (go_at_call_of 25 (Value.agg #[Value.bool (decide (r < 0)), Value.slice AR nR cR]); (with_reducible refine (abs_at (Inv.ir I0)).mono ?_); rw [HZr.out]; rintro e y ⟨C5, N5, D5, rfl, e5, u5, v5, g⟩; have J5 := IntAt.of_ret e5 u5 v5 hlr; replace I0 := Inv.call I0 g; clear p0 p1 p2 p3 p4 p5 p6 p7; obtain ⟨p0, p1, p2, p3, p4, p5, p6, p7⟩ := Inv.facts I0; replace XB := Box.call XB g; clear s0 s1; obtain ⟨s0, s1⟩ := XB.facts) | (go_at_call_of 25 (Value.agg #[Value.bool x2, Value.slice A2 n2 c2]); (with_reducible refine (abs_at (Inv.ib I0)).mono ?_); rw [HZb.out]; rintro e y ⟨C6, N6, D6, rfl, e6, u6, v6, g⟩; have J6 := IntAt.of_ret e6 u6 v6 hlb; replace J5 := IntAt.call J5 g; replace I0 := Inv.call I0 g; clear p0 p1 p2 p3 p4 p5 p6 p7; obtain ⟨p0, p1, p2, p3, p4, p5, p6, p7⟩ := Inv.facts I0; replace XB := Box.call XB g; clear s0 s1; obtain ⟨s0, s1⟩ := XB.facts) | (go_at_call 24; (with_reducible refine (compare_at J5 J6).mono ?_); rw [HC2.out]; rintro e y ⟨rfl, g⟩; replace I0 := Inv.call I0 g; clear p0 p1 p2 p3 p4 p5 p6 p7; obtain ⟨p0, p1, p2, p3, p4, p5, p6, p7⟩ := Inv.facts I0; replace XB := Box.call XB g; clear s0 s1; obtain ⟨s0, s1⟩ := XB.facts) | (go_at_call 17; (with_reducible refine (awake_any _).mono ?_); rintro e y ⟨rfl, g⟩; replace I0 := Inv.call I0 g; clear p0 p1 p2 p3 p4 p5 p6 p7; obtain ⟨p0, p1, p2, p3, p4, p5, p6, p7⟩ := Inv.facts I0; replace XB := Box.call XB g; clear s0 s1; obtain ⟨s0, s1⟩ := XB.facts) | fail)
          (try go_wp2_with fail)
          refine hK.out _ _ ?_ (fun hHeld1 => ?_)
          · ((try dsimp only); go_keep)
          clear hK K hHeld0
          (try simp only [Act.put, List.setIfInBounds_toArray, List.set_cons_zero, List.set_cons_succ])
          refine wpAnyH_take (i := 6) (oi := ⟨some 38, _, _, _, _, _⟩) (v := ?_) rfl (by kernel_rfl) (by kernel_rfl) (by kernel_rfl) (fun _ _ _ h => h) (Or.inl ⟨by rfl, ?_⟩) (by assumption) ?_
          rotate_left
          · (intro w' hSw; (try dsimp only at hSw); go_simp; (try with_reducible rfl))
          (try simp only [Act.put, List.setIfInBounds_toArray, List.set_cons_zero, List.set_cons_succ])
          refine wpAnyH_take (i := 7) (oi := ⟨some 39, _, _, _, _, _⟩) (v := ?_) rfl (by kernel_rfl) (by kernel_rfl) (by kernel_rfl) (fun _ _ _ h => h) (Or.inl ⟨by rfl, ?_⟩) (by assumption) ?_
          rotate_left
          · (intro w' hSw; (try dsimp only at hSw); go_simp; (try with_reducible rfl))
          (try simp only [Act.put, List.setIfInBounds_toArray, List.set_cons_zero, List.set_cons_succ])
          refine wpAnyH_take (i := 8) (oi := ⟨some 40, _, _, _, _, _⟩) (v := ?_) rfl (by kernel_rfl) (by kernel_rfl) (by kernel_rfl) (fun _ _ _ h => h) (Or.inl ⟨by rfl, ?_⟩) (by assumption) ?_
          rotate_left
          · (intro w' hSw; (try dsimp only at hSw); go_simp; (try with_reducible rfl))
          (try simp only [Act.put, List.setIfInBounds_toArray, List.set_cons_zero, List.set_cons_succ])
          refine wpAnyH_take (i := 9) (oi := ⟨some 41, _, _, _, _, _⟩) (v := ?_) rfl (by kernel_rfl) (by kernel_rfl) (by kernel_rfl) (fun _ _ _ h => h) (Or.inl ⟨by rfl, ?_⟩) (by assumption) ?_
          rotate_left
          · (intro w' hSw; (try dsimp only at hSw); go_simp; (try with_reducible rfl))
          (try simp only [Act.put, List.setIfInBounds_toArray, List.set_cons_zero, List.set_cons_succ])
          refine wpAnyH_ready (rs := [10]) (by kernel_rfl) (by simp) ?_
          refine AllReadyH.cons (o := ⟨some 42, _, _, _, _, _⟩) rfl (fun K hK => ?_) AllReadyH.nil
          go_simp
          (first | (go_at_call_of 24 (Value.agg #[Value.bool mB, Value.slice B kB dB]); (with_reducible refine (compare_at (CanAt.at_ (Box.can XB) hla) (Inv.ia I0)).mono ?_); rw [HC1.out]; rintro e y ⟨rfl, g⟩; replace I0 := Inv.call I0 g; clear p0 p1 p2 p3 p4 p5 p6 p7; obtain ⟨p0, p1, p2, p3, p4, p5, p6, p7⟩ := Inv.facts I0; replace XB := Box.call XB g; clear s0 s1; obtain ⟨s0, s1⟩ := XB.facts) | (go_at_call_of 21 (Value.agg #[Value.bool (decide (r < 0)), Value.slice AR nR cR]); (with_reducible refine (sign_at (Inv.ir I0)).mono ?_); rw [HSr.out]; rintro e y ⟨rfl, g⟩; replace I0 := Inv.call I0 g; clear p0 p1 p2 p3 p4 p5 p6 p7; obtain ⟨p0, p1, p2, p3, p4, p5, p6, p7⟩ := Inv.facts I0; replace XB := Box.call XB g; clear s0 s1; obtain ⟨s0, s1⟩ := XB.facts) | (go_at_call_of 21 (Value.agg #[Value.bool x2, Value.slice A2 n2 c2]); (with_reducible refine (sign_at (Inv.ib I0)).mono ?_); rw [HS.out]; rintro e y ⟨rfl, g⟩; replace I0 := Inv.call I0 g; clear p0 p1 p2 p3 p4 p5 p6 p7; obtain ⟨p0, p1, p2, p3, p4, p5, p6, p7⟩ := Inv.facts I0; replace XB := Box.call XB g; clear s0 s1; obtain ⟨s0, s1⟩ := XB.facts) | (go_at_call_of 25 (Value.agg #[Value.bool (decide (r < 0)), Value.slice AR nR cR]); (with_reducible refine (abs_at (Inv.ir I0)).mono ?_); rw [HZr.out]; rintro e y ⟨C5, N5, D5, rfl, e5, u5, v5, g⟩; have J5 := IntAt.of_ret e5 u5 v5 hlr; replace I0 := Inv.call I0 g; clear p0 p1 p2 p3 p4 p5 p6 p7; obtain ⟨p0, p1, p2, p3, p4, p5, p6, p7⟩ := Inv.facts I0; replace XB := Box.call XB g; clear s0 s1; obtain ⟨s0, s1⟩ := XB.facts) | (go_at_call_of 25 (Value.agg #[Value.bool x2, Value.slice A2 n2 c2]); (with_reducible refine (abs_at (Inv.ib I0)).mono ?_); rw [HZb.out]; rintro e y ⟨C6, N6, D6, rfl, e6, u6, v6, g⟩; have J6 := IntAt.of_ret e6 u6 v6 hlb; replace J5 := IntAt.call J5 g; replace I0 := Inv.call I0 g; clear p0 p1 p2 p3 p4 p5 p6 p7; obtain ⟨p0, p1, p2, p3, p4, p5, p6, p7⟩ := Inv.facts I0; replace XB := Box.call XB g; clear s0 s1; obtain ⟨s0, s1⟩ := XB.facts) | (go_at_call 24; (with_reducible refine (compare_at J5 J6).mono ?_); rw [HC2.out]; rintro e y ⟨rfl, g⟩; replace I0 := Inv.call I0 g; clear p0 p1 p2 p3 p4 p5 p6 p7; obtain ⟨p0, p1, p2, p3, p4, p5, p6, p7⟩ := Inv.facts I0; replace XB := Box.call XB g; clear s0 s1; obtain ⟨s0, s1⟩ := XB.facts) | (go_at_call 17; (with_reducible refine (awake_any _).mono ?_); rintro e y ⟨rfl, g⟩; replace I0 := Inv.call I0 g; clear p0 p1 p2 p3 p4 p5 p6 p7; obtain ⟨p0, p1, p2, p3, p4, p5, p6, p7⟩ := Inv.facts I0; replace XB := Box.call XB g; clear s0 s1; obtain ⟨s0, s1⟩ := XB.facts) | fail)
          (try go_wp2_with fail)
          refine hK.out _ _ ?_ (fun hHeld2 => ?_)
          · ((try dsimp only); go_keep)
          clear hK K hHeld1
          (try simp only [Act.put, List.setIfInBounds_toArray, List.set_cons_zero, List.set_cons_succ])
          refine wpAnyH_take (i := 11) (oi := ⟨some 43, _, _, _, _, _⟩) (v := ?_) rfl (by kernel_rfl) (by kernel_rfl) (by kernel_rfl) (fun _ _ _ h => h) (Or.inl ⟨by rfl, ?_⟩) (by assumption) ?_
          rotate_left
          · (intro w' hSw; (try dsimp only at hSw); go_simp; (try with_reducible rfl))
          (try simp only [Act.put, List.setIfInBounds_toArray, List.set_cons_zero, List.set_cons_succ])
          refine wpAnyH_take (i := 12) (oi := ⟨some 44, _, _, _, _, _⟩) (v := ?_) rfl (by kernel_rfl) (by kernel_rfl) (by kernel_rfl) (fun _ _ _ h => h) (Or.inl ⟨by rfl, ?_⟩) (by assumption) ?_
          rotate_left
          · (intro w' hSw; (try dsimp only at hSw); go_simp; (try with_reducible rfl))
          (try simp only [Act.put, List.setIfInBounds_toArray, List.set_cons_zero, List.set_cons_succ])
          refine wpAnyH_take (i := 13) (oi := ⟨some 45, _, _, _, _, _⟩) (v := undef) rfl (by kernel_rfl) (by kernel_rfl) (by kernel_rfl) (fun _ _ _ h => h) (Or.inr ⟨by rfl, rfl⟩) (by assumption) ?_
          (try simp only [Act.put, List.setIfInBounds_toArray, List.set_cons_zero, List.set_cons_succ])
          refine wpAnyH_take (i := 14) (oi := ⟨some 46, _, _, _, _, _⟩) (v := undef) rfl (by kernel_rfl) (by kernel_rfl) (by kernel_rfl) (fun _ _ _ h => h) (Or.inr ⟨by rfl, rfl⟩) (by assumption) ?_
          (try simp only [Act.put, List.setIfInBounds_toArray, List.set_cons_zero, List.set_cons_succ])
          refine wpAnyH_take (i := 15) (oi := ⟨some 47, _, _, _, _, _⟩) (v := undef) rfl (by kernel_rfl) (by kernel_rfl) (by kernel_rfl) (fun _ _ _ h => h) (Or.inr ⟨by rfl, rfl⟩) (by assumption) ?_
          (try simp only [Act.put, List.setIfInBounds_toArray, List.set_cons_zero, List.set_cons_succ])
          refine wpAnyH_take (i := 16) (oi := ⟨some 48, _, _, _, _, _⟩) (v := undef) rfl (by kernel_rfl) (by kernel_rfl) (by kernel_rfl) (fun _ _ _ h => h) (Or.inr ⟨by rfl, rfl⟩) (by assumption) ?_
          (try simp only [Act.put, List.setIfInBounds_toArray, List.set_cons_zero, List.set_cons_succ])
          refine wpAnyH_take (i := 17) (oi := ⟨some 49, _, _, _, _, _⟩) (v := undef) rfl (by kernel_rfl) (by kernel_rfl) (by kernel_rfl) (fun _ _ _ h => h) (Or.inr ⟨by rfl, rfl⟩) (by assumption) ?_
          (try simp only [Act.put, List.setIfInBounds_toArray, List.set_cons_zero, List.set_cons_succ])
          refine wpAnyH_take (i := 18) (oi := ⟨some 50, _, _, _, _, _⟩) (v := ?_) rfl (by kernel_rfl) (by kernel_rfl) (by kernel_rfl) (fun _ _ _ h => h) (Or.inl ⟨by rfl, ?_⟩) (by assumption) ?_
          rotate_left
          · (intro w' hSw; (try dsimp only at hSw); go_simp; (try with_reducible rfl))
          (try simp only [Act.put, List.setIfInBounds_toArray, List.set_cons_zero, List.set_cons_succ])
          refine wpAnyH_take (i := 19) (oi := ⟨some 51, _, _, _, _, _⟩) (v := ?_) rfl (by kernel_rfl) (by kernel_rfl) (by kernel_rfl) (fun _ _ _ h => h) (Or.inl ⟨by rfl, ?_⟩) (by assumption) ?_
          rotate_left
          · (intro w' hSw; (try dsimp only at hSw); go_simp; (try with_reducible rfl))
          (try simp only [Act.put, List.setIfInBounds_toArray, List.set_cons_zero, List.set_cons_succ])
          refine wpAnyH_take (i := 20) (oi := ⟨some 52, _, _, _, _, _⟩) (v := ?_) rfl (by kernel_rfl) (by kernel_rfl) (by kernel_rfl) (fun _ _ _ h => h) (Or.inl ⟨by rfl, ?_⟩) (by assumption) ?_
          rotate_left
          · (intro w' hSw; (try dsimp only at hSw); go_simp; (try with_reducible rfl))
          (try simp only [Act.put, List.setIfInBounds_toArray, List.set_cons_zero, List.set_cons_succ])
          refine wpAnyH_take (i := 21) (oi := ⟨some 53, _, _, _, _, _⟩) (v := ?_) rfl (by kernel_rfl) (by kernel_rfl) (by kernel_rfl) (fun _ _ _ h => h) (Or.inl ⟨by rfl, ?_⟩) (by assumption) ?_
          rotate_left
          · (intro w' hSw; (try dsimp only at hSw); go_simp; (try with_reducible rfl))
          (try simp only [Act.put, List.setIfInBounds_toArray, List.set_cons_zero, List.set_cons_succ])
          refine wpAnyH_take (i := 23) (oi := ⟨some 55, _, _, _, _, _⟩) (v := ?_) rfl (by kernel_rfl) (by kernel_rfl) (by kernel_rfl) (fun _ _ _ h => h) (Or.inl ⟨by rfl, ?_⟩) (by assumption) ?_
          rotate_left
          · (intro w' hSw; (try dsimp only at hSw); go_simp; (try with_reducible rfl))
          (try simp only [Act.put, List.setIfInBounds_toArray, List.set_cons_zero, List.set_cons_succ])
          refine wpAnyH_ready (rs := [22]) (by kernel_rfl) (by simp) ?_
          refine AllReadyH.cons (o := ⟨some 54, _, _, _, _, _⟩) rfl (fun K hK => ?_) AllReadyH.nil
          go_simp
          (first | (go_at_call_of 24 (Value.agg #[Value.bool mB, Value.slice B kB dB]); (with_reducible refine (compare_at (CanAt.at_ (Box.can XB) hla) (Inv.ia I0)).mono ?_); rw [HC1.out]; rintro e y ⟨rfl, g⟩; replace I0 := Inv.call I0 g; clear p0 p1 p2 p3 p4 p5 p6 p7; obtain ⟨p0, p1, p2, p3, p4, p5, p6, p7⟩ := Inv.facts I0; replace XB := Box.call XB g; clear s0 s1; obtain ⟨s0, s1⟩ := XB.facts) | (go_at_call_of 21 (Value.agg #[Value.bool (decide (r < 0)), Value.slice AR nR cR]); (with_reducible refine (sign_at (Inv.ir I0)).mono ?_); rw [HSr.out]; rintro e y ⟨rfl, g⟩; replace I0 := Inv.call I0 g; clear p0 p1 p2 p3 p4 p5 p6 p7; obtain ⟨p0, p1, p2, p3, p4, p5, p6, p7⟩ := Inv.facts I0; replace XB := Box.call XB g; clear s0 s1; obtain ⟨s0, s1⟩ := XB.facts) | (go_at_call_of 21 (Value.agg #[Value.bool x2, Value.slice A2 n2 c2]); (with_reducible refine (sign_at (Inv.ib I0)).mono ?_); rw [HS.out]; rintro e y ⟨rfl, g⟩; replace I0 := Inv.call I0 g; clear p0 p1 p2 p3 p4 p5 p6 p7; obtain ⟨p0, p1, p2, p3, p4, p5, p6, p7⟩ := Inv.facts I0; replace XB := Box.call XB g; clear s0 s1; obtain ⟨s0, s1⟩ := XB.facts) | (go_at_call_of 25 (Value.agg #[Value.bool (decide (r < 0)), Value.slice AR nR cR]); (with_reducible refine (abs_at (Inv.ir I0)).mono ?_); rw [HZr.out]; rintro e y ⟨C5, N5, D5, rfl, e5, u5, v5, g⟩; have J5 := IntAt.of_ret e5 u5 v5 hlr; replace I0 := Inv.call I0 g; clear p0 p1 p2 p3 p4 p5 p6 p7; obtain ⟨p0, p1, p2, p3, p4, p5, p6, p7⟩ := Inv.facts I0; replace XB := Box.call XB g; clear s0 s1; obtain ⟨s0, s1⟩ := XB.facts) | (go_at_call_of 25 (Value.agg #[Value.bool x2, Value.slice A2 n2 c2]); (with_reducible refine (abs_at (Inv.ib I0)).mono ?_); rw [HZb.out]; rintro e y ⟨C6, N6, D6, rfl, e6, u6, v6, g⟩; have J6 := IntAt.of_ret e6 u6 v6 hlb; replace J5 := IntAt.call J5 g; replace I0 := Inv.call I0 g; clear p0 p1 p2 p3 p4 p5 p6 p7; obtain ⟨p0, p1, p2, p3, p4, p5, p6, p7⟩ := Inv.facts I0; replace XB := Box.call XB g; clear s0 s1; obtain ⟨s0, s1⟩ := XB.facts) | (go_at_call 24; (with_reducible refine (compare_at J5 J6).mono ?_); rw [HC2.out]; rintro e y ⟨rfl, g⟩; replace I0 := Inv.call I0 g; clear p0 p1 p2 p3 p4 p5 p6 p7; obtain ⟨p0, p1, p2, p3, p4, p5, p6, p7⟩ := Inv.facts I0; replace XB := Box.call XB g; clear s0 s1; obtain ⟨s0, s1⟩ := XB.facts) | (go_at_call 17; (with_reducible refine (awake_any _).mono ?_); rintro e y ⟨rfl, g⟩; replace I0 := Inv.call I0 g; clear p0 p1 p2 p3 p4 p5 p6 p7; obtain ⟨p0, p1, p2, p3, p4, p5, p6, p7⟩ := Inv.facts I0; replace XB := Box.call XB g; clear s0 s1; obtain ⟨s0, s1⟩ := XB.facts) | fail)
          (try go_wp2_with fail)
          refine hK.out _ _ ?_ (fun hHeld3 => ?_)
          · ((try dsimp only); go_keep)
          clear hK K hHeld2
          (try simp only [Act.put, List.setIfInBounds_toArray, List.set_cons_zero, List.set_cons_succ])
          refine wpAnyH_ready (rs := [24]) (by kernel_rfl) (by simp) ?_
          refine AllReadyH.cons (o := ⟨some 56, _, _, _, _, _⟩) rfl (fun K hK => ?_) AllReadyH.nil
          go_simp
          (first | (go_at_call_of 24 (Value.agg #[Value.bool mB, Value.slice B kB dB]); (with_reducible refine (compare_at (CanAt.at_ (Box.can XB) hla) (Inv.ia I0)).mono ?_); rw [HC1.out]; rintro e y ⟨rfl, g⟩; replace I0 := Inv.call I0 g; clear p0 p1 p2 p3 p4 p5 p6 p7; obtain ⟨p0, p1, p2, p3, p4, p5, p6, p7⟩ := Inv.facts I0; replace XB := Box.call XB g; clear s0 s1; obtain ⟨s0, s1⟩ := XB.facts) | (go_at_call_of 21 (Value.agg #[Value.bool (decide (r < 0)), Value.slice AR nR cR]); (with_reducible refine (sign_at (Inv.ir I0)).mono ?_); rw [HSr.out]; rintro e y ⟨rfl, g⟩; replace I0 := Inv.call I0 g; clear p0 p1 p2 p3 p4 p5 p6 p7; obtain ⟨p0, p1, p2, p3, p4, p5, p6, p7⟩ := Inv.facts I0; replace XB := Box.call XB g; clear s0 s1; obtain ⟨s0, s1⟩ := XB.facts) | (go_at_call_of 21 (Value.agg #[Value.bool x2, Value.slice A2 n2 c2]); (with_reducible refine (sign_at (Inv.ib I0)).mono ?_); rw [HS.out]; rintro e y ⟨rfl, g⟩; replace I0 := Inv.call I0 g; clear p0 p1 p2 p3 p4 p5 p6 p7; obtain ⟨p0, p1, p2, p3, p4, p5, p6, p7⟩ := Inv.facts I0; replace XB := Box.call XB g; clear s0 s1; obtain ⟨s0, s1⟩ := XB.facts) | (go_at_call_of 25 (Value.agg #[Value.bool (decide (r < 0)), Value.slice AR nR cR]); (with_reducible refine (abs_at (Inv.ir I0)).mono ?_); rw [HZr.out]; rintro e y ⟨C5, N5, D5, rfl, e5, u5, v5, g⟩; have J5 := IntAt.of_ret e5 u5 v5 hlr; replace I0 := Inv.call I0 g; clear p0 p1 p2 p3 p4 p5 p6 p7; obtain ⟨p0, p1, p2, p3, p4, p5, p6, p7⟩ := Inv.facts I0; replace XB := Box.call XB g; clear s0 s1; obtain ⟨s0, s1⟩ := XB.facts) | (go_at_call_of 25 (Value.agg #[Value.bool x2, Value.slice A2 n2 c2]); (with_reducible refine (abs_at (Inv.ib I0)).mono ?_); rw [HZb.out]; rintro e y ⟨C6, N6, D6, rfl, e6, u6, v6, g⟩; have J6 := IntAt.of_ret e6 u6 v6 hlb; replace J5 := IntAt.call J5 g; replace I0 := Inv.call I0 g; clear p0 p1 p2 p3 p4 p5 p6 p7; obtain ⟨p0, p1, p2, p3, p4, p5, p6, p7⟩ := Inv.facts I0; replace XB := Box.call XB g; clear s0 s1; obtain ⟨s0, s1⟩ := XB.facts) | (go_at_call 24; (with_reducible refine (compare_at J5 J6).mono ?_); rw [HC2.out]; rintro e y ⟨rfl, g⟩; replace I0 := Inv.call I0 g; clear p0 p1 p2 p3 p4 p5 p6 p7; obtain ⟨p0, p1, p2, p3, p4, p5, p6, p7⟩ := Inv.facts I0; replace XB := Box.call XB g; clear s0 s1; obtain ⟨s0, s1⟩ := XB.facts) | (go_at_call 17; (with_reducible refine (awake_any _).mono ?_); rintro e y ⟨rfl, g⟩; replace I0 := Inv.call I0 g; clear p0 p1 p2 p3 p4 p5 p6 p7; obtain ⟨p0, p1, p2, p3, p4, p5, p6, p7⟩ := Inv.facts I0; replace XB := Box.call XB g; clear s0 s1; obtain ⟨s0, s1⟩ := XB.facts) | fail)
          (try go_wp2_with fail)
          refine hK.out _ _ ?_ (fun hHeld4 => ?_)
          · ((try dsimp only); go_keep)
          clear hK K hHeld3
          (try simp only [Act.put, List.setIfInBounds_toArray, List.set_cons_zero, List.set_cons_succ])
          refine wpAnyH_ready (rs := [25]) (by kernel_rfl) (by simp) ?_
          refine AllReadyH.cons (o := ⟨some 57, _, _, _, _, _⟩) rfl (fun K hK => ?_) AllReadyH.nil
          go_simp
          (first | (go_at_call_of 24 (Value.agg #[Value.bool mB, Value.slice B kB dB]); (with_reducible refine (compare_at (CanAt.at_ (Box.can XB) hla) (Inv.ia I0)).mono ?_); rw [HC1.out]; rintro e y ⟨rfl, g⟩; replace I0 := Inv.call I0 g; clear p0 p1 p2 p3 p4 p5 p6 p7; obtain ⟨p0, p1, p2, p3, p4, p5, p6, p7⟩ := Inv.facts I0; replace XB := Box.call XB g; clear s0 s1; obtain ⟨s0, s1⟩ := XB.facts) | (go_at_call_of 21 (Value.agg #[Value.bool (decide (r < 0)), Value.slice AR nR cR]); (with_reducible refine (sign_at (Inv.ir I0)).mono ?_); rw [HSr.out]; rintro e y ⟨rfl, g⟩; replace I0 := Inv.call I0 g; clear p0 p1 p2 p3 p4 p5 p6 p7; obtain ⟨p0, p1, p2, p3, p4, p5, p6, p7⟩ := Inv.facts I0; replace XB := Box.call XB g; clear s0 s1; obtain ⟨s0, s1⟩ := XB.facts) | (go_at_call_of 21 (Value.agg #[Value.bool x2, Value.slice A2 n2 c2]); (with_reducible refine (sign_at (Inv.ib I0)).mono ?_); rw [HS.out]; rintro e y ⟨rfl, g⟩; replace I0 := Inv.call I0 g; clear p0 p1 p2 p3 p4 p5 p6 p7; obtain ⟨p0, p1, p2, p3, p4, p5, p6, p7⟩ := Inv.facts I0; replace XB := Box.call XB g; clear s0 s1; obtain ⟨s0, s1⟩ := XB.facts) | (go_at_call_of 25 (Value.agg #[Value.bool (decide (r < 0)), Value.slice AR nR cR]); (with_reducible refine (abs_at (Inv.ir I0)).mono ?_); rw [HZr.out]; rintro e y ⟨C5, N5, D5, rfl, e5, u5, v5, g⟩; have J5 := IntAt.of_ret e5 u5 v5 hlr; replace I0 := Inv.call I0 g; clear p0 p1 p2 p3 p4 p5 p6 p7; obtain ⟨p0, p1, p2, p3, p4, p5, p6, p7⟩ := Inv.facts I0; replace XB := Box.call XB g; clear s0 s1; obtain ⟨s0, s1⟩ := XB.facts) | (go_at_call_of 25 (Value.agg #[Value.bool x2, Value.slice A2 n2 c2]); (with_reducible refine (abs_at (Inv.ib I0)).mono ?_); rw [HZb.out]; rintro e y ⟨C6, N6, D6, rfl, e6, u6, v6, g⟩; have J6 := IntAt.of_ret e6 u6 v6 hlb; replace J5 := IntAt.call J5 g; replace I0 := Inv.call I0 g; clear p0 p1 p2 p3 p4 p5 p6 p7; obtain ⟨p0, p1, p2, p3, p4, p5, p6, p7⟩ := Inv.facts I0; replace XB := Box.call XB g; clear s0 s1; obtain ⟨s0, s1⟩ := XB.facts) | (go_at_call 24; (with_reducible refine (compare_at J5 J6).mono ?_); rw [HC2.out]; rintro e y ⟨rfl, g⟩; replace I0 := Inv.call I0 g; clear p0 p1 p2 p3 p4 p5 p6 p7; obtain ⟨p0, p1, p2, p3, p4, p5, p6, p7⟩ := Inv.facts I0; replace XB := Box.call XB g; clear s0 s1; obtain ⟨s0, s1⟩ := XB.facts) | (go_at_call 17; (with_reducible refine (awake_any _).mono ?_); rintro e y ⟨rfl, g⟩; replace I0 := Inv.call I0 g; clear p0 p1 p2 p3 p4 p5 p6 p7; obtain ⟨p0, p1, p2, p3, p4, p5, p6, p7⟩ := Inv.facts I0; replace XB := Box.call XB g; clear s0 s1; obtain ⟨s0, s1⟩ := XB.facts) | fail)
          (try go_wp2_with fail)
          refine hK.out _ _ ?_ (fun hHeld5 => ?_)
          · ((try dsimp only); go_keep)
          clear hK K hHeld4
          (try simp only [Act.put, List.setIfInBounds_toArray, List.set_cons_zero, List.set_cons_succ])
          refine wpAnyH_take (i := 26) (oi := ⟨some 58, _, _, _, _, _⟩) (v := ?_) rfl (by kernel_rfl) (by kernel_rfl) (by kernel_rfl) (fun _ _ _ h => h) (Or.inl ⟨by rfl, ?_⟩) (by assumption) ?_
          rotate_left
          · (intro w' hSw; (try dsimp only at hSw); go_simp; (try with_reducible rfl))
          (try simp only [Act.put, List.setIfInBounds_toArray, List.set_cons_zero, List.set_cons_succ])
          refine wpAnyH_take (i := 27) (oi := ⟨some 59, _, _, _, _, _⟩) (v := ?_) rfl (by kernel_rfl) (by kernel_rfl) (by kernel_rfl) (fun _ _ _ h => h) (Or.inl ⟨by rfl, ?_⟩) (by assumption) ?_
          rotate_left
          · (intro w' hSw; (try dsimp only at hSw); go_simp; (try with_reducible rfl))
          (try simp only [Act.put, List.setIfInBounds_toArray, List.set_cons_zero, List.set_cons_succ])
          refine wpAnyH_take (i := 28) (oi := ⟨some 60, _, _, _, _, _⟩) (v := ?_) rfl (by kernel_rfl) (by kernel_rfl) (by kernel_rfl) (fun _ _ _ h => h) (Or.inl ⟨by rfl, ?_⟩) (by assumption) ?_
          rotate_left
          · (intro w' hSw; (try dsimp only at hSw); go_simp; (try with_reducible rfl))
          (try simp only [Act.put, List.setIfInBounds_toArray, List.set_cons_zero, List.set_cons_succ])
          refine wpAnyH_ready (rs := [29]) (by kernel_rfl) (by simp) ?_
          refine AllReadyH.cons (o := ⟨some 61, _, _, _, _, _⟩) rfl (fun K hK => ?_) AllReadyH.nil
          go_simp
          (first | (go_at_call_of 24 (Value.agg #[Value.bool mB, Value.slice B kB dB]); (with_reducible refine (compare_at (CanAt.at_ (Box.can XB) hla) (Inv.ia I0)).mono ?_); rw [HC1.out]; rintro e y ⟨rfl, g⟩; replace I0 := Inv.call I0 g; clear p0 p1 p2 p3 p4 p5 p6 p7; obtain ⟨p0, p1, p2, p3, p4, p5, p6, p7⟩ := Inv.facts I0; replace XB := Box.call XB g; clear s0 s1; obtain ⟨s0, s1⟩ := XB.facts) | (go_at_call_of 21 (Value.agg #[Value.bool (decide (r < 0)), Value.slice AR nR cR]); (with_reducible refine (sign_at (Inv.ir I0)).mono ?_); rw [HSr.out]; rintro e y ⟨rfl, g⟩; replace I0 := Inv.call I0 g; clear p0 p1 p2 p3 p4 p5 p6 p7; obtain ⟨p0, p1, p2, p3, p4, p5, p6, p7⟩ := Inv.facts I0; replace XB := Box.call XB g; clear s0 s1; obtain ⟨s0, s1⟩ := XB.facts) | (go_at_call_of 21 (Value.agg #[Value.bool x2, Value.slice A2 n2 c2]); (with_reducible refine (sign_at (Inv.ib I0)).mono ?_); rw [HS.out]; rintro e y ⟨rfl, g⟩; replace I0 := Inv.call I0 g; clear p0 p1 p2 p3 p4 p5 p6 p7; obtain ⟨p0, p1, p2, p3, p4, p5, p6, p7⟩ := Inv.facts I0; replace XB := Box.call XB g; clear s0 s1; obtain ⟨s0, s1⟩ := XB.facts) | (go_at_call_of 25 (Value.agg #[Value.bool (decide (r < 0)), Value.slice AR nR cR]); (with_reducible refine (abs_at (Inv.ir I0)).mono ?_); rw [HZr.out]; rintro e y ⟨C5, N5, D5, rfl, e5, u5, v5, g⟩; have J5 := IntAt.of_ret e5 u5 v5 hlr; replace I0 := Inv.call I0 g; clear p0 p1 p2 p3 p4 p5 p6 p7; obtain ⟨p0, p1, p2, p3, p4, p5, p6, p7⟩ := Inv.facts I0; replace XB := Box.call XB g; clear s0 s1; obtain ⟨s0, s1⟩ := XB.facts) | (go_at_call_of 25 (Value.agg #[Value.bool x2, Value.slice A2 n2 c2]); (with_reducible refine (abs_at (Inv.ib I0)).mono ?_); rw [HZb.out]; rintro e y ⟨C6, N6, D6, rfl, e6, u6, v6, g⟩; have J6 := IntAt.of_ret e6 u6 v6 hlb; replace J5 := IntAt.call J5 g; replace I0 := Inv.call I0 g; clear p0 p1 p2 p3 p4 p5 p6 p7; obtain ⟨p0, p1, p2, p3, p4, p5, p6, p7⟩ := Inv.facts I0; replace XB := Box.call XB g; clear s0 s1; obtain ⟨s0, s1⟩ := XB.facts) | (go_at_call 24; (with_reducible refine (compare_at J5 J6).mono ?_); rw [HC2.out]; rintro e y ⟨rfl, g⟩; replace I0 := Inv.call I0 g; clear p0 p1 p2 p3 p4 p5 p6 p7; obtain ⟨p0, p1, p2, p3, p4, p5, p6, p7⟩ := Inv.facts I0; replace XB := Box.call XB g; clear s0 s1; obtain ⟨s0, s1⟩ := XB.facts) | (go_at_call 17; (with_reducible refine (awake_any _).mono ?_); rintro e y ⟨rfl, g⟩; replace I0 := Inv.call I0 g; clear p0 p1 p2 p3 p4 p5 p6 p7; obtain ⟨p0, p1, p2, p3, p4, p5, p6, p7⟩ := Inv.facts I0; replace XB := Box.call XB g; clear s0 s1; obtain ⟨s0, s1⟩ := XB.facts) | fail)
          (try go_wp2_with fail)
          refine hK.out _ _ ?_ (fun hHeld6 => ?_)
          · ((try dsimp only); go_keep)
          clear hK K hHeld5
          (try simp only [Act.put, List.setIfInBounds_toArray, List.set_cons_zero, List.set_cons_succ])
          refine wpAnyH_take (i := 30) (oi := ⟨some 62, _, _, _, _, _⟩) (v := ?_) rfl (by kernel_rfl) (by kernel_rfl) (by kernel_rfl) (fun _ _ _ h => h) (Or.inl ⟨by rfl, ?_⟩) (by assumption) ?_
          rotate_left
          · (intro w' hSw; (try dsimp only at hSw); go_simp; (try with_reducible rfl))
          (try simp only [Act.put, List.setIfInBounds_toArray, List.set_cons_zero, List.set_cons_succ])
          refine wpAnyH_take (i := 31) (oi := ⟨some 4, _, _, _, _, _⟩) (v := ?_) rfl (by kernel_rfl) (by kernel_rfl) (by kernel_rfl) (fun _ _ _ h => h) (Or.inl ⟨by rfl, ?_⟩) (by assumption) ?_
          rotate_left
          · (intro w' hSw; (try dsimp only at hSw); go_simp; (try with_reducible rfl))
          (try simp only [Act.put, List.setIfInBounds_toArray, List.set_cons_zero, List.set_cons_succ])
          refine wpAnyH_done (by kernel_rfl) ?_ _
          go_wp2
          go_ret
          exact ⟨rfl, Inv.below I0⟩
        · have HSr : Hid (sgn r = sb) := by rcases heuc1 with h0 | h0; exact absurd h0 hr0; exact h0.trans HS.out
          have hsb' : (sb == 0) = false := by simpa using hsb
          clear hr0 heuc1
          go_upto_region 5 with fail
          replace I0 := I0.drew
          replace XB := XB.drew
          have I9 := I0
          obtain ⟨p0, p1, p2, p3, p4, p5, p6, p7⟩ := Inv.facts I0
          obtain ⟨s0, s1⟩ := XB.facts
          first
            | (go_region_held3 (fun w' => w'.cell? ⟨w.heap.size, 0, none⟩ = some (.bool x1) ∧ w'.cell? ⟨w.heap.size, 1, none⟩ = some (.slice A1 n1 c1) ∧ w'.cell? ⟨w.heap.size + 1, 0, none⟩ = some (.bool x2) ∧ w'.cell? ⟨w.heap.size + 1, 1, none⟩ = some (.slice A2 n2 c2) ∧ w'.cell? ⟨gr, 0, none⟩ = some (.bool (decide (r < 0))) ∧ w'.cell? ⟨gr, 1, none⟩ = some (.slice AR nR cR) ∧ w'.cell? ⟨h, 0, none⟩ = some (.bool mB) ∧ w'.cell? ⟨h, 1, none⟩ = some (.slice B kB dB))
                (go_keep)
                (first
                  | (go_at_call_of 24 (Value.agg #[Value.bool mB, Value.slice B kB dB]); (with_reducible refine (compare_at (CanAt.at_ (Box.can XB) hla) (Inv.ia I0)).mono ?_); rw [HC1.out]; rintro e y ⟨rfl, g⟩; replace I0 := Inv.call I0 g; clear p0 p1 p2 p3 p4 p5 p6 p7; obtain ⟨p0, p1, p2, p3, p4, p5, p6, p7⟩ := Inv.facts I0; replace XB := Box.call XB g; clear s0 s1; obtain ⟨s0, s1⟩ := XB.facts)
                  | (go_at_call_of 21 (Value.agg #[Value.bool (decide (r < 0)), Value.slice AR nR cR]); (with_reducible refine (sign_at (Inv.ir I0)).mono ?_); rw [HSr.out]; rintro e y ⟨rfl, g⟩; replace I0 := Inv.call I0 g; clear p0 p1 p2 p3 p4 p5 p6 p7; obtain ⟨p0, p1, p2, p3, p4, p5, p6, p7⟩ := Inv.facts I0; replace XB := Box.call XB g; clear s0 s1; obtain ⟨s0, s1⟩ := XB.facts)
                  | (go_at_call_of 21 (Value.agg #[Value.bool x2, Value.slice A2 n2 c2]); (with_reducible refine (sign_at (Inv.ib I0)).mono ?_); rw [HS.out]; rintro e y ⟨rfl, g⟩; replace I0 := Inv.call I0 g; clear p0 p1 p2 p3 p4 p5 p6 p7; obtain ⟨p0, p1, p2, p3, p4, p5, p6, p7⟩ := Inv.facts I0; replace XB := Box.call XB g; clear s0 s1; obtain ⟨s0, s1⟩ := XB.facts)
                  | (go_at_call_of 25 (Value.agg #[Value.bool (decide (r < 0)), Value.slice AR nR cR]); (with_reducible refine (abs_at (Inv.ir I0)).mono ?_); rw [HZr.out]; rintro e y ⟨C5, N5, D5, rfl, e5, u5, v5, g⟩; have J5 := IntAt.of_ret e5 u5 v5 hlr; replace I0 := Inv.call I0 g; clear p0 p1 p2 p3 p4 p5 p6 p7; obtain ⟨p0, p1, p2, p3, p4, p5, p6, p7⟩ := Inv.facts I0; replace XB := Box.call XB g; clear s0 s1; obtain ⟨s0, s1⟩ := XB.facts)
                  | (go_at_call_of 25 (Value.agg #[Value.bool x2, Value.slice A2 n2 c2]); (with_reducible refine (abs_at (Inv.ib I0)).mono ?_); rw [HZb.out]; rintro e y ⟨C6, N6, D6, rfl, e6, u6, v6, g⟩; have J6 := IntAt.of_ret e6 u6 v6 hlb; replace J5 := IntAt.call J5 g; replace I0 := Inv.call I0 g; clear p0 p1 p2 p3 p4 p5 p6 p7; obtain ⟨p0, p1, p2, p3, p4, p5, p6, p7⟩ := Inv.facts I0; replace XB := Box.call XB g; clear s0 s1; obtain ⟨s0, s1⟩ := XB.facts)
                  | (go_at_call 24; (with_reducible refine (compare_at J5 J6).mono ?_); rw [HC2.out]; rintro e y ⟨rfl, g⟩; replace I0 := Inv.call I0 g; clear p0 p1 p2 p3 p4 p5 p6 p7; obtain ⟨p0, p1, p2, p3, p4, p5, p6, p7⟩ := Inv.facts I0; replace XB := Box.call XB g; clear s0 s1; obtain ⟨s0, s1⟩ := XB.facts)
                  | (go_at_call 17; (with_reducible refine (awake_any _).mono ?_); rintro e y ⟨rfl, g⟩; replace I0 := Inv.call I0 g; clear p0 p1 p2 p3 p4 p5 p6 p7; obtain ⟨p0, p1, p2, p3, p4, p5, p6, p7⟩ := Inv.facts I0; replace XB := Box.call XB g; clear s0 s1; obtain ⟨s0, s1⟩ := XB.facts)
                  | fail))
            | fail
          go_wp2
          go_ret
          exact ⟨rfl, Inv.below I0⟩
  · have hlight := light2 (w := ((w.alloc (.cells #[.bool x1, .slice A1 n1 c1] 24)).alloc (.cells #[.bool x2, .slice A2 n2 c2] 24))) (x1 := x1) (x2 := x2) (A1 := A1) (A2 := A2) (c1 := c1) (c2 := c2) (g := w.heap.size + 1 + 1) (by simp) hn1 hn2 false (by simp; omega)
    go_enter Try.func4, Try.ntmps4
    go_wp2_with (first
      | (go_at_call 16; (with_reducible refine hlight.mono ?_); rintro e w' ⟨rfl, rfl⟩)
      | (go_at_call 17; (with_reducible refine (awake_any _).mono ?_); rintro e w1 ⟨rfl, hb1⟩))
    go_ret
    exact ⟨rfl, bcall hb3 hb1⟩
end Go.Proofs.Ytehoafpnmfkniaa
