/-
  Calendar: reading durations, by the reference.
-/
import Derived.Test.YtpcagheghmbjfaaDoorCcD
set_option linter.unusedVariables false
set_option linter.unusedSimpArgs false
namespace Go.Proofs.YtpcagheghmbjfaaDoor
open Go.RowKit

theorem hours_dig {l : List UInt8} (h : 1 ≤ l.length) : hoursB l = (digB l 1 11 && plB l) := by
  unfold hoursB digB plB
  congr 1
  by_cases h1 : l.length = 1
  · rw [decide_eq_true h1]; simp
  · rw [decide_eq_false h1, decide_eq_true (show 1 < l.length by omega)]; simp
theorem digv1 {l : List UInt8} (h : digB l 1 11 = true) : digV l 1 11 = (decN l : Int) := by unfold digV; rw [h]; rfl
theorem dig11 {l : List UInt8} (h : digB l 1 11 = true) : decN l < 100000000000 := by
  unfold digB at h
  simp only [Bool.and_eq_true, decide_eq_true_eq] at h
  exact dec11 h.2 h.1.2
set_option maxHeartbeats 8000000 in
set_option maxRecDepth 100000 in
theorem rparseDuration_any (l : List UInt8) (hl : l.length ≤ 9223372036854775807) (w : World) : Calls Tryd.prog 32 #[.string ⟨l.toArray⟩] w (RetNE w (duV l) (duE l)) := by
  have hS : duS l = (okP (cutB l).1 && !((cutB l).2 && decide (duN l = 0))) := rfl
  have hR : duR l = decide (decN (duM (cutB l).1) < 60 ∧ duN l ≤ 1099511627776) := rfl
  have hN : duN l = 60 * decN (duH (cutB l).1) + decN (duM (cutB l).1) := rfl
  have hsyn := @du_syn l
  have hrng := @du_rng l
  have hgood := @du_good l
  have hsz := bsize l
  have hcl := cutB_len l
  cases hg : (cutB l).2 with
  | true =>
    obtain ⟨hpos, h45, e0⟩ := cutB_true hg
    rw [hg] at hS hgood
    have hgt := bget (l := l) (k := 0) hpos
    have hgc0 : ∀ h, ((⟨l.toArray⟩ : ByteArray)[0]'h).toNat = 45 := fun h => by rw [hgt h]; exact h45
    have hx : (⟨l.toArray⟩ : ByteArray).extract 1 l.length = ⟨(cutB l).1.toArray⟩ := by
      rw [ext_take, e0, List.take_of_length_le (Nat.le_refl _)]
    have hxt : l.tail = (cutB l).1 := by rw [e0, List.drop_one]
    obtain ⟨p, Hp⟩ : ∃ v, Hid ((cutB l).1 = v) := ⟨_, rfl⟩
    have hpl0 : p.length + 1 = l.length := by rw [← Hp.out, e0, List.length_drop]; omega
    rw [Hp.out] at hS hR hN hx hxt
    have hpz := bsize p
    obtain ⟨L, HL⟩ : ∃ v, Hid (l.length = v) := ⟨_, rfl⟩
    obtain ⟨P, HPL⟩ : ∃ v, Hid (p.length = v) := ⟨_, rfl⟩
    rw [HL.out] at hl hsz hpos hx hpl0
    rw [HPL.out] at hpz hpl0
    have j0 : (0 : Int) < (L : Int) := by omega
    have j1 : (1 : Int) ≤ (L : Int) := by omega
    clear hgt h45 e0 hcl
    by_cases h4 : P < 4
    · have HR := Lib.hid (hsyn (by rw [hS]; unfold okP; rw [HPL.out, decide_eq_false (by omega)]; rfl))
      rw [HR.out.1, HR.out.2]
      have q1 : (P : Int) - 3 < 1 := by omega
      clear hS hR hN hsyn hrng hgood
      go_enter Tryd.func32, Tryd.ntmps32
      go_wp2_with (first
        | fail)
      go_ret2
      exact ⟨rfl, Below.refl _ _⟩
    · obtain ⟨k, hk⟩ : ∃ k, P = k + 3 := ⟨P - 3, by omega⟩
      subst hk
      have hk1 : 1 ≤ k := by omega
      have i1 : ((k + 3 : Nat) : Int) - 3 = (k : Int) := by omega
      have i2 : decide ((k : Int) < 1) = false := by simp; omega
      have i3 : (0 : Int) ≤ (k : Int) := by omega
      have i4 : (k : Int) < ((k + 3 : Nat) : Int) := by omega
      have i5 : (k : Int) ≤ ((k + 3 : Nat) : Int) := by omega
      have i6 : (k : Int) + 1 ≤ ((k + 3 : Nat) : Int) := by omega
      have i7 : ((k : Int) + 1).toNat = k + 1 := by omega
      have i8 : (0 : Int) ≤ (k : Int) + 1 := by omega
      have hgt := bget (l := p) (k := k) (by rw [HPL.out]; omega)
      obtain ⟨c, HC⟩ : ∃ v, Hid ((bAt p k).toNat = v) := ⟨_, rfl⟩
      have hgc : ∀ h, ((⟨p.toArray⟩ : ByteArray)[k]'h).toNat = c := fun h => by rw [hgt h]; exact HC.out
      clear hgt
      have hokp : okP p = (decide (c = 58) && (hoursB (p.take k) && (p.drop (k + 1)).all dgOk)) := by
        unfold okP duH duM
        rw [HPL.out, decide_eq_true (by omega), Bool.true_and, show k + 3 - 3 = k by omega, show k + 3 - 2 = k + 1 by omega, HC.out]
      have hNN : duN l = 60 * decN (p.take k) + decN (p.drop (k + 1)) := by
        rw [hN]; unfold duH duM
        rw [HPL.out, show k + 3 - 3 = k by omega, show k + 3 - 2 = k + 1 by omega]
      have hRR : duR l = decide (decN (p.drop (k + 1)) < 60 ∧ duN l ≤ 1099511627776) := by
        rw [hR]; unfold duM
        rw [HPL.out, show k + 3 - 2 = k + 1 by omega]
      clear hN hR
      by_cases h58 : c = 58
      · subst h58
        rw [decide_eq_true rfl, Bool.true_and] at hokp
        have x1 : (⟨p.toArray⟩ : ByteArray).extract 0 k = ⟨(p.take k).toArray⟩ := by rw [ext_take, List.drop_zero]
        have x2 : (⟨p.toArray⟩ : ByteArray).extract (k + 1) (k + 3) = ⟨(p.drop (k + 1)).toArray⟩ := by rw [ext_take, List.take_of_length_le (by rw [HPL.out]; omega)]
        have l1 : (p.take k).length = k := by rw [List.length_take, HPL.out]; omega
        have l2 : (p.drop (k + 1)).length = 2 := by rw [List.length_drop, HPL.out]; omega
        have hn1 := fun w => rDigits_any (p.take k) (by rw [l1]; omega) 1 11 (by omega) (by omega) w
        have hn2 := fun w => rDigits_any (p.drop (k + 1)) (by rw [l2]; omega) 2 2 (by omega) (by omega) w
        have hpl := rPlain_any (p.take k) (by rw [l1]; omega)
        simp only [Int.cast_ofNat_Int] at hn1 hn2
        unfold RetD at hn1 hn2
        rw [dig_of l2] at hn2
        have hho := hours_dig (l := p.take k) (by omega)
        rw [hho] at hokp
        have v1 := @digv1 (p.take k)
        have v2 := @digv_of (p.drop (k + 1)) 2 l2
        have b1 := @dig11 (p.take k)
        have b2 := fun h => @dec2 (p.drop (k + 1)) h l2
        obtain ⟨X, HX⟩ : ∃ v, Hid (p.take k = v) := ⟨_, rfl⟩
        obtain ⟨Y, HY⟩ : ∃ v, Hid (p.drop (k + 1) = v) := ⟨_, rfl⟩
        simp only [HX.out] at x1 hn1 hpl hokp v1 b1 hNN
        simp only [HY.out] at x2 hn2 hokp v2 b2 hNN hRR
        obtain ⟨a1, A1⟩ : ∃ v, Hid (digB X 1 11 = v) := ⟨_, rfl⟩
        obtain ⟨a2, A2⟩ : ∃ v, Hid (Y.all dgOk = v) := ⟨_, rfl⟩
        obtain ⟨a3, A3⟩ : ∃ v, Hid (plB X = v) := ⟨_, rfl⟩
        simp only [A1.out] at hn1 hokp v1 b1
        simp only [A2.out] at hn2 hokp v2 b2
        simp only [A3.out] at hpl hokp
        obtain ⟨Z1, HZ1⟩ : ∃ v, Hid (digV X 1 11 = v) := ⟨_, rfl⟩
        obtain ⟨Z2, HZ2⟩ : ∃ v, Hid (digV Y 2 2 = v) := ⟨_, rfl⟩
        simp only [HZ1.out] at hn1 v1
        simp only [HZ2.out] at hn2 v2
        clear l1 l2 hho
        cases a1 with
        | false =>
          have HR := Lib.hid (hsyn (by rw [hS, hokp]; rfl))
          clear hS hRR hNN hokp hsyn hrng hgood v1 v2 b1 b2
          rw [HR.out.1, HR.out.2]
          go_enter Tryd.func32, Tryd.ntmps32
          go_wp2_with (first
            | (go_at_call 51; first
                | ((with_reducible refine (hn1 _).mono ?_); rintro e w2 ⟨rfl, rfl⟩)
                | ((with_reducible refine (hn2 _).mono ?_); rintro e w3 ⟨rfl, rfl⟩))
            | (go_at_call 58; (with_reducible refine (hpl _).mono ?_); rintro e w4 ⟨rfl, rfl⟩)
            | fail)
          go_ret2
          exact ⟨rfl, Below.refl _ _⟩
        | true =>
          cases a2 with
          | false =>
            have HR := Lib.hid (hsyn (by rw [hS, hokp]; simp))
            clear hS hRR hNN hokp hsyn hrng hgood v1 v2 b1 b2
            rw [HR.out.1, HR.out.2]
            go_enter Tryd.func32, Tryd.ntmps32
            go_wp2_with (first
              | (go_at_call 51; first
                  | ((with_reducible refine (hn1 _).mono ?_); rintro e w2 ⟨rfl, rfl⟩)
                  | ((with_reducible refine (hn2 _).mono ?_); rintro e w3 ⟨rfl, rfl⟩))
              | (go_at_call 58; (with_reducible refine (hpl _).mono ?_); rintro e w4 ⟨rfl, rfl⟩)
              | fail)
            go_ret2
            exact ⟨rfl, Below.refl _ _⟩
          | true =>
            cases a3 with
            | false =>
              have HR := Lib.hid (hsyn (by rw [hS, hokp]; rfl))
              clear hS hRR hNN hokp hsyn hrng hgood v1 v2 b1 b2
              rw [HR.out.1, HR.out.2]
              go_enter Tryd.func32, Tryd.ntmps32
              go_wp2_with (first
                | (go_at_call 51; first
                    | ((with_reducible refine (hn1 _).mono ?_); rintro e w2 ⟨rfl, rfl⟩)
                    | ((with_reducible refine (hn2 _).mono ?_); rintro e w3 ⟨rfl, rfl⟩))
                | (go_at_call 58; (with_reducible refine (hpl _).mono ?_); rintro e w4 ⟨rfl, rfl⟩)
                | fail)
              go_ret2
              exact ⟨rfl, Below.refl _ _⟩
            | true =>
              obtain rfl := v1 rfl
              obtain rfl := v2 rfl
              have b1' := b1 rfl
              have b2' := b2 rfl
              have hokp2 : okP p = true := hokp
              rw [hokp2, Bool.true_and] at hS
              obtain ⟨H, HH⟩ : ∃ v, Hid (decN X = v) := ⟨_, rfl⟩
              obtain ⟨M, HM⟩ : ∃ v, Hid (decN Y = v) := ⟨_, rfl⟩
              simp only [HH.out] at hn1 hNN b1'
              simp only [HM.out] at hn2 hNN b2' hRR
              obtain ⟨N, HN⟩ : ∃ v, Hid (duN l = v) := ⟨_, rfl⟩
              simp only [HN.out] at hNN hS hRR hgood
              have hi : 60 * (H : Int) + (M : Int) = (N : Int) := by omega
              have s1 : IntKind.i64.wrap (60 * (H : Int)) = 60 * (H : Int) := IntWalk.i64_in _ (by omega)
              have s2 : IntKind.i64.wrap (60 * (H : Int) + (M : Int)) = (N : Int) := by rw [hi]; exact IntWalk.i64_in _ (by omega)
              have nb : N < 7000000000000 := by omega
              clear hokp hokp2 v1 v2 b1 b2
              by_cases hz : N = 0
              · obtain rfl : H = 0 := by omega
                obtain rfl : M = 0 := by omega
                have HR := Lib.hid (hsyn (by rw [hS, decide_eq_true hz]; rfl))
                clear hS hRR hNN hsyn hrng hgood
                rw [HR.out.1, HR.out.2]
                go_enter Tryd.func32, Tryd.ntmps32
                go_wp2_with (first
                  | (go_at_call 51; first
                      | ((with_reducible refine (hn1 _).mono ?_); rintro e w2 ⟨rfl, rfl⟩)
                      | ((with_reducible refine (hn2 _).mono ?_); rintro e w3 ⟨rfl, rfl⟩))
                  | (go_at_call 58; (with_reducible refine (hpl _).mono ?_); rintro e w4 ⟨rfl, rfl⟩)
                  | fail)
                go_ret2
                exact ⟨rfl, Below.refl _ _⟩
              · have hSt : duS l = true := by rw [hS, decide_eq_false hz]; rfl
                by_cases hH : H = 0
                · subst hH
                  obtain rfl : N = M := by omega
                  have k1 : ((N : Int) == 0) = false := by first | (simp; done) | (simp; omega)
                  have k2 : ¬ (N : Int) = 0 := by omega
                  by_cases hm : 60 ≤ N
                  · have j1 : (59 : Int) < (N : Int) := by omega
                    have HR := Lib.hid (hrng hSt (by rw [hRR]; exact decide_eq_false (by omega)))
                    clear hS hRR hNN hsyn hrng hgood hSt
                    rw [HR.out.1, HR.out.2]
                    go_enter Tryd.func32, Tryd.ntmps32
                    go_wp2_with (first
                      | (go_at_call 51; first
                          | ((with_reducible refine (hn1 _).mono ?_); rintro e w2 ⟨rfl, rfl⟩)
                          | ((with_reducible refine (hn2 _).mono ?_); rintro e w3 ⟨rfl, rfl⟩))
                      | (go_at_call 58; (with_reducible refine (hpl _).mono ?_); rintro e w4 ⟨rfl, rfl⟩)
                      | fail)
                    go_ret2
                    exact ⟨rfl, Below.refl _ _⟩
                  · have j1 : decide ((59 : Int) < (N : Int)) = false := by simp; omega
                    by_cases hx : 1099511627776 < N
                    · have j2 : (1099511627776 : Int) < (N : Int) := by omega
                      have HR := Lib.hid (hrng hSt (by rw [hRR]; exact decide_eq_false (by omega)))
                      clear hS hRR hNN hsyn hrng hgood hSt
                      rw [HR.out.1, HR.out.2]
                      go_enter Tryd.func32, Tryd.ntmps32
                      go_wp2_with (first
                        | (go_at_call 51; first
                            | ((with_reducible refine (hn1 _).mono ?_); rintro e w2 ⟨rfl, rfl⟩)
                            | ((with_reducible refine (hn2 _).mono ?_); rintro e w3 ⟨rfl, rfl⟩))
                        | (go_at_call 58; (with_reducible refine (hpl _).mono ?_); rintro e w4 ⟨rfl, rfl⟩)
                        | fail)
                      go_ret2
                      exact ⟨rfl, Below.refl _ _⟩
                    · have j2 : decide ((1099511627776 : Int) < (N : Int)) = false := by simp; omega
                      have HR := Lib.hid (hgood hSt (by rw [hRR]; exact decide_eq_true (by omega)))
                      clear hS hRR hNN hsyn hrng hgood hSt
                      rw [HR.out.1, HR.out.2]
                      go_enter Tryd.func32, Tryd.ntmps32
                      go_wp2_with (first
                        | (go_at_call 51; first
                            | ((with_reducible refine (hn1 _).mono ?_); rintro e w2 ⟨rfl, rfl⟩)
                            | ((with_reducible refine (hn2 _).mono ?_); rintro e w3 ⟨rfl, rfl⟩))
                        | (go_at_call 58; (with_reducible refine (hpl _).mono ?_); rintro e w4 ⟨rfl, rfl⟩)
                        | fail)
                      go_ret2
                      exact ⟨rfl, Below.refl _ _⟩
                · have k1 : ((H : Int) == 0) = false := by simp; omega
                  have k2 : ¬ (H : Int) = 0 := by omega
                  by_cases hm : 60 ≤ M
                  · have j1 : (59 : Int) < (M : Int) := by omega
                    have HR := Lib.hid (hrng hSt (by rw [hRR]; exact decide_eq_false (by omega)))
                    clear hS hRR hNN hsyn hrng hgood hSt
                    rw [HR.out.1, HR.out.2]
                    go_enter Tryd.func32, Tryd.ntmps32
                    go_wp2_with (first
                      | (go_at_call 51; first
                          | ((with_reducible refine (hn1 _).mono ?_); rintro e w2 ⟨rfl, rfl⟩)
                          | ((with_reducible refine (hn2 _).mono ?_); rintro e w3 ⟨rfl, rfl⟩))
                      | (go_at_call 58; (with_reducible refine (hpl _).mono ?_); rintro e w4 ⟨rfl, rfl⟩)
                      | fail)
                    go_ret2
                    exact ⟨rfl, Below.refl _ _⟩
                  · have j1 : decide ((59 : Int) < (M : Int)) = false := by simp; omega
                    by_cases hx : 1099511627776 < N
                    · have j2 : (1099511627776 : Int) < (N : Int) := by omega
                      have HR := Lib.hid (hrng hSt (by rw [hRR]; exact decide_eq_false (by omega)))
                      clear hS hRR hNN hsyn hrng hgood hSt
                      rw [HR.out.1, HR.out.2]
                      go_enter Tryd.func32, Tryd.ntmps32
                      go_wp2_with (first
                        | (go_at_call 51; first
                            | ((with_reducible refine (hn1 _).mono ?_); rintro e w2 ⟨rfl, rfl⟩)
                            | ((with_reducible refine (hn2 _).mono ?_); rintro e w3 ⟨rfl, rfl⟩))
                        | (go_at_call 58; (with_reducible refine (hpl _).mono ?_); rintro e w4 ⟨rfl, rfl⟩)
                        | fail)
                      go_ret2
                      exact ⟨rfl, Below.refl _ _⟩
                    · have j2 : decide ((1099511627776 : Int) < (N : Int)) = false := by simp; omega
                      have HR := Lib.hid (hgood hSt (by rw [hRR]; exact decide_eq_true (by omega)))
                      clear hS hRR hNN hsyn hrng hgood hSt
                      rw [HR.out.1, HR.out.2]
                      go_enter Tryd.func32, Tryd.ntmps32
                      go_wp2_with (first
                        | (go_at_call 51; first
                            | ((with_reducible refine (hn1 _).mono ?_); rintro e w2 ⟨rfl, rfl⟩)
                            | ((with_reducible refine (hn2 _).mono ?_); rintro e w3 ⟨rfl, rfl⟩))
                        | (go_at_call 58; (with_reducible refine (hpl _).mono ?_); rintro e w4 ⟨rfl, rfl⟩)
                        | fail)
                      go_ret2
                      exact ⟨rfl, Below.refl _ _⟩
      · have HR := Lib.hid (hsyn (by rw [hS, hokp, decide_eq_false h58]; rfl))
        rw [HR.out.1, HR.out.2]
        have e4 : ((c : Int) == 58) = false := by simp; omega
        have e5 : ((c : Int) != 58) = true := by rw [bne, e4]; rfl
        have e6 : ¬ (c : Int) = 58 := by omega
        clear hS hRR hNN hokp hsyn hrng hgood
        go_enter Tryd.func32, Tryd.ntmps32
        go_wp2_with (first
          | fail)
        go_ret2
        exact ⟨rfl, Below.refl _ _⟩
  | false =>
    have e0 := cutB_false hg
    have hne : 0 < l.length → (bAt l 0).toNat ≠ 45 := by
      intro hp h45
      unfold cutB at hg
      rw [if_pos ⟨hp, h45⟩] at hg
      exact Bool.noConfusion hg
    rw [hg] at hS hgood
    rw [e0] at hS hR hN
    clear hcl e0
    by_cases hpos : 0 < l.length
    · have hgt := bget (l := l) (k := 0) hpos
      have h45 := hne hpos
      obtain ⟨c0, HC0⟩ : ∃ v, Hid ((bAt l 0).toNat = v) := ⟨_, rfl⟩
      rw [HC0.out] at h45
      have hgc0 : ∀ h, ((⟨l.toArray⟩ : ByteArray)[0]'h).toNat = c0 := fun h => by rw [hgt h]; exact HC0.out
      have m1 : ((c0 : Int) == 45) = false := by simp; omega
      have m2 : ¬ (c0 : Int) = 45 := by omega
      obtain ⟨p, Hp⟩ : ∃ v, v = l := ⟨_, rfl⟩
      subst Hp
      obtain ⟨P, HPL⟩ : ∃ v, Hid (p.length = v) := ⟨_, rfl⟩
      rw [HPL.out] at hl hsz hpos
      have j0 : (0 : Int) < (P : Int) := by omega
      clear hgt hne
      by_cases h4 : P < 4
      · have HR := Lib.hid (hsyn (by rw [hS]; unfold okP; rw [HPL.out, decide_eq_false (by omega)]; rfl))
        rw [HR.out.1, HR.out.2]
        have q1 : (P : Int) - 3 < 1 := by omega
        clear hS hR hN hsyn hrng hgood
        go_enter Tryd.func32, Tryd.ntmps32
        go_wp2_with (first
          | fail)
        go_ret2
        exact ⟨rfl, Below.refl _ _⟩
      · obtain ⟨k, hk⟩ : ∃ k, P = k + 3 := ⟨P - 3, by omega⟩
        subst hk
        have hk1 : 1 ≤ k := by omega
        have i1 : ((k + 3 : Nat) : Int) - 3 = (k : Int) := by omega
        have i2 : decide ((k : Int) < 1) = false := by simp; omega
        have i3 : (0 : Int) ≤ (k : Int) := by omega
        have i4 : (k : Int) < ((k + 3 : Nat) : Int) := by omega
        have i5 : (k : Int) ≤ ((k + 3 : Nat) : Int) := by omega
        have i6 : (k : Int) + 1 ≤ ((k + 3 : Nat) : Int) := by omega
        have i7 : ((k : Int) + 1).toNat = k + 1 := by omega
        have i8 : (0 : Int) ≤ (k : Int) + 1 := by omega
        have hgt := bget (l := p) (k := k) (by rw [HPL.out]; omega)
        obtain ⟨c, HC⟩ : ∃ v, Hid ((bAt p k).toNat = v) := ⟨_, rfl⟩
        have hgc : ∀ h, ((⟨p.toArray⟩ : ByteArray)[k]'h).toNat = c := fun h => by rw [hgt h]; exact HC.out
        clear hgt
        have hokp : okP p = (decide (c = 58) && (hoursB (p.take k) && (p.drop (k + 1)).all dgOk)) := by
          unfold okP duH duM
          rw [HPL.out, decide_eq_true (by omega), Bool.true_and, show k + 3 - 3 = k by omega, show k + 3 - 2 = k + 1 by omega, HC.out]
        have hNN : duN p = 60 * decN (p.take k) + decN (p.drop (k + 1)) := by
          rw [hN]; unfold duH duM
          rw [HPL.out, show k + 3 - 3 = k by omega, show k + 3 - 2 = k + 1 by omega]
        have hRR : duR p = decide (decN (p.drop (k + 1)) < 60 ∧ duN p ≤ 1099511627776) := by
          rw [hR]; unfold duM
          rw [HPL.out, show k + 3 - 2 = k + 1 by omega]
        clear hN hR
        by_cases h58 : c = 58
        · subst h58
          rw [decide_eq_true rfl, Bool.true_and] at hokp
          have x1 : (⟨p.toArray⟩ : ByteArray).extract 0 k = ⟨(p.take k).toArray⟩ := by rw [ext_take, List.drop_zero]
          have x2 : (⟨p.toArray⟩ : ByteArray).extract (k + 1) (k + 3) = ⟨(p.drop (k + 1)).toArray⟩ := by rw [ext_take, List.take_of_length_le (by rw [HPL.out]; omega)]
          have l1 : (p.take k).length = k := by rw [List.length_take, HPL.out]; omega
          have l2 : (p.drop (k + 1)).length = 2 := by rw [List.length_drop, HPL.out]; omega
          have hn1 := fun w => rDigits_any (p.take k) (by rw [l1]; omega) 1 11 (by omega) (by omega) w
          have hn2 := fun w => rDigits_any (p.drop (k + 1)) (by rw [l2]; omega) 2 2 (by omega) (by omega) w
          have hpl := rPlain_any (p.take k) (by rw [l1]; omega)
          simp only [Int.cast_ofNat_Int] at hn1 hn2
          unfold RetD at hn1 hn2
          rw [dig_of l2] at hn2
          have hho := hours_dig (l := p.take k) (by omega)
          rw [hho] at hokp
          have v1 := @digv1 (p.take k)
          have v2 := @digv_of (p.drop (k + 1)) 2 l2
          have b1 := @dig11 (p.take k)
          have b2 := fun h => @dec2 (p.drop (k + 1)) h l2
          obtain ⟨X, HX⟩ : ∃ v, Hid (p.take k = v) := ⟨_, rfl⟩
          obtain ⟨Y, HY⟩ : ∃ v, Hid (p.drop (k + 1) = v) := ⟨_, rfl⟩
          simp only [HX.out] at x1 hn1 hpl hokp v1 b1 hNN
          simp only [HY.out] at x2 hn2 hokp v2 b2 hNN hRR
          obtain ⟨a1, A1⟩ : ∃ v, Hid (digB X 1 11 = v) := ⟨_, rfl⟩
          obtain ⟨a2, A2⟩ : ∃ v, Hid (Y.all dgOk = v) := ⟨_, rfl⟩
          obtain ⟨a3, A3⟩ : ∃ v, Hid (plB X = v) := ⟨_, rfl⟩
          simp only [A1.out] at hn1 hokp v1 b1
          simp only [A2.out] at hn2 hokp v2 b2
          simp only [A3.out] at hpl hokp
          obtain ⟨Z1, HZ1⟩ : ∃ v, Hid (digV X 1 11 = v) := ⟨_, rfl⟩
          obtain ⟨Z2, HZ2⟩ : ∃ v, Hid (digV Y 2 2 = v) := ⟨_, rfl⟩
          simp only [HZ1.out] at hn1 v1
          simp only [HZ2.out] at hn2 v2
          clear l1 l2 hho
          cases a1 with
          | false =>
            have HR := Lib.hid (hsyn (by rw [hS, hokp]; rfl))
            clear hS hRR hNN hokp hsyn hrng hgood v1 v2 b1 b2
            rw [HR.out.1, HR.out.2]
            go_enter Tryd.func32, Tryd.ntmps32
            go_wp2_with (first
              | (go_at_call 51; first
                  | ((with_reducible refine (hn1 _).mono ?_); rintro e w2 ⟨rfl, rfl⟩)
                  | ((with_reducible refine (hn2 _).mono ?_); rintro e w3 ⟨rfl, rfl⟩))
              | (go_at_call 58; (with_reducible refine (hpl _).mono ?_); rintro e w4 ⟨rfl, rfl⟩)
              | fail)
            go_ret2
            exact ⟨rfl, Below.refl _ _⟩
          | true =>
            cases a2 with
            | false =>
              have HR := Lib.hid (hsyn (by rw [hS, hokp]; simp))
              clear hS hRR hNN hokp hsyn hrng hgood v1 v2 b1 b2
              rw [HR.out.1, HR.out.2]
              go_enter Tryd.func32, Tryd.ntmps32
              go_wp2_with (first
                | (go_at_call 51; first
                    | ((with_reducible refine (hn1 _).mono ?_); rintro e w2 ⟨rfl, rfl⟩)
                    | ((with_reducible refine (hn2 _).mono ?_); rintro e w3 ⟨rfl, rfl⟩))
                | (go_at_call 58; (with_reducible refine (hpl _).mono ?_); rintro e w4 ⟨rfl, rfl⟩)
                | fail)
              go_ret2
              exact ⟨rfl, Below.refl _ _⟩
            | true =>
              cases a3 with
              | false =>
                have HR := Lib.hid (hsyn (by rw [hS, hokp]; rfl))
                clear hS hRR hNN hokp hsyn hrng hgood v1 v2 b1 b2
                rw [HR.out.1, HR.out.2]
                go_enter Tryd.func32, Tryd.ntmps32
                go_wp2_with (first
                  | (go_at_call 51; first
                      | ((with_reducible refine (hn1 _).mono ?_); rintro e w2 ⟨rfl, rfl⟩)
                      | ((with_reducible refine (hn2 _).mono ?_); rintro e w3 ⟨rfl, rfl⟩))
                  | (go_at_call 58; (with_reducible refine (hpl _).mono ?_); rintro e w4 ⟨rfl, rfl⟩)
                  | fail)
                go_ret2
                exact ⟨rfl, Below.refl _ _⟩
              | true =>
                obtain rfl := v1 rfl
                obtain rfl := v2 rfl
                have b1' := b1 rfl
                have b2' := b2 rfl
                have hokp2 : okP p = true := hokp
                rw [hokp2, Bool.true_and] at hS
                obtain ⟨H, HH⟩ : ∃ v, Hid (decN X = v) := ⟨_, rfl⟩
                obtain ⟨M, HM⟩ : ∃ v, Hid (decN Y = v) := ⟨_, rfl⟩
                simp only [HH.out] at hn1 hNN b1'
                simp only [HM.out] at hn2 hNN b2' hRR
                obtain ⟨N, HN⟩ : ∃ v, Hid (duN p = v) := ⟨_, rfl⟩
                simp only [HN.out] at hNN hS hRR hgood
                have hi : 60 * (H : Int) + (M : Int) = (N : Int) := by omega
                have s1 : IntKind.i64.wrap (60 * (H : Int)) = 60 * (H : Int) := IntWalk.i64_in _ (by omega)
                have s2 : IntKind.i64.wrap (60 * (H : Int) + (M : Int)) = (N : Int) := by rw [hi]; exact IntWalk.i64_in _ (by omega)
                have nb : N < 7000000000000 := by omega
                clear hokp hokp2 v1 v2 b1 b2
                have hSt : duS p = true := by rw [hS]; rfl
                by_cases hm : 60 ≤ M
                · have j1 : (59 : Int) < (M : Int) := by omega
                  have HR := Lib.hid (hrng hSt (by rw [hRR]; exact decide_eq_false (by omega)))
                  clear hS hRR hNN hsyn hrng hgood hSt
                  rw [HR.out.1, HR.out.2]
                  go_enter Tryd.func32, Tryd.ntmps32
                  go_wp2_with (first
                    | (go_at_call 51; first
                        | ((with_reducible refine (hn1 _).mono ?_); rintro e w2 ⟨rfl, rfl⟩)
                        | ((with_reducible refine (hn2 _).mono ?_); rintro e w3 ⟨rfl, rfl⟩))
                    | (go_at_call 58; (with_reducible refine (hpl _).mono ?_); rintro e w4 ⟨rfl, rfl⟩)
                    | fail)
                  go_ret2
                  exact ⟨rfl, Below.refl _ _⟩
                · have j1 : decide ((59 : Int) < (M : Int)) = false := by simp; omega
                  by_cases hx : 1099511627776 < N
                  · have j2 : (1099511627776 : Int) < (N : Int) := by omega
                    have HR := Lib.hid (hrng hSt (by rw [hRR]; exact decide_eq_false (by omega)))
                    clear hS hRR hNN hsyn hrng hgood hSt
                    rw [HR.out.1, HR.out.2]
                    go_enter Tryd.func32, Tryd.ntmps32
                    go_wp2_with (first
                      | (go_at_call 51; first
                          | ((with_reducible refine (hn1 _).mono ?_); rintro e w2 ⟨rfl, rfl⟩)
                          | ((with_reducible refine (hn2 _).mono ?_); rintro e w3 ⟨rfl, rfl⟩))
                      | (go_at_call 58; (with_reducible refine (hpl _).mono ?_); rintro e w4 ⟨rfl, rfl⟩)
                      | fail)
                    go_ret2
                    exact ⟨rfl, Below.refl _ _⟩
                  · have j2 : decide ((1099511627776 : Int) < (N : Int)) = false := by simp; omega
                    have HR := Lib.hid (hgood hSt (by rw [hRR]; exact decide_eq_true (by omega)))
                    clear hS hRR hNN hsyn hrng hgood hSt
                    rw [HR.out.1, HR.out.2]
                    go_enter Tryd.func32, Tryd.ntmps32
                    go_wp2_with (first
                      | (go_at_call 51; first
                          | ((with_reducible refine (hn1 _).mono ?_); rintro e w2 ⟨rfl, rfl⟩)
                          | ((with_reducible refine (hn2 _).mono ?_); rintro e w3 ⟨rfl, rfl⟩))
                      | (go_at_call 58; (with_reducible refine (hpl _).mono ?_); rintro e w4 ⟨rfl, rfl⟩)
                      | fail)
                    go_ret2
                    exact ⟨rfl, Below.refl _ _⟩
        · have HR := Lib.hid (hsyn (by rw [hS, hokp, decide_eq_false h58]; rfl))
          rw [HR.out.1, HR.out.2]
          have e4 : ((c : Int) == 58) = false := by simp; omega
          have e5 : ((c : Int) != 58) = true := by rw [bne, e4]; rfl
          have e6 : ¬ (c : Int) = 58 := by omega
          clear hS hRR hNN hokp hsyn hrng hgood
          go_enter Tryd.func32, Tryd.ntmps32
          go_wp2_with (first
            | fail)
          go_ret2
          exact ⟨rfl, Below.refl _ _⟩
    · have hnil : l = [] := List.eq_nil_of_length_eq_zero (by omega)
      subst hnil
      have HR := Lib.hid (hsyn (by rw [hS]; rfl))
      rw [HR.out.1, HR.out.2]
      clear hS hR hN hsyn hrng hgood hne hg hsz
      go_enter Tryd.func32, Tryd.ntmps32
      go_wp2_with fail
      go_ret2
      exact ⟨rfl, Below.refl _ _⟩
end Go.Proofs.YtpcagheghmbjfaaDoor

