/-
  Calendar: reading durations, by the program.
-/
import Derived.Test.YtpcagheghmbjfaaDoorCcC
import Derived.Lib.IndexLaws
set_option linter.unusedVariables false
set_option linter.unusedSimpArgs false
namespace Go.Proofs.YtpcagheghmbjfaaDoor
open Go.RowKit

theorem idx_get {l : List UInt8} {i : Nat} (h : idx l 58 = (i : Int)) : i < l.length ∧ (bAt l i).toNat = 58 := by
  obtain ⟨h1, _⟩ := Lib.indexByte_some (l := l) (c := 58) (o := i) h
  obtain ⟨h3, h4⟩ := List.getElem?_eq_some_iff.1 h1
  refine ⟨h3, ?_⟩
  rw [bAt_get h3, h4]; rfl
theorem idx_is {l : List UInt8} {n : Nat} (hn : n < l.length) (h : (bAt l n).toNat = 58) (hno : ∀ k, k < n → (bAt l k).toNat ≠ 58) : idx l 58 = (n : Int) := by
  have hlo := idx_lo l 58
  have hx : l[n]? = some 58 := by
    rw [List.getElem?_eq_getElem hn, ← bAt_get hn]; congr 1; exact u8_ex h
  by_cases hm : idx l 58 = -1
  · exact absurd hx (Lib.indexByte_none hm n)
  · obtain ⟨o, ho⟩ : ∃ o : Nat, idx l 58 = (o : Int) := ⟨(idx l 58).toNat, by omega⟩
    obtain ⟨_, h2⟩ := Lib.indexByte_some (l := l) (c := 58) (o := o) ho
    obtain ⟨g1, g2⟩ := idx_get ho
    rcases Nat.lt_trichotomy o n with h1 | h1 | h1
    · exact absurd g2 (hno o h1)
    · rw [ho, h1]
    · exact absurd hx (h2 n h1)
theorem ct1_len (p : List UInt8) : (ct1 p).length ≤ p.length := by
  unfold ct1
  by_cases h : 0 ≤ idx p 58
  · rw [if_pos h, List.length_take]; omega
  · rw [if_neg h]; exact Nat.le_refl _
theorem ct2_len (p : List UInt8) : (ct2 p).length ≤ p.length := by
  unfold ct2
  by_cases h : 0 ≤ idx p 58
  · rw [if_pos h, List.length_drop]; omega
  · rw [if_neg h]; exact Nat.zero_le _
/-- What a text denotes as a duration, behind its sign. -/
def duH (p : List UInt8) : List UInt8 := p.take (p.length - 3)
def duM (p : List UInt8) : List UInt8 := p.drop (p.length - 2)
def okP (p : List UInt8) : Bool := decide (4 ≤ p.length) && (decide ((bAt p (p.length - 3)).toNat = 58) && (hoursB (duH p) && (duM p).all dgOk))
theorem form00 (m : List UInt8) : formB m [48, 48] = (decide (m.length = 2) && m.all dgOk) := by
  by_cases h : m.length = 2
  · obtain ⟨a, b, rfl⟩ := list2 h
    show (decide (2 = 2) && (fmOk a 48 && (fmOk b 48 && true))) = (decide (2 = 2) && (dgOk a && (dgOk b && true)))
    rfl
  · have h2 : ¬ m.length = ([48, 48] : List UInt8).length := h
    unfold formB
    rw [decide_eq_false h, decide_eq_false h2]; rfl
theorem hours_and {h : List UInt8} (hh : hoursB h = true) : 1 ≤ h.length ∧ h.length ≤ 11 ∧ h.all dgOk = true := by
  unfold hoursB at hh
  simp only [Bool.and_eq_true, decide_eq_true_eq] at hh
  exact ⟨hh.1.1.1, hh.1.1.2, hh.1.2⟩
theorem cut_ok (p : List UInt8) : ((ctF p && (hoursB (ct1 p) && formB (ct2 p) [48, 48])) = okP p) ∧ (okP p = true → ct1 p = duH p ∧ ct2 p = duM p) := by
  have key : okP p = true → idx p 58 = ((p.length - 3 : Nat) : Int) := by
    intro h
    unfold okP at h
    simp only [Bool.and_eq_true, decide_eq_true_eq] at h
    obtain ⟨h1, h2, h3, h4⟩ := h
    refine idx_is (by omega) h2 (fun k hk => ?_)
    have ha := (hours_and h3).2.2
    have hd := dg_at ha (k := k) (by unfold duH; rw [List.length_take]; omega)
    have : bAt (duH p) k = bAt p k := bAt_take (by omega)
    rw [this] at hd
    omega
  have hcut : okP p = true → ct1 p = duH p ∧ ct2 p = duM p := by
    intro h
    have hk := key h
    unfold okP at h
    simp only [Bool.and_eq_true, decide_eq_true_eq] at h
    unfold ct1 ct2 duH duM
    rw [hk, if_pos (by omega), if_pos (by omega), Int.toNat_natCast]
    exact ⟨rfl, by congr 1; omega⟩
  refine ⟨?_, hcut⟩
  cases hb : okP p with
  | true =>
    have hk := key hb
    obtain ⟨e1, e2⟩ := hcut hb
    rw [e1, e2, form00]
    unfold okP at hb
    simp only [Bool.and_eq_true, decide_eq_true_eq] at hb
    obtain ⟨h1, h2, h3, h4⟩ := hb
    have hl : (duM p).length = 2 := by unfold duM; rw [List.length_drop]; omega
    rw [h3, h4, decide_eq_true hl]
    unfold ctF
    rw [hk, decide_eq_true (by omega)]; rfl
  | false =>
    rw [Bool.eq_false_iff]
    intro hc
    simp only [Bool.and_eq_true] at hc
    obtain ⟨c1, c2, c3⟩ := hc
    have h0 : 0 ≤ idx p 58 := by unfold ctF at c1; simpa using c1
    obtain ⟨i, hi⟩ : ∃ i : Nat, idx p 58 = (i : Int) := ⟨(idx p 58).toNat, by omega⟩
    obtain ⟨g1, g2⟩ := idx_get hi
    have e1 : ct1 p = p.take i := by unfold ct1; rw [hi, if_pos (by omega), Int.toNat_natCast]
    have e2 : ct2 p = p.drop (i + 1) := by unfold ct2; rw [hi, if_pos (by omega), Int.toNat_natCast]
    rw [e1] at c2
    rw [e2, form00] at c3
    simp only [Bool.and_eq_true, decide_eq_true_eq] at c3
    obtain ⟨c3, c4⟩ := c3
    rw [List.length_drop] at c3
    have hl := (hours_and c2).1
    rw [List.length_take] at hl
    have hp3 : p.length - 3 = i := by omega
    have : okP p = true := by
      unfold okP duH duM
      rw [hp3, g2, c2, show p.length - 2 = i + 1 by omega, c4, decide_eq_true (by omega)]; rfl
    rw [hb] at this
    exact Bool.noConfusion this
def duN (l : List UInt8) : Nat := 60 * decN (duH (cutB l).1) + decN (duM (cutB l).1)
def duS (l : List UInt8) : Bool := okP (cutB l).1 && !((cutB l).2 && decide (duN l = 0))
def duR (l : List UInt8) : Bool := decide (decN (duM (cutB l).1) < 60 ∧ duN l ≤ 1099511627776)
def duE (l : List UInt8) : Int := if duS l = true then (if duR l = true then 0 else 5) else 1
def duV (l : List UInt8) : Int := if duS l = true then (if duR l = true then (if (cutB l).2 = true then -(duN l : Int) else (duN l : Int)) else 0) else 0
theorem du_syn {l : List UInt8} (h : duS l = false) : duV l = 0 ∧ duE l = 1 := by unfold duV duE; rw [h]; exact ⟨rfl, rfl⟩
theorem du_rng {l : List UInt8} (h : duS l = true) (h2 : duR l = false) : duV l = 0 ∧ duE l = 5 := by unfold duV duE; rw [h, h2]; exact ⟨rfl, rfl⟩
theorem du_good {l : List UInt8} (h : duS l = true) (h2 : duR l = true) : duV l = (if (cutB l).2 = true then -(duN l : Int) else (duN l : Int)) ∧ duE l = 0 := by unfold duV duE; rw [h, h2]; exact ⟨rfl, rfl⟩
theorem dec11 {l : List UInt8} (h : l.all dgOk = true) (hl : l.length ≤ 11) : decN l < 100000000000 := by
  have h1 := decN_lt h
  have h2 := pow_le10 (n := 11) hl
  omega
set_option maxHeartbeats 4000000 in
set_option maxRecDepth 100000 in
theorem parseDuration_any (l : List UInt8) (hl : l.length ≤ 9223372036854775807) (w : World) : Calls Tryd.prog 31 #[.string ⟨l.toArray⟩] w (RetNE w (duV l) (duE l)) := by
  have hcp := cutP_any l hl w
  have hcl := cutB_len l
  have hct := cutS_any (cutB l).1 (by omega)
  have hh := isHours_any (ct1 (cutB l).1) (by have := ct1_len (cutB l).1; omega)
  have hf : ∀ w, Calls Tryd.prog 49 #[.string ⟨(ct2 (cutB l).1).toArray⟩, .string ⟨#[48, 48]⟩] w (RetB1 w (formB (ct2 (cutB l).1) [48, 48])) := fun w => hasForm_any (ct2 (cutB l).1) [48, 48] (by have := ct2_len (cutB l).1; omega) (by decide) w
  obtain ⟨hok, hcut⟩ := cut_ok (cutB l).1
  have hS : duS l = (okP (cutB l).1 && !((cutB l).2 && decide (duN l = 0))) := rfl
  have hR : duR l = decide (decN (duM (cutB l).1) < 60 ∧ duN l ≤ 1099511627776) := rfl
  have hN : duN l = 60 * decN (duH (cutB l).1) + decN (duM (cutB l).1) := rfl
  have hsyn := @du_syn l
  have hrng := @du_rng l
  have hgood := @du_good l
  unfold RetC2 at hcp
  obtain ⟨p, Hp⟩ : ∃ v, Hid ((cutB l).1 = v) := ⟨_, rfl⟩
  obtain ⟨g, Hg⟩ : ∃ v, Hid ((cutB l).2 = v) := ⟨_, rfl⟩
  rw [Hg.out] at hcp hS hgood
  rw [Hp.out] at hcp hct hh hf hok hcut hS hR hN
  obtain ⟨X, HX⟩ : ∃ v, Hid (ct1 p = v) := ⟨_, rfl⟩
  obtain ⟨Y, HY⟩ : ∃ v, Hid (ct2 p = v) := ⟨_, rfl⟩
  obtain ⟨f, HF⟩ : ∃ v, Hid (ctF p = v) := ⟨_, rfl⟩
  simp only [HX.out, HY.out, HF.out] at hct hh hf hok hcut
  cases f with
  | false =>
    rw [Bool.false_and] at hok
    have HR := Lib.hid (hsyn (by rw [hS, ← hok]; rfl))
    rw [HR.out.1, HR.out.2]
    clear hok hcut hS hR hN hsyn hrng hgood hh hf hcl
    go_enter Tryd.func31, Tryd.ntmps31
    go_wp2_with (first
      | (go_at_call 55; (with_reducible refine hcp.mono ?_); rintro e w1 ⟨rfl, g1⟩)
      | (go_at_call 56; (with_reducible refine (hct _).mono ?_); rintro e w2 ⟨rfl, g2⟩; have B2 := Lib.hid (ccallT g1 g2))
      | fail)
    go_ret2
    exact ⟨rfl, B2.out⟩
  | true =>
    rw [Bool.true_and] at hok
    cases hhb : hoursB X with
    | false =>
      rw [hhb, Bool.false_and] at hok
      rw [hhb] at hh
      have HR := Lib.hid (hsyn (by rw [hS, ← hok]; rfl))
      rw [HR.out.1, HR.out.2]
      clear hok hcut hS hR hN hsyn hrng hgood hf hcl hhb
      go_enter Tryd.func31, Tryd.ntmps31
      go_wp2_with (first
        | (go_at_call 55; (with_reducible refine hcp.mono ?_); rintro e w1 ⟨rfl, g1⟩)
        | (go_at_call 56; (with_reducible refine (hct _).mono ?_); rintro e w2 ⟨rfl, g2⟩; have B2 := Lib.hid (ccallT g1 g2))
        | (go_at_call 57; (with_reducible refine (hh _).mono ?_); rintro e w3 ⟨rfl, g3⟩; have B3 := Lib.hid (ccall2 B2.out g3 B2.out.size))
        | fail)
      go_ret2
      exact ⟨rfl, B3.out⟩
    | true =>
      rw [hhb, Bool.true_and] at hok
      rw [hhb] at hh
      cases hfb : formB Y [48, 48] with
      | false =>
        rw [hfb] at hok hf
        have HR := Lib.hid (hsyn (by rw [hS, ← hok]; rfl))
        rw [HR.out.1, HR.out.2]
        clear hok hcut hS hR hN hsyn hrng hgood hcl hhb hfb
        go_enter Tryd.func31, Tryd.ntmps31
        go_wp2_with (first
          | (go_at_call 55; (with_reducible refine hcp.mono ?_); rintro e w1 ⟨rfl, g1⟩)
          | (go_at_call 56; (with_reducible refine (hct _).mono ?_); rintro e w2 ⟨rfl, g2⟩; have B2 := Lib.hid (ccallT g1 g2))
          | (go_at_call 57; (with_reducible refine (hh _).mono ?_); rintro e w3 ⟨rfl, g3⟩; have B3 := Lib.hid (ccall2 B2.out g3 B2.out.size))
          | (go_at_call 49; (with_reducible refine (hf _).mono ?_); rintro e w4 ⟨rfl, g4⟩; have B4 := Lib.hid (ccall2 B3.out g4 B3.out.size))
          | fail)
        go_ret2
        exact ⟨rfl, B4.out⟩
      | true =>
        rw [hfb] at hok hf
        obtain ⟨e1, e2⟩ := hcut hok.symm
        rw [← e1, ← e2] at hN
        rw [← e2] at hR
        rw [← hok, Bool.true_and] at hS
        obtain ⟨h1, h2, h3⟩ := hours_and hhb
        have hfb2 := hfb
        rw [form00] at hfb2
        simp only [Bool.and_eq_true, decide_eq_true_eq] at hfb2
        obtain ⟨h4, h5⟩ := hfb2
        have hn1 := numberOf_any X h3 (by omega)
        have hn2 := numberOf_any Y h5 (by omega)
        have b1 := dec11 h3 h2
        have b2 := dec2 h5 h4
        obtain ⟨H, HH⟩ : ∃ v, Hid (decN X = v) := ⟨_, rfl⟩
        obtain ⟨M, HM⟩ : ∃ v, Hid (decN Y = v) := ⟨_, rfl⟩
        rw [HH.out] at hn1 hN b1
        rw [HM.out] at hn2 hN b2 hR
        obtain ⟨N, HN⟩ : ∃ v, Hid (duN l = v) := ⟨_, rfl⟩
        rw [HN.out] at hN hS hR hgood
        have hi : (H : Int) * 60 + (M : Int) = (N : Int) := by omega
        have s1 : IntKind.i64.wrap ((H : Int) * 60) = (H : Int) * 60 := IntWalk.i64_in _ (by omega)
        have s2 : IntKind.i64.wrap ((H : Int) * 60 + (M : Int)) = (N : Int) := by rw [hi]; exact IntWalk.i64_in _ (by omega)
        have nb : N < 7000000000000 := by omega
        clear hok hcut hcl hhb hfb h1 h2 h3 h4 h5 e1 e2 hN
        by_cases hz : g = true ∧ N = 0
        · obtain ⟨rfl, rfl⟩ := hz
          have HR := Lib.hid (hsyn (by rw [hS]; rfl))
          rw [HR.out.1, HR.out.2]
          clear hS hR hsyn hrng hgood
          go_enter Tryd.func31, Tryd.ntmps31
          go_wp2_with (first
            | (go_at_call 55; (with_reducible refine hcp.mono ?_); rintro e w1 ⟨rfl, g1⟩)
            | (go_at_call 56; (with_reducible refine (hct _).mono ?_); rintro e w2 ⟨rfl, g2⟩; have B2 := Lib.hid (ccallT g1 g2))
            | (go_at_call 57; (with_reducible refine (hh _).mono ?_); rintro e w3 ⟨rfl, g3⟩; have B3 := Lib.hid (ccall2 B2.out g3 B2.out.size))
            | (go_at_call 49; (with_reducible refine (hf _).mono ?_); rintro e w4 ⟨rfl, g4⟩; have B4 := Lib.hid (ccall2 B3.out g4 B3.out.size))
            | (go_at_call 50; first
                | ((with_reducible refine (hn1 _).mono ?_); rintro e w5 ⟨rfl, T5, rfl⟩)
                | ((with_reducible refine (hn2 _).mono ?_); rintro e w6 ⟨rfl, T6, rfl⟩))
            | fail)
          go_ret2
          exact ⟨rfl, by repeat (first | exact B4.out | apply Below.drew | refine Below.alloc ?_ (by first | exact B4.out.size | (simp; have := B4.out.size; omega)) _)⟩
        · have hSt : duS l = true := by
            rw [hS]
            cases g with
            | false => rfl
            | true => rw [decide_eq_false (fun h => hz ⟨rfl, h⟩)]; rfl
          have hgd : g = true → ((N : Int) == 0) = false := by
            rintro rfl
            simp
            intro h; exact hz ⟨rfl, by omega⟩
          have hgd2 : g = true → ¬ (N : Int) = 0 := fun hg h => hz ⟨hg, by omega⟩
          by_cases hm : 60 ≤ M
          · have j1 : (60 : Int) ≤ (M : Int) := by omega
            have HR := Lib.hid (hrng hSt (by rw [hR]; exact decide_eq_false (by omega)))
            rw [HR.out.1, HR.out.2]
            clear hS hR hsyn hrng hgood hSt hz
            cases g with
            | false =>
              go_enter Tryd.func31, Tryd.ntmps31
              go_wp2_with (first
                | (go_at_call 55; (with_reducible refine hcp.mono ?_); rintro e w1 ⟨rfl, g1⟩)
                | (go_at_call 56; (with_reducible refine (hct _).mono ?_); rintro e w2 ⟨rfl, g2⟩; have B2 := Lib.hid (ccallT g1 g2))
                | (go_at_call 57; (with_reducible refine (hh _).mono ?_); rintro e w3 ⟨rfl, g3⟩; have B3 := Lib.hid (ccall2 B2.out g3 B2.out.size))
                | (go_at_call 49; (with_reducible refine (hf _).mono ?_); rintro e w4 ⟨rfl, g4⟩; have B4 := Lib.hid (ccall2 B3.out g4 B3.out.size))
                | (go_at_call 50; first
                    | ((with_reducible refine (hn1 _).mono ?_); rintro e w5 ⟨rfl, T5, rfl⟩)
                    | ((with_reducible refine (hn2 _).mono ?_); rintro e w6 ⟨rfl, T6, rfl⟩))
                | fail)
              go_ret2
              exact ⟨rfl, by repeat (first | exact B4.out | apply Below.drew | refine Below.alloc ?_ (by first | exact B4.out.size | (simp; have := B4.out.size; omega)) _)⟩
            | true =>
              have k1 := hgd rfl
              have k2 := hgd2 rfl
              go_enter Tryd.func31, Tryd.ntmps31
              go_wp2_with (first
                | (go_at_call 55; (with_reducible refine hcp.mono ?_); rintro e w1 ⟨rfl, g1⟩)
                | (go_at_call 56; (with_reducible refine (hct _).mono ?_); rintro e w2 ⟨rfl, g2⟩; have B2 := Lib.hid (ccallT g1 g2))
                | (go_at_call 57; (with_reducible refine (hh _).mono ?_); rintro e w3 ⟨rfl, g3⟩; have B3 := Lib.hid (ccall2 B2.out g3 B2.out.size))
                | (go_at_call 49; (with_reducible refine (hf _).mono ?_); rintro e w4 ⟨rfl, g4⟩; have B4 := Lib.hid (ccall2 B3.out g4 B3.out.size))
                | (go_at_call 50; first
                    | ((with_reducible refine (hn1 _).mono ?_); rintro e w5 ⟨rfl, T5, rfl⟩)
                    | ((with_reducible refine (hn2 _).mono ?_); rintro e w6 ⟨rfl, T6, rfl⟩))
                | fail)
              go_ret2
              exact ⟨rfl, by repeat (first | exact B4.out | apply Below.drew | refine Below.alloc ?_ (by first | exact B4.out.size | (simp; have := B4.out.size; omega)) _)⟩
          · have j1 : decide ((60 : Int) ≤ (M : Int)) = false := by simp; omega
            by_cases hx : 1099511627776 < N
            · have j2 : (1099511627776 : Int) < (N : Int) := by omega
              have HR := Lib.hid (hrng hSt (by rw [hR]; exact decide_eq_false (by omega)))
              rw [HR.out.1, HR.out.2]
              clear hS hR hsyn hrng hgood hSt hz
              cases g with
              | false =>
                go_enter Tryd.func31, Tryd.ntmps31
                go_wp2_with (first
                  | (go_at_call 55; (with_reducible refine hcp.mono ?_); rintro e w1 ⟨rfl, g1⟩)
                  | (go_at_call 56; (with_reducible refine (hct _).mono ?_); rintro e w2 ⟨rfl, g2⟩; have B2 := Lib.hid (ccallT g1 g2))
                  | (go_at_call 57; (with_reducible refine (hh _).mono ?_); rintro e w3 ⟨rfl, g3⟩; have B3 := Lib.hid (ccall2 B2.out g3 B2.out.size))
                  | (go_at_call 49; (with_reducible refine (hf _).mono ?_); rintro e w4 ⟨rfl, g4⟩; have B4 := Lib.hid (ccall2 B3.out g4 B3.out.size))
                  | (go_at_call 50; first
                      | ((with_reducible refine (hn1 _).mono ?_); rintro e w5 ⟨rfl, T5, rfl⟩)
                      | ((with_reducible refine (hn2 _).mono ?_); rintro e w6 ⟨rfl, T6, rfl⟩))
                  | fail)
                go_ret2
                exact ⟨rfl, by repeat (first | exact B4.out | apply Below.drew | refine Below.alloc ?_ (by first | exact B4.out.size | (simp; have := B4.out.size; omega)) _)⟩
              | true =>
                have k1 := hgd rfl
                have k2 := hgd2 rfl
                go_enter Tryd.func31, Tryd.ntmps31
                go_wp2_with (first
                  | (go_at_call 55; (with_reducible refine hcp.mono ?_); rintro e w1 ⟨rfl, g1⟩)
                  | (go_at_call 56; (with_reducible refine (hct _).mono ?_); rintro e w2 ⟨rfl, g2⟩; have B2 := Lib.hid (ccallT g1 g2))
                  | (go_at_call 57; (with_reducible refine (hh _).mono ?_); rintro e w3 ⟨rfl, g3⟩; have B3 := Lib.hid (ccall2 B2.out g3 B2.out.size))
                  | (go_at_call 49; (with_reducible refine (hf _).mono ?_); rintro e w4 ⟨rfl, g4⟩; have B4 := Lib.hid (ccall2 B3.out g4 B3.out.size))
                  | (go_at_call 50; first
                      | ((with_reducible refine (hn1 _).mono ?_); rintro e w5 ⟨rfl, T5, rfl⟩)
                      | ((with_reducible refine (hn2 _).mono ?_); rintro e w6 ⟨rfl, T6, rfl⟩))
                  | fail)
                go_ret2
                exact ⟨rfl, by repeat (first | exact B4.out | apply Below.drew | refine Below.alloc ?_ (by first | exact B4.out.size | (simp; have := B4.out.size; omega)) _)⟩
            · have j2 : decide ((1099511627776 : Int) < (N : Int)) = false := by simp; omega
              have HR := Lib.hid (hgood hSt (by rw [hR]; exact decide_eq_true (by omega)))
              rw [HR.out.1, HR.out.2]
              clear hS hR hsyn hrng hgood hSt hz
              cases g with
              | false =>
                go_enter Tryd.func31, Tryd.ntmps31
                go_wp2_with (first
                  | (go_at_call 55; (with_reducible refine hcp.mono ?_); rintro e w1 ⟨rfl, g1⟩)
                  | (go_at_call 56; (with_reducible refine (hct _).mono ?_); rintro e w2 ⟨rfl, g2⟩; have B2 := Lib.hid (ccallT g1 g2))
                  | (go_at_call 57; (with_reducible refine (hh _).mono ?_); rintro e w3 ⟨rfl, g3⟩; have B3 := Lib.hid (ccall2 B2.out g3 B2.out.size))
                  | (go_at_call 49; (with_reducible refine (hf _).mono ?_); rintro e w4 ⟨rfl, g4⟩; have B4 := Lib.hid (ccall2 B3.out g4 B3.out.size))
                  | (go_at_call 50; first
                      | ((with_reducible refine (hn1 _).mono ?_); rintro e w5 ⟨rfl, T5, rfl⟩)
                      | ((with_reducible refine (hn2 _).mono ?_); rintro e w6 ⟨rfl, T6, rfl⟩))
                  | fail)
                go_ret2
                exact ⟨rfl, by repeat (first | exact B4.out | apply Below.drew | refine Below.alloc ?_ (by first | exact B4.out.size | (simp; have := B4.out.size; omega)) _)⟩
              | true =>
                have k1 := hgd rfl
                have k2 := hgd2 rfl
                go_enter Tryd.func31, Tryd.ntmps31
                go_wp2_with (first
                  | (go_at_call 55; (with_reducible refine hcp.mono ?_); rintro e w1 ⟨rfl, g1⟩)
                  | (go_at_call 56; (with_reducible refine (hct _).mono ?_); rintro e w2 ⟨rfl, g2⟩; have B2 := Lib.hid (ccallT g1 g2))
                  | (go_at_call 57; (with_reducible refine (hh _).mono ?_); rintro e w3 ⟨rfl, g3⟩; have B3 := Lib.hid (ccall2 B2.out g3 B2.out.size))
                  | (go_at_call 49; (with_reducible refine (hf _).mono ?_); rintro e w4 ⟨rfl, g4⟩; have B4 := Lib.hid (ccall2 B3.out g4 B3.out.size))
                  | (go_at_call 50; first
                      | ((with_reducible refine (hn1 _).mono ?_); rintro e w5 ⟨rfl, T5, rfl⟩)
                      | ((with_reducible refine (hn2 _).mono ?_); rintro e w6 ⟨rfl, T6, rfl⟩))
                  | fail)
                go_ret2
                exact ⟨rfl, by repeat (first | exact B4.out | apply Below.drew | refine Below.alloc ?_ (by first | exact B4.out.size | (simp; have := B4.out.size; omega)) _)⟩
end Go.Proofs.YtpcagheghmbjfaaDoor

