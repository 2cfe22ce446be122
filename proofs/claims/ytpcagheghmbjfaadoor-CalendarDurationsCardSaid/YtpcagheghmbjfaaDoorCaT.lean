/-
  Calendar: reading dates and clock times, on both sides.
-/
import Derived.Test.YtpcagheghmbjfaaDoorCaS
set_option linter.unusedVariables false
set_option linter.unusedSimpArgs false
namespace Go.Proofs.YtpcagheghmbjfaaDoor
open Go.RowKit

def dateF : List UInt8 := [48, 48, 48, 48, 45, 48, 48, 45, 48, 48]
def clockF : List UInt8 := [48, 48, 58, 48, 48]
theorem list5 {l : List UInt8} (h : l.length = 5) : ∃ a b c d e, l = [a, b, c, d, e] := by
  match l, h with
  | [a, b, c, d, e], _ => exact ⟨a, b, c, d, e, rfl⟩
theorem list10 {l : List UInt8} (h : l.length = 10) : ∃ a b c d e f g i j k, l = [a, b, c, d, e, f, g, i, j, k] := by
  match l, h with
  | [a, b, c, d, e, f, g, i, j, k], _ => exact ⟨a, b, c, d, e, f, g, i, j, k, rfl⟩
theorem form_len {l f : List UInt8} (h : formB l f = true) : l.length = f.length := by
  unfold formB at h
  simp only [Bool.and_eq_true, decide_eq_true_eq] at h
  exact h.1
theorem form_clock {l : List UInt8} (h : formB l clockF = true) : l.length = 5 ∧ (bAt l 2).toNat = 58 ∧ (l.take 2).all dgOk = true ∧ (l.drop 3).all dgOk = true := by
  have hl := form_len h
  obtain ⟨a, b, c, d, e, rfl⟩ := list5 hl
  have h2 : (fmOk a 48 && (fmOk b 48 && (fmOk c 58 && (fmOk d 48 && (fmOk e 48 && true))))) = true := by
    have := h
    unfold formB at this
    simp only [Bool.and_eq_true] at this
    exact this.2
  simp only [Bool.and_eq_true, Bool.and_true] at h2
  obtain ⟨ha, hb, hc, hd, he⟩ := h2
  have hc2 : c.toNat = 58 := by simpa [fmOk] using hc
  refine ⟨rfl, hc2, ?_, ?_⟩
  · show (dgOk a && (dgOk b && true)) = true
    rw [show dgOk a = true from ha, show dgOk b = true from hb]; rfl
  · show (dgOk d && (dgOk e && true)) = true
    rw [show dgOk d = true from hd, show dgOk e = true from he]; rfl
theorem clock_form {l : List UInt8} (hl : l.length = 5) (hc : (bAt l 2).toNat = 58) (h1 : (l.take 2).all dgOk = true) (h2 : (l.drop 3).all dgOk = true) : formB l clockF = true := by
  obtain ⟨a, b, c, d, e, rfl⟩ := list5 hl
  have g1 : (dgOk a && (dgOk b && true)) = true := h1
  have g2 : (dgOk d && (dgOk e && true)) = true := h2
  simp only [Bool.and_eq_true, Bool.and_true] at g1 g2
  have hc3 : fmOk c 58 = true := by
    have : c.toNat = 58 := hc
    simp [fmOk, this]
  show (decide (5 = 5) && (fmOk a 48 && (fmOk b 48 && (fmOk c 58 && (fmOk d 48 && (fmOk e 48 && true)))))) = true
  rw [show fmOk a 48 = true from g1.1, show fmOk b 48 = true from g1.2, hc3, show fmOk d 48 = true from g2.1, show fmOk e 48 = true from g2.2]; rfl
theorem form_date {l : List UInt8} (h : formB l dateF = true) : l.length = 10 ∧ (bAt l 4).toNat = 45 ∧ (bAt l 7).toNat = 45 ∧ (l.take 4).all dgOk = true ∧ ((l.take 7).drop 5).all dgOk = true ∧ (l.drop 8).all dgOk = true := by
  have hl := form_len h
  obtain ⟨a, b, c, d, e, f, g, i, j, k, rfl⟩ := list10 hl
  have h2 : (fmOk a 48 && (fmOk b 48 && (fmOk c 48 && (fmOk d 48 && (fmOk e 45 && (fmOk f 48 && (fmOk g 48 && (fmOk i 45 && (fmOk j 48 && (fmOk k 48 && true)))))))))) = true := by
    have := h
    unfold formB at this
    simp only [Bool.and_eq_true] at this
    exact this.2
  simp only [Bool.and_eq_true, Bool.and_true] at h2
  obtain ⟨ha, hb, hc, hd, he, hf, hg, hi, hj, hk⟩ := h2
  have he2 : e.toNat = 45 := by simpa [fmOk] using he
  have hi2 : i.toNat = 45 := by simpa [fmOk] using hi
  refine ⟨rfl, he2, hi2, ?_, ?_, ?_⟩
  · show (dgOk a && (dgOk b && (dgOk c && (dgOk d && true)))) = true
    rw [show dgOk a = true from ha, show dgOk b = true from hb, show dgOk c = true from hc, show dgOk d = true from hd]; rfl
  · show (dgOk f && (dgOk g && true)) = true
    rw [show dgOk f = true from hf, show dgOk g = true from hg]; rfl
  · show (dgOk j && (dgOk k && true)) = true
    rw [show dgOk j = true from hj, show dgOk k = true from hk]; rfl
theorem date_form {l : List UInt8} (hl : l.length = 10) (hc : (bAt l 4).toNat = 45) (hc2 : (bAt l 7).toNat = 45) (h1 : (l.take 4).all dgOk = true) (h2 : ((l.take 7).drop 5).all dgOk = true) (h3 : (l.drop 8).all dgOk = true) : formB l dateF = true := by
  obtain ⟨a, b, c, d, e, f, g, i, j, k, rfl⟩ := list10 hl
  have g1 : (dgOk a && (dgOk b && (dgOk c && (dgOk d && true)))) = true := h1
  have g2 : (dgOk f && (dgOk g && true)) = true := h2
  have g3 : (dgOk j && (dgOk k && true)) = true := h3
  simp only [Bool.and_eq_true, Bool.and_true] at g1 g2 g3
  have he : fmOk e 45 = true := by
    have : e.toNat = 45 := hc
    simp [fmOk, this]
  have hi : fmOk i 45 = true := by
    have : i.toNat = 45 := hc2
    simp [fmOk, this]
  show (decide (10 = 10) && (fmOk a 48 && (fmOk b 48 && (fmOk c 48 && (fmOk d 48 && (fmOk e 45 && (fmOk f 48 && (fmOk g 48 && (fmOk i 45 && (fmOk j 48 && (fmOk k 48 && true))))))))))) = true
  rw [show fmOk a 48 = true from g1.1, show fmOk b 48 = true from g1.2.1, show fmOk c 48 = true from g1.2.2.1, show fmOk d 48 = true from g1.2.2.2, he, show fmOk f 48 = true from g2.1, show fmOk g 48 = true from g2.2, hi, show fmOk j 48 = true from g3.1, show fmOk k 48 = true from g3.2]; rfl

/-- What a text denotes as a clock time. -/
def pcH (l : List UInt8) : Nat := decN (l.take 2)
def pcM (l : List UInt8) : Nat := decN (l.drop 3)
def pcE (l : List UInt8) : Int := if formB l clockF = true then (if pcH l < 24 ∧ pcM l < 60 then 0 else 5) else 1
def pcV (l : List UInt8) : Int := if formB l clockF = true then (if pcH l < 24 ∧ pcM l < 60 then 60 * (pcH l : Int) + (pcM l : Int) else 0) else 0
theorem dec2 {l : List UInt8} (h : l.all dgOk = true) (hl : l.length = 2) : decN l < 100 := by
  have := decN_lt h
  rw [hl] at this; omega
theorem dec4 {l : List UInt8} (h : l.all dgOk = true) (hl : l.length = 4) : decN l < 10000 := by
  have := decN_lt h
  rw [hl] at this; omega
set_option maxHeartbeats 4000000 in
set_option maxRecDepth 100000 in
theorem parseClock_any (l : List UInt8) (hl : l.length ≤ 9223372036854775807) (w : World) : Calls Tryd.prog 27 #[.string ⟨l.toArray⟩] w (RetNE w (pcV l) (pcE l)) := by
  have hf : ∀ w, Calls Tryd.prog 49 #[.string ⟨l.toArray⟩, .string ⟨#[48, 48, 58, 48, 48]⟩] w (RetB1 w (formB l clockF)) := fun w => hasForm_any l clockF hl (by decide) w
  have hv : pcV l = if formB l clockF = true then (if pcH l < 24 ∧ pcM l < 60 then 60 * (pcH l : Int) + (pcM l : Int) else 0) else 0 := rfl
  have he : pcE l = if formB l clockF = true then (if pcH l < 24 ∧ pcM l < 60 then 0 else 5) else 1 := rfl
  have hfc := @form_clock l
  obtain ⟨V, HV⟩ : ∃ v, Hid (pcV l = v) := ⟨_, rfl⟩
  obtain ⟨E, HE⟩ : ∃ v, Hid (pcE l = v) := ⟨_, rfl⟩
  rw [HV.out, HE.out]
  rw [HV.out] at hv
  rw [HE.out] at he
  obtain ⟨B, HB⟩ : ∃ v, Hid (formB l clockF = v) := ⟨_, rfl⟩
  rw [HB.out] at hf hv he hfc
  cases B with
  | false =>
    obtain rfl : V = 0 := hv
    obtain rfl : E = 1 := he
    clear hfc
    go_enter Tryd.func27, Tryd.ntmps27
    go_wp2_with (first
      | (go_at_call 49; (with_reducible refine (hf _).mono ?_); rintro e w1 ⟨rfl, g1⟩)
      | fail)
    go_ret2
    exact ⟨rfl, g1⟩
  | true =>
    obtain ⟨hL, _, a1, a2⟩ := hfc rfl
    rw [if_pos rfl] at hv he
    have hn1 := numberOf_any (l.take 2) a1 (by rw [List.length_take]; omega)
    have hn2 := numberOf_any (l.drop 3) a2 (by rw [List.length_drop]; omega)
    have b1 := dec2 a1 (by rw [List.length_take]; omega)
    have b2 := dec2 a2 (by rw [List.length_drop]; omega)
    have x1 : (⟨l.toArray⟩ : ByteArray).extract 0 2 = ⟨(l.take 2).toArray⟩ := by rw [ext_take, List.drop_zero]
    have x2 : (⟨l.toArray⟩ : ByteArray).extract 3 5 = ⟨(l.drop 3).toArray⟩ := by rw [ext_take, List.take_of_length_le (by omega)]
    have hsz := bsize l
    rw [hL] at hsz
    rw [show decN (l.take 2) = pcH l from rfl] at hn1 b1
    rw [show decN (l.drop 3) = pcM l from rfl] at hn2 b2
    obtain ⟨P, HP⟩ : ∃ v, Hid (l.take 2 = v) := ⟨_, rfl⟩
    obtain ⟨Q, HQ⟩ : ∃ v, Hid (l.drop 3 = v) := ⟨_, rfl⟩
    rw [HP.out] at hn1 x1
    rw [HQ.out] at hn2 x2
    obtain ⟨H, HH⟩ : ∃ v, Hid (pcH l = v) := ⟨_, rfl⟩
    obtain ⟨M, HM⟩ : ∃ v, Hid (pcM l = v) := ⟨_, rfl⟩
    rw [HH.out] at hn1 hv he b1
    rw [HM.out] at hn2 hv he b2
    have HV2 := Lib.hid hv
    have HE2 := Lib.hid he
    clear hfc hv he a1 a2 HV HE
    go_enter Tryd.func27, Tryd.ntmps27
    go_upto_region 3 with (first
      | (go_at_call 49; (with_reducible refine (hf _).mono ?_); rintro e w1 ⟨rfl, g1⟩)
      | fail)
    go_region_held3 (fun w' => True)
      (first | exact trivial)
      (first
      | (go_at_call 50; first
          | ((with_reducible refine (hn1 _).mono ?_); rintro e w2 ⟨rfl, T1, rfl⟩)
          | ((with_reducible refine (hn2 _).mono ?_); rintro e w3 ⟨rfl, T2, rfl⟩))
      | fail)
    all_goals
      have G := Lib.hid (g1.trans (((((Below.refl w1.heap.size w1).drew.alloc (by simp) T1).drew.alloc (by simp) T2).drew).mono g1.size))
      by_cases hh : H < 24
      · have j1 : decide ((1440 : Int) ≤ (H : Int) * 60) = false := by simp; omega
        by_cases hm : M < 60
        · have j2 : decide ((60 : Int) ≤ (M : Int)) = false := by simp; omega
          have HV3 : Hid (V = (H : Int) * 60 + (M : Int)) := by unfold Hid; rw [HV2.out, if_pos ⟨hh, hm⟩]; omega
          have HE3 : Hid (E = 0) := by unfold Hid; rw [HE2.out, if_pos ⟨hh, hm⟩]
          go_wp2_with fail
          go_ret2
          exact ⟨by rw [HV3.out, HE3.out]; rfl, G.out⟩
        · have j2 : (60 : Int) ≤ (M : Int) := by omega
          have HV3 : Hid (V = 0) := by unfold Hid; rw [HV2.out, if_neg (fun h => hm h.2)]
          have HE3 : Hid (E = 5) := by unfold Hid; rw [HE2.out, if_neg (fun h => hm h.2)]
          go_wp2_with fail
          go_ret2
          exact ⟨by rw [HV3.out, HE3.out]; rfl, G.out⟩
      · have j1 : (1440 : Int) ≤ (H : Int) * 60 := by omega
        have HV3 : Hid (V = 0) := by unfold Hid; rw [HV2.out, if_neg (fun h => hh h.1)]
        have HE3 : Hid (E = 5) := by unfold Hid; rw [HE2.out, if_neg (fun h => hh h.1)]
        go_wp2_with fail
        go_ret2
        exact ⟨by rw [HV3.out, HE3.out]; rfl, G.out⟩
end Go.Proofs.YtpcagheghmbjfaaDoor

