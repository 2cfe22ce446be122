/-
  Calendar: reading clock times and dates, by the reference and by the program.
-/
import Derived.Test.YtpcagheghmbjfaaDoorCaT
set_option linter.unusedVariables false
set_option linter.unusedSimpArgs false
namespace Go.Proofs.YtpcagheghmbjfaaDoor
open Go.RowKit

theorem dig_of {l : List UInt8} {n : Nat} (h : l.length = n) : digB l n n = l.all dgOk := by
  unfold digB; rw [h]; simp
theorem digv_of {l : List UInt8} {n : Nat} (h : l.length = n) (ha : l.all dgOk = true) : digV l n n = (decN l : Int) := by
  unfold digV; rw [dig_of h, ha]; rfl
set_option maxHeartbeats 4000000 in
set_option maxRecDepth 100000 in
theorem rparseClock_any (l : List UInt8) (hl : l.length ≤ 9223372036854775807) (w : World) : Calls Tryd.prog 28 #[.string ⟨l.toArray⟩] w (RetNE w (pcV l) (pcE l)) := by
  have hv : pcV l = if formB l clockF = true then (if pcH l < 24 ∧ pcM l < 60 then 60 * (pcH l : Int) + (pcM l : Int) else 0) else 0 := rfl
  have he : pcE l = if formB l clockF = true then (if pcH l < 24 ∧ pcM l < 60 then 0 else 5) else 1 := rfl
  have hfc := @form_clock l
  have hcf := @clock_form l
  obtain ⟨V, HV⟩ : ∃ v, Hid (pcV l = v) := ⟨_, rfl⟩
  obtain ⟨E, HE⟩ : ∃ v, Hid (pcE l = v) := ⟨_, rfl⟩
  rw [HV.out, HE.out]
  rw [HV.out] at hv
  rw [HE.out] at he
  obtain ⟨B, HB⟩ : ∃ v, Hid (formB l clockF = v) := ⟨_, rfl⟩
  rw [HB.out] at hv he hfc hcf
  have hsz := bsize l
  obtain ⟨L, HL⟩ : ∃ v, Hid (l.length = v) := ⟨_, rfl⟩
  rw [HL.out] at hsz hl hfc hcf
  by_cases hL : L = 5
  · subst hL
    have hg := bget (l := l) (k := 2) (by rw [HL.out]; omega)
    obtain ⟨c, HC⟩ : ∃ v, Hid ((bAt l 2).toNat = v) := ⟨_, rfl⟩
    have hgc : ∀ h, ((⟨l.toArray⟩ : ByteArray)[2]'h).toNat = c := fun h => by rw [hg h]; exact HC.out
    rw [HC.out] at hfc hcf
    clear hg
    by_cases h58 : c = 58
    · subst h58
      have hn1 := fun w => rDigits_any (l.take 2) (by rw [List.length_take]; omega) 2 2 (by omega) (by omega) w
      have hn2 := fun w => rDigits_any (l.drop 3) (by rw [List.length_drop, HL.out]; omega) 2 2 (by omega) (by omega) w
      simp only [Int.cast_ofNat_Int] at hn1 hn2
      unfold RetD at hn1 hn2
      have l1 : (l.take 2).length = 2 := by rw [List.length_take, HL.out]; rfl
      have l2 : (l.drop 3).length = 2 := by rw [List.length_drop, HL.out]
      rw [dig_of l1] at hn1
      rw [dig_of l2] at hn2
      have v1 := @digv_of (l.take 2) 2 l1
      have v2 := @digv_of (l.drop 3) 2 l2
      have b1 := fun h => @dec2 (l.take 2) h l1
      have b2 := fun h => @dec2 (l.drop 3) h l2
      have x1 : (⟨l.toArray⟩ : ByteArray).extract 0 2 = ⟨(l.take 2).toArray⟩ := by rw [ext_take, List.drop_zero]
      have x2 : (⟨l.toArray⟩ : ByteArray).extract 3 5 = ⟨(l.drop 3).toArray⟩ := by rw [ext_take, List.take_of_length_le (by rw [HL.out]; omega)]
      have hfc1 := fun h => (hfc h).2.2.1
      have hfc2 := fun h => (hfc h).2.2.2
      have hcf1 := hcf rfl rfl
      clear hfc hcf
      rw [show decN (l.take 2) = pcH l from rfl] at v1 b1
      rw [show decN (l.drop 3) = pcM l from rfl] at v2 b2
      obtain ⟨P, HP⟩ : ∃ v, Hid (l.take 2 = v) := ⟨_, rfl⟩
      obtain ⟨Q, HQ⟩ : ∃ v, Hid (l.drop 3 = v) := ⟨_, rfl⟩
      rw [HP.out] at hn1 x1 v1 b1 hfc1 hcf1
      rw [HQ.out] at hn2 x2 v2 b2 hfc2 hcf1
      obtain ⟨a1, A1⟩ : ∃ v, Hid (P.all dgOk = v) := ⟨_, rfl⟩
      obtain ⟨a2, A2⟩ : ∃ v, Hid (Q.all dgOk = v) := ⟨_, rfl⟩
      rw [A1.out] at hn1 v1 b1 hfc1 hcf1
      rw [A2.out] at hn2 v2 b2 hfc2 hcf1
      obtain ⟨Z1, HZ1⟩ : ∃ v, Hid (digV P 2 2 = v) := ⟨_, rfl⟩
      obtain ⟨Z2, HZ2⟩ : ∃ v, Hid (digV Q 2 2 = v) := ⟨_, rfl⟩
      rw [HZ1.out] at hn1 v1
      rw [HZ2.out] at hn2 v2
      clear l1 l2
      cases a1 with
      | false =>
        obtain rfl : B = false := by
          cases B with
          | false => rfl
          | true => exact (hfc1 rfl).symm
        obtain rfl : V = 0 := hv
        obtain rfl : E = 1 := he
        clear v1 v2 b1 b2 hfc1 hfc2 hcf1
        go_enter Tryd.func28, Tryd.ntmps28
        go_wp2_with (first
          | (go_at_call 51; first
              | ((with_reducible refine (hn1 _).mono ?_); rintro e w2 ⟨rfl, rfl⟩)
              | ((with_reducible refine (hn2 _).mono ?_); rintro e w3 ⟨rfl, rfl⟩))
          | fail)
        go_ret2
        exact ⟨rfl, Below.refl _ _⟩
      | true =>
        obtain rfl := v1 rfl
        have b1' := b1 rfl
        cases a2 with
        | false =>
          obtain rfl : B = false := by
            cases B with
            | false => rfl
            | true => exact (hfc2 rfl).symm
          obtain rfl : V = 0 := hv
          obtain rfl : E = 1 := he
          clear v1 v2 b1 b2 hfc1 hfc2 hcf1
          go_enter Tryd.func28, Tryd.ntmps28
          go_wp2_with (first
            | (go_at_call 51; first
                | ((with_reducible refine (hn1 _).mono ?_); rintro e w2 ⟨rfl, rfl⟩)
                | ((with_reducible refine (hn2 _).mono ?_); rintro e w3 ⟨rfl, rfl⟩))
            | fail)
          go_ret2
          exact ⟨rfl, Below.refl _ _⟩
        | true =>
          obtain rfl := v2 rfl
          have b2' := b2 rfl
          obtain rfl : B = true := hcf1 rfl rfl
          rw [if_pos rfl] at hv he
          clear v1 v2 b1 b2 hfc1 hfc2 hcf1
          obtain ⟨H, HH⟩ : ∃ v, Hid (pcH l = v) := ⟨_, rfl⟩
          obtain ⟨M, HM⟩ : ∃ v, Hid (pcM l = v) := ⟨_, rfl⟩
          rw [HH.out] at hn1 hv he b1'
          rw [HM.out] at hn2 hv he b2'
          have HV2 := Lib.hid hv
          have HE2 := Lib.hid he
          clear hv he HV HE
          by_cases hh : H < 24
          · have j1 : decide ((23 : Int) < (H : Int)) = false := by simp; omega
            by_cases hm : M < 60
            · have j2 : decide ((59 : Int) < (M : Int)) = false := by simp; omega
              have HV3 : Hid (V = 60 * (H : Int) + (M : Int)) := by unfold Hid; rw [HV2.out, if_pos ⟨hh, hm⟩]
              have HE3 : Hid (E = 0) := by unfold Hid; rw [HE2.out, if_pos ⟨hh, hm⟩]
              go_enter Tryd.func28, Tryd.ntmps28
              go_wp2_with (first
                | (go_at_call 51; first
                    | ((with_reducible refine (hn1 _).mono ?_); rintro e w2 ⟨rfl, rfl⟩)
                    | ((with_reducible refine (hn2 _).mono ?_); rintro e w3 ⟨rfl, rfl⟩))
                | fail)
              go_ret2
              exact ⟨by rw [HV3.out, HE3.out]; rfl, Below.refl _ _⟩
            · have j2 : (59 : Int) < (M : Int) := by omega
              have HV3 : Hid (V = 0) := by unfold Hid; rw [HV2.out, if_neg (fun h => hm h.2)]
              have HE3 : Hid (E = 5) := by unfold Hid; rw [HE2.out, if_neg (fun h => hm h.2)]
              go_enter Tryd.func28, Tryd.ntmps28
              go_wp2_with (first
                | (go_at_call 51; first
                    | ((with_reducible refine (hn1 _).mono ?_); rintro e w2 ⟨rfl, rfl⟩)
                    | ((with_reducible refine (hn2 _).mono ?_); rintro e w3 ⟨rfl, rfl⟩))
                | fail)
              go_ret2
              exact ⟨by rw [HV3.out, HE3.out]; rfl, Below.refl _ _⟩
          · have j1 : (23 : Int) < (H : Int) := by omega
            have HV3 : Hid (V = 0) := by unfold Hid; rw [HV2.out, if_neg (fun h => hh h.1)]
            have HE3 : Hid (E = 5) := by unfold Hid; rw [HE2.out, if_neg (fun h => hh h.1)]
            go_enter Tryd.func28, Tryd.ntmps28
            go_wp2_with (first
              | (go_at_call 51; first
                  | ((with_reducible refine (hn1 _).mono ?_); rintro e w2 ⟨rfl, rfl⟩)
                  | ((with_reducible refine (hn2 _).mono ?_); rintro e w3 ⟨rfl, rfl⟩))
              | fail)
            go_ret2
            exact ⟨by rw [HV3.out, HE3.out]; rfl, Below.refl _ _⟩
    · obtain rfl : B = false := by
        cases B with
        | false => rfl
        | true => exact absurd (hfc rfl).2.1 h58
      obtain rfl : V = 0 := hv
      obtain rfl : E = 1 := he
      have e4 : ((c : Int) == 58) = false := by simp; omega
      have e5 : ((c : Int) != 58) = true := by rw [bne, e4]; rfl
      have e6 : ¬ (c : Int) = 58 := by omega
      clear hfc hcf
      go_enter Tryd.func28, Tryd.ntmps28
      go_wp2_with fail
      go_ret2
      exact ⟨rfl, Below.refl _ _⟩
  · obtain rfl : B = false := by
      cases B with
      | false => rfl
      | true => exact absurd (hfc rfl).1 hL
    obtain rfl : V = 0 := hv
    obtain rfl : E = 1 := he
    have e4 : ((L : Int) == 5) = false := by simp; omega
    have e5 : ((L : Int) != 5) = true := by rw [bne, e4]; rfl
    have e6 : ¬ (L : Int) = 5 := by omega
    clear hfc hcf
    go_enter Tryd.func28, Tryd.ntmps28
    go_wp2_with fail
    go_ret2
    exact ⟨rfl, Below.refl _ _⟩

/-- What a text denotes as a date. -/
def pdy (l : List UInt8) : Nat := decN (l.take 4)
def pdm (l : List UInt8) : Nat := decN ((l.take 7).drop 5)
def pdd (l : List UInt8) : Nat := decN (l.drop 8)
def pdO (l : List UInt8) : Bool := formB l dateF && dateB (pdy l : Int) (pdm l : Int) (pdd l : Int)
def pdE (l : List UInt8) : Int := if formB l dateF = true then (if dateB (pdy l : Int) (pdm l : Int) (pdd l : Int) = true then 0 else 5) else 1
def pdY (l : List UInt8) : Int := if pdO l = true then (pdy l : Int) else 0
def pdM (l : List UInt8) : Int := if pdO l = true then (pdm l : Int) else 0
def pdD (l : List UInt8) : Int := if pdO l = true then (pdd l : Int) else 0
def RetPD (w : World) (l : List UInt8) (e : Ending) (w' : World) : Prop := e = .returned (.tuple #[.agg #[.int .i64 (pdY l), .int .i64 (pdM l), .int .i64 (pdD l)], .int .i64 (pdE l)]) ∧ Below w.heap.size w w'
def RetDZ (w : World) (z : Int) (en : Ending) (w' : World) : Prop := en = .returned (.tuple #[.agg #[.int .i64 0, .int .i64 0, .int .i64 0], .int .i64 z]) ∧ Below w.heap.size w w'
theorem RetPD.syn {w w' : World} {l : List UInt8} {en : Ending} (h : formB l dateF = false) (g : RetDZ w 1 en w') : RetPD w l en w' := by
  unfold RetPD pdY pdM pdD pdE pdO
  rw [h]; exact g
theorem RetPD.rng {w w' : World} {l : List UInt8} {en : Ending} (h : formB l dateF = true) (h2 : dateB (pdy l : Int) (pdm l : Int) (pdd l : Int) = false) (g : RetDZ w 5 en w') : RetPD w l en w' := by
  unfold RetPD pdY pdM pdD pdE pdO
  rw [h, h2]; exact g
theorem RetPD.good {w w' : World} {l : List UInt8} {en : Ending} (h : formB l dateF = true) (h2 : dateB (pdy l : Int) (pdm l : Int) (pdd l : Int) = true) (g : en = .returned (.tuple #[.agg #[.int .i64 (pdy l : Int), .int .i64 (pdm l : Int), .int .i64 (pdd l : Int)], .int .i64 0]) ∧ Below w.heap.size w w') : RetPD w l en w' := by
  unfold RetPD pdY pdM pdD pdE pdO
  rw [h, h2]; exact g
end Go.Proofs.YtpcagheghmbjfaaDoor

