/-
  The reference's ParseInt, at every string.
-/
import Derived.Test.YtdacigihhbcppaaDoorTbW
import Derived.Test.YtdacigihhbcppaaDoorTbI
set_option linter.unusedVariables false
set_option linter.unusedSimpArgs false
namespace Go.Proofs.YtdacigihhbcppaaDoor
open Go.RowKit

def digB (l : List UInt8) (lo hi : Nat) : Bool := decide (lo ≤ l.length) && decide (l.length ≤ hi) && l.all dgOk
def digV (l : List UInt8) (lo hi : Nat) : Int := if digB l lo hi = true then (decN l : Int) else 0
def RetD (w : World) (l : List UInt8) (lo hi : Nat) (e : Ending) (w' : World) : Prop := e = .returned (.tuple #[.int .i64 (digV l lo hi), .bool (digB l lo hi)]) ∧ w = w'
set_option maxHeartbeats 4000000 in
set_option maxRecDepth 100000 in
theorem rDigits_any (l : List UInt8) (hl : l.length ≤ 9223372036854775807) (lo hi : Nat) (hhi : hi ≤ 18) (hlo : lo ≤ 18) (w : World) : Calls Tryd.prog 37 #[.string ⟨l.toArray⟩, .int .i64 (lo : Int), .int .i64 (hi : Int)] w (RetD w l lo hi) := by
  have hV : digV l lo hi = if digB l lo hi = true then (decN l : Int) else 0 := rfl
  obtain ⟨V, HV⟩ : ∃ v, Hid (digV l lo hi = v) := ⟨_, rfl⟩
  unfold RetD
  rw [HV.out]
  rw [HV.out] at hV
  have hB : digB l lo hi = (decide (lo ≤ l.length) && decide (l.length ≤ hi) && l.all dgOk) := rfl
  obtain ⟨B, HB⟩ : ∃ v, Hid (digB l lo hi = v) := ⟨_, rfl⟩
  rw [HB.out] at hV hB ⊢
  have hsz := bsize l
  obtain ⟨L, HL⟩ : ∃ L, Hid (l.length = L) := ⟨_, rfl⟩
  rw [HL.out] at hsz hl hB
  by_cases h1 : L < lo
  · obtain rfl : B = false := by rw [hB]; simp; omega
    obtain rfl : V = 0 := by rw [hV]; simp
    have q1 : (L : Int) < (lo : Int) := by omega
    clear hB hV
    go_enter Tryd.func37, Tryd.ntmps37
    go_wp2_with fail
    go_ret2
    exact ⟨rfl, rfl⟩
  have q1 : decide ((L : Int) < (lo : Int)) = false := by simp; omega
  have q1' : ¬ (L : Int) < (lo : Int) := by omega
  by_cases h2 : hi < L
  · obtain rfl : B = false := by rw [hB]; simp; omega
    obtain rfl : V = 0 := by rw [hV]; simp
    have q2 : (hi : Int) < (L : Int) := by omega
    clear hB hV
    go_enter Tryd.func37, Tryd.ntmps37
    go_wp2_with fail
    go_ret2
    exact ⟨rfl, rfl⟩
  have q2 : decide ((hi : Int) < (L : Int)) = false := by simp; omega
  have q2' : ¬ (hi : Int) < (L : Int) := by omega
  have hB2 : B = l.all dgOk := by rw [hB]; simp; omega
  have hL18 : L ≤ 18 := by omega
  have HBB := Lib.hid hB2
  have HVV := Lib.hid hV
  clear hB hB2 hV
  go_enter Tryd.func37, Tryd.ntmps37
  go_wp2_with fail
  go_loop [9, 8] (fun i v => ∃ k m : Nat, k ≤ L ∧ i = .int .i64 k ∧ v = .int .i64 m ∧ Hid (decN (l.take k) = m) ∧ Hid ((l.take k).all dgOk = true)) (fun i _ => L - (intOf i).toNat)
  case atStart => exact ⟨0, 0, by omega, rfl, rfl, rfl, by unfold Hid; simp⟩
  case round =>
    obtain ⟨k, m, hk, rfl, rfl, hm, hall⟩ := hrel
    by_cases hlt : k < L
    · have hg := bget (l := l) (k := k) (by rw [HL.out]; exact hlt)
      have hta := all_take dgOk (l := l) (k := k) (by rw [HL.out]; exact hlt)
      have hbad := all_bad dgOk (l := l) (k := k) (by rw [HL.out]; exact hlt)
      have hts := decN_take (l := l) (k := k) (by rw [HL.out]; exact hlt)
      have hlt2 := decN_lt hall.out
      rw [hm.out] at hts hlt2
      rw [List.length_take, HL.out] at hlt2
      have hms : m < 100000000000000000 := by
        have := pow_le10 (k := min k L) (n := 17) (by omega)
        omega
      clear hlt2
      rw [show dgOk (bAt l k) = numB (bAt l k).toNat from rfl] at hta hbad
      obtain ⟨c, HC⟩ : ∃ v, Hid ((bAt l k).toNat = v) := ⟨_, rfl⟩
      have hc256 : c < 256 := by rw [← HC.out]; exact UInt8.toNat_lt _
      have hgc : ∀ h, ((⟨l.toArray⟩ : ByteArray)[k]'h).toNat = c := fun h => by rw [hg h]; exact HC.out
      clear hg
      rw [HC.out] at hts hta hbad
      have hnum := numB_any c hc256
      have j0 : (0 : Int) ≤ (k : Int) := by omega
      have j1 : (k : Int) < (L : Int) := by omega
      have HTS := Lib.hid hts
      have HTA := Lib.hid hta
      have HBAD := Lib.hid hbad
      clear hts hta hbad
      by_cases hd : numB c = true
      · have hdd : 48 ≤ c ∧ c ≤ 57 := by simpa [numB] using hd
        obtain ⟨hd1, hd2⟩ := hdd
        rw [hd] at hnum
        have HA : Hid ((l.take (k + 1)).all dgOk = true) := by unfold Hid; rw [HTA.out, hall.out, hd]; rfl
        clear hd
        go_wp2_with (first
          | (go_at_call 33; (with_reducible refine (hnum _).mono ?_); rintro e w1 ⟨rfl, rfl⟩)
          | fail)
        go_round
        case rel => exact ⟨k + 1, 10 * m + (c - 48), by omega, by go_num, by go_num, HTS, HA⟩
        case measure => simp [intOf]; omega
      · have hd0 : numB c = false := by simpa using hd
        rw [hd0] at hnum
        obtain rfl : B = false := by rw [HBB.out]; exact HBAD.out hd0
        obtain rfl : V = 0 := by rw [HVV.out]; simp
        clear hd hd0
        go_wp2_with (first
          | (go_at_call 33; (with_reducible refine (hnum _).mono ?_); rintro e w1 ⟨rfl, rfl⟩)
          | fail)
        go_ret2
        exact ⟨rfl, rfl⟩
    · obtain rfl : k = L := by omega
      have hRt : l.take k = l := List.take_of_length_le (by rw [HL.out]; exact Nat.le_refl _)
      have hmm := hm.out
      have haa := hall.out
      rw [hRt] at hmm haa
      obtain rfl : B = true := by rw [HBB.out]; exact haa
      have HM : Hid (V = (m : Int)) := by unfold Hid; rw [HVV.out, if_pos rfl, hmm]
      have j1 : ¬ (k : Int) < (k : Int) := by omega
      clear hmm haa hRt
      go_wp2_with fail
      go_ret2
      exact ⟨by rw [HM.out]; rfl, rfl⟩

def plB (l : List UInt8) : Bool := decide (l.length = 1) || (decide (1 < l.length) && decide ((bAt l 0).toNat ≠ 48))
set_option maxHeartbeats 4000000 in
set_option maxRecDepth 100000 in
theorem rPlain_any (l : List UInt8) (hl : l.length ≤ 9223372036854775807) (w : World) : Calls Tryd.prog 38 #[.string ⟨l.toArray⟩] w (RetQ w (plB l)) := by
  obtain ⟨B, HB⟩ : ∃ B, Hid (plB l = B) := ⟨_, rfl⟩
  rw [HB.out]
  have hsz := bsize l
  obtain ⟨L, HL⟩ : ∃ L, Hid (l.length = L) := ⟨_, rfl⟩
  have hdef : B = plB l := HB.out.symm
  unfold plB at hdef
  rw [HL.out] at hsz hl hdef
  by_cases h1 : L = 1
  · subst h1
    obtain rfl : B = true := by rw [hdef]; simp
    clear hdef
    go_enter Tryd.func38, Tryd.ntmps38
    go_wp2_with fail
    go_ret
    exact ⟨rfl, rfl⟩
  have q1 : ((L : Int) == 1) = false := by simp; omega
  by_cases h0 : L = 0
  · subst h0
    obtain rfl : B = false := by rw [hdef]; simp
    clear hdef
    go_enter Tryd.func38, Tryd.ntmps38
    go_wp2_with fail
    go_ret
    exact ⟨rfl, rfl⟩
  have q2 : (1 : Int) < (L : Int) := by omega
  have q3 : (0 : Int) < (L : Int) := by omega
  have hg := bget (l := l) (k := 0) (by rw [HL.out]; omega)
  obtain ⟨n0, HN⟩ : ∃ v, Hid ((bAt l 0).toNat = v) := ⟨_, rfl⟩
  have hg2 : ∀ h, ((⟨l.toArray⟩ : ByteArray)[0]'h).toNat = n0 := fun h => by rw [hg h]; exact HN.out
  rw [HN.out] at hdef
  clear hg
  by_cases h48 : n0 = 48
  · subst h48
    obtain rfl : B = false := by rw [hdef]; simp [h1]
    clear hdef
    go_enter Tryd.func38, Tryd.ntmps38
    go_wp2_with fail
    go_ret
    exact ⟨rfl, rfl⟩
  · obtain rfl : B = true := by rw [hdef]; simp [h48]; omega
    have u1 : ((n0 : Int) != 48) = true := by simp; omega
    have u2 : ((n0 : Int) == 48) = false := by simp; omega
    have u3 : ¬ (n0 : Int) = 48 := by omega
    clear hdef
    go_enter Tryd.func38, Tryd.ntmps38
    go_wp2_with fail
    go_ret
    exact ⟨rfl, rfl⟩

theorem nat_dig (l : List UInt8) : natB l = (digB l 1 10 && plB l) := by
  unfold natB digB plB
  by_cases h1 : l.length = 1
  · rw [h1]; simp
  · by_cases h0 : l.length = 0
    · rw [h0]; simp
    · have q : decide (0 < l.length) = true := by simp; omega
      have q1 : decide (1 ≤ l.length) = true := by simp; omega
      have q2 : decide (1 < l.length) = true := by simp; omega
      have q3 : decide (l.length = 1) = false := by simp [h1]
      rw [q, q1, q2, q3]
      simp only [Bool.true_and, Bool.or_false, Bool.false_or]
      cases decide (l.length ≤ 10) <;> cases decide ((bAt l 0).toNat ≠ 48) <;> cases l.all dgOk <;> rfl

set_option maxHeartbeats 4000000 in
set_option maxRecDepth 100000 in
theorem rParse_any (l : List UInt8) (hl : l.length ≤ 9223372036854775807) (w : World) : Calls Tryd.prog 23 #[.string ⟨l.toArray⟩] w (RetP w l) := by
  have hR : (cutB l).1.length ≤ 9223372036854775807 := Nat.le_trans (cutB_len l) hl
  have hcs := @parts l
  have hV : parV l = if parB l = true then (if (cutB l).2 = true then -(decN (cutB l).1 : Int) else (decN (cutB l).1 : Int)) else 0 := rfl
  have hE : parE l = if parB l = true then 0 else 1 := rfl
  have hdig : Calls Tryd.prog 37 #[.string ⟨(cutB l).1.toArray⟩, .int .i64 1, .int .i64 10] w (RetD w (cutB l).1 1 10) := rDigits_any (cutB l).1 hR 1 10 (by omega) (by omega) w
  have hpl := rPlain_any (cutB l).1 hR w
  have hnd := nat_dig (cutB l).1
  have hz := fun h : natB (cutB l).1 = true => decN_zero h
  have hlt10 := fun h : natB (cutB l).1 = true => decN_lt (natB_and h).2.2.2
  have hle10 := fun h : natB (cutB l).1 = true => (natB_and h).2.1
  have hct := @cutB_true l
  have hcf := @cutB_false l
  unfold RetP
  unfold RetD at hdig
  have hdv : digV (cutB l).1 1 10 = if digB (cutB l).1 1 10 = true then (decN (cutB l).1 : Int) else 0 := rfl
  obtain ⟨V, HV⟩ : ∃ v, Hid (parV l = v) := ⟨_, rfl⟩
  obtain ⟨F, HF⟩ : ∃ v, Hid (parE l = v) := ⟨_, rfl⟩
  rw [HV.out, HF.out]
  rw [HV.out] at hV
  rw [HF.out] at hE
  obtain ⟨R, HR⟩ : ∃ v, Hid ((cutB l).1 = v) := ⟨_, rfl⟩
  obtain ⟨B, HB⟩ : ∃ v, Hid ((cutB l).2 = v) := ⟨_, rfl⟩
  rw [HR.out] at hR hcs hV hdig hpl hnd hz hlt10 hle10 hct hcf hdv
  rw [HB.out] at hcs hV hct hcf
  obtain ⟨Q, HQ⟩ : ∃ v, Hid (parB l = v) := ⟨_, rfl⟩
  rw [HQ.out] at hcs hV hE
  obtain ⟨N, HN⟩ : ∃ v, Hid (natB R = v) := ⟨_, rfl⟩
  obtain ⟨D, HD⟩ : ∃ v, Hid (digB R 1 10 = v) := ⟨_, rfl⟩
  obtain ⟨Y, HY⟩ : ∃ v, Hid (plB R = v) := ⟨_, rfl⟩
  obtain ⟨M, HM⟩ : ∃ v, Hid (decN R = v) := ⟨_, rfl⟩
  obtain ⟨X, HX⟩ : ∃ v, Hid (digV R 1 10 = v) := ⟨_, rfl⟩
  rw [HX.out] at hdv hdig
  rw [HM.out] at hV hdv hz hlt10
  rw [HD.out] at hdv hdig hnd
  rw [HY.out] at hpl hnd
  rw [HN.out] at hcs hnd hz hlt10 hle10
  have hm10 : N = true → M ≤ 9999999999 := by
    intro h
    have h1 := hlt10 h
    have h2 := pow_le10 (k := R.length) (n := 10) (hle10 h)
    omega
  clear hlt10 hle10
  have hsz := bsize l
  obtain ⟨L, HL⟩ : ∃ L, Hid (l.length = L) := ⟨_, rfl⟩
  rw [HL.out] at hsz hl hct
  have hres : (D = false ∧ V = 0 ∧ F = 1 ∧ X = 0) ∨ (D = true ∧ Y = false ∧ V = 0 ∧ F = 1) ∨ (D = true ∧ Y = true ∧ B = true ∧ X = 0 ∧ V = 0 ∧ F = 1) ∨ (D = true ∧ Y = true ∧ (B = false ∨ M ≠ 0) ∧ F = 0 ∧ V = (if B = true then -(M : Int) else (M : Int)) ∧ X = (M : Int) ∧ M ≤ 9999999999) := by
    cases D with
    | false =>
      left
      have hN : N = false := by rw [hnd]; rfl
      have hQ : Q = false := by rcases hcs with ⟨_, h, _⟩ | ⟨h, _⟩; (rw [hN] at h; exact Bool.noConfusion h); exact h
      rw [hQ] at hV hE
      exact ⟨rfl, by rw [hV]; rfl, by rw [hE]; rfl, by rw [hdv]; rfl⟩
    | true =>
      cases Y with
      | false =>
        right; left
        have hN : N = false := by rw [hnd]; rfl
        have hQ : Q = false := by rcases hcs with ⟨_, h, _⟩ | ⟨h, _⟩; (rw [hN] at h; exact Bool.noConfusion h); exact h
        rw [hQ] at hV hE
        exact ⟨rfl, rfl, by rw [hV]; rfl, by rw [hE]; rfl⟩
      | true =>
        right; right
        have hN : N = true := by rw [hnd]; rfl
        have hX : X = (M : Int) := by rw [hdv]; rfl
        have hz' := hz hN
        rcases hcs with ⟨hQ, _, h⟩ | ⟨hQ, h⟩
        · right
          rw [hQ] at hV hE
          refine ⟨rfl, rfl, ?_, by rw [hE]; rfl, by rw [hV, if_pos rfl], hX, hm10 hN⟩
          rcases h with h | h
          · exact .inl h
          · exact .inr fun h0 => h (hz'.1 h0)
        · left
          rw [hQ] at hV hE
          rcases h with h | ⟨h1, h2⟩
          · rw [hN] at h; exact Bool.noConfusion h
          · have h0 := hz'.2 h2
            exact ⟨rfl, rfl, h1, by rw [hX, h0]; rfl, by rw [hV]; rfl, by rw [hE]; rfl⟩
  clear hV hE hcs hnd hz hdv hm10 HV HF HQ HN HD HY HM HX HR
  -- the sign
  cases B with
  | true =>
    obtain ⟨hpos, h45, hRl⟩ := hct rfl
    clear hct hcf
    have q3 : (0 : Int) < (L : Int) := by omega
    have q4 : (1 : Int) ≤ (L : Int) := by omega
    have hg := bget (l := l) (k := 0) (by rw [HL.out]; omega)
    have hg2 : ∀ h, ((⟨l.toArray⟩ : ByteArray)[0]'h).toNat = 45 := fun h => by rw [hg h]; exact h45
    have hx : (⟨l.toArray⟩ : ByteArray).extract 1 L = ⟨R.toArray⟩ := by
      rw [ext_take, hRl, List.take_of_length_le (by rw [HL.out]; exact Nat.le_refl _)]
    clear hg h45 hRl
    rcases hres with ⟨rfl, rfl, rfl, rfl⟩ | ⟨rfl, rfl, rfl, rfl⟩ | ⟨rfl, rfl, hbt, rfl, rfl, rfl⟩ | ⟨rfl, rfl, hbm, rfl, hVV, rfl, hm⟩
    · skip
      go_enter Tryd.func23, Tryd.ntmps23
      go_wp2_with (first
        | (go_at_call 37; (with_reducible refine hdig.mono ?_); rintro e w1 ⟨rfl, rfl⟩)
        | (go_at_call 38; (with_reducible refine hpl.mono ?_); rintro e w2 ⟨rfl, rfl⟩)
        | fail)
      go_ret2
      exact ⟨rfl, Below.refl _ _⟩
    · skip
      go_enter Tryd.func23, Tryd.ntmps23
      go_wp2_with (first
        | (go_at_call 37; (with_reducible refine hdig.mono ?_); rintro e w1 ⟨rfl, rfl⟩)
        | (go_at_call 38; (with_reducible refine hpl.mono ?_); rintro e w2 ⟨rfl, rfl⟩)
        | fail)
      go_ret2
      exact ⟨rfl, Below.refl _ _⟩
    · skip
      go_enter Tryd.func23, Tryd.ntmps23
      go_wp2_with (first
        | (go_at_call 37; (with_reducible refine hdig.mono ?_); rintro e w1 ⟨rfl, rfl⟩)
        | (go_at_call 38; (with_reducible refine hpl.mono ?_); rintro e w2 ⟨rfl, rfl⟩)
        | fail)
      go_ret2
      exact ⟨rfl, Below.refl _ _⟩
    · have hM0 : M ≠ 0 := by simpa using hbm
      obtain rfl : V = -(M : Int) := by simpa using hVV
      have u1 : ((M : Int) == 0) = false := by simp; omega
      have u2 : ¬ (M : Int) = 0 := by omega
      clear hVV hbm
      go_enter Tryd.func23, Tryd.ntmps23
      go_wp2_with (first
        | (go_at_call 37; (with_reducible refine hdig.mono ?_); rintro e w1 ⟨rfl, rfl⟩)
        | (go_at_call 38; (with_reducible refine hpl.mono ?_); rintro e w2 ⟨rfl, rfl⟩)
        | fail)
      go_ret2
      exact ⟨rfl, Below.refl _ _⟩
  | false =>
    obtain rfl : R = l := hcf rfl
    clear hcf hct
    by_cases h0 : L = 0
    · subst h0
      rcases hres with ⟨rfl, rfl, rfl, rfl⟩ | ⟨rfl, rfl, rfl, rfl⟩ | ⟨rfl, rfl, hbt, rfl, rfl, rfl⟩ | ⟨rfl, rfl, hbm, rfl, hVV, rfl, hm⟩
      · skip
        go_enter Tryd.func23, Tryd.ntmps23
        go_wp2_with (first
          | (go_at_call 37; (with_reducible refine hdig.mono ?_); rintro e w1 ⟨rfl, rfl⟩)
          | (go_at_call 38; (with_reducible refine hpl.mono ?_); rintro e w2 ⟨rfl, rfl⟩)
          | fail)
        go_ret2
        exact ⟨rfl, Below.refl _ _⟩
      · skip
        go_enter Tryd.func23, Tryd.ntmps23
        go_wp2_with (first
          | (go_at_call 37; (with_reducible refine hdig.mono ?_); rintro e w1 ⟨rfl, rfl⟩)
          | (go_at_call 38; (with_reducible refine hpl.mono ?_); rintro e w2 ⟨rfl, rfl⟩)
          | fail)
        go_ret2
        exact ⟨rfl, Below.refl _ _⟩
      · exact Bool.noConfusion hbt
      · obtain rfl : V = (M : Int) := by simpa using hVV
        clear hVV hbm
        go_enter Tryd.func23, Tryd.ntmps23
        go_wp2_with (first
          | (go_at_call 37; (with_reducible refine hdig.mono ?_); rintro e w1 ⟨rfl, rfl⟩)
          | (go_at_call 38; (with_reducible refine hpl.mono ?_); rintro e w2 ⟨rfl, rfl⟩)
          | fail)
        go_ret2
        exact ⟨rfl, Below.refl _ _⟩
    · have q3 : (0 : Int) < (L : Int) := by omega
      have hg := bget (l := R) (k := 0) (by rw [HL.out]; omega)
      obtain ⟨n0, HN0⟩ : ∃ v, Hid ((bAt R 0).toNat = v) := ⟨_, rfl⟩
      have hg2 : ∀ h, ((⟨R.toArray⟩ : ByteArray)[0]'h).toNat = n0 := fun h => by rw [hg h]; exact HN0.out
      have hn45 : n0 ≠ 45 := by
        intro h
        have h1 := HB.out
        unfold cutB at h1
        rw [if_pos ⟨by rw [HL.out]; omega, by rw [HN0.out]; exact h⟩] at h1
        exact Bool.noConfusion h1
      have u4 : ((n0 : Int) == 45) = false := by simp; omega
      have u5 : ¬ (n0 : Int) = 45 := by omega
      clear hg hn45
      rcases hres with ⟨rfl, rfl, rfl, rfl⟩ | ⟨rfl, rfl, rfl, rfl⟩ | ⟨rfl, rfl, hbt, rfl, rfl, rfl⟩ | ⟨rfl, rfl, hbm, rfl, hVV, rfl, hm⟩
      · skip
        go_enter Tryd.func23, Tryd.ntmps23
        go_wp2_with (first
          | (go_at_call 37; (with_reducible refine hdig.mono ?_); rintro e w1 ⟨rfl, rfl⟩)
          | (go_at_call 38; (with_reducible refine hpl.mono ?_); rintro e w2 ⟨rfl, rfl⟩)
          | fail)
        go_ret2
        exact ⟨rfl, Below.refl _ _⟩
      · skip
        go_enter Tryd.func23, Tryd.ntmps23
        go_wp2_with (first
          | (go_at_call 37; (with_reducible refine hdig.mono ?_); rintro e w1 ⟨rfl, rfl⟩)
          | (go_at_call 38; (with_reducible refine hpl.mono ?_); rintro e w2 ⟨rfl, rfl⟩)
          | fail)
        go_ret2
        exact ⟨rfl, Below.refl _ _⟩
      · exact Bool.noConfusion hbt
      · obtain rfl : V = (M : Int) := by simpa using hVV
        clear hVV hbm
        go_enter Tryd.func23, Tryd.ntmps23
        go_wp2_with (first
          | (go_at_call 37; (with_reducible refine hdig.mono ?_); rintro e w1 ⟨rfl, rfl⟩)
          | (go_at_call 38; (with_reducible refine hpl.mono ?_); rintro e w2 ⟨rfl, rfl⟩)
          | fail)
        go_ret2
        exact ⟨rfl, Below.refl _ _⟩
end Go.Proofs.YtdacigihhbcppaaDoor

