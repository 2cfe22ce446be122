/-
  Zones: the law that every instant is among the instants of its local time.
-/
import Derived.Test.YtiohakpbgmignaaZbI
import Derived.Deep.RegionHeld3
set_option linter.unusedVariables false
set_option linter.unusedSimpArgs false
set_option warningAsError false
namespace Go.Proofs.Ytiohakpbgmignaa
open Go.RowKit

theorem iAt_mem {l : List Int} {k : Nat} (h : k < l.length) : iAt l k ∈ l := by
  have : iAt l k = l[k] := by simp [iAt, List.getD, List.getElem?_eq_getElem h]
  rw [this]; exact List.getElem_mem h
theorem iAt_asc {l : List Int} (hp : l.Pairwise (· < ·)) {i j : Nat} (hij : i < j) (hj : j < l.length) : iAt l i < iAt l j := by
  have e1 : iAt l i = l[i]'(by omega) := by simp [iAt, List.getD, List.getElem?_eq_getElem (show i < l.length by omega)]
  have e2 : iAt l j = l[j] := by simp [iAt, List.getD, List.getElem?_eq_getElem hj]
  rw [e1, e2]
  exact (List.pairwise_iff_getElem.1 hp) i j (by omega) hj hij
theorem mem_iAt {l : List Int} {x : Int} (h : x ∈ l) : ∃ k, k < l.length ∧ iAt l k = x := by
  obtain ⟨k, hk, e⟩ := List.getElem_of_mem h
  exact ⟨k, hk, by simp [iAt, List.getD, List.getElem?_eq_getElem hk, e]⟩
set_option maxHeartbeats 8000000 in
set_option maxRecDepth 1000000 in
theorem zoneBack_any (nm : List UInt8) (hnl : nm.length ≤ 9223372036854775807) (o : Int) (a : Option Addr) (n c : Nat) (ss : List (Int × Int)) (w : World) (hS : ShIn w a n ss) (hn : n ≤ 9223372036854775807) (t : Int) (ht0 : (-9223372036854775808 ≤ t ∧ t ≤ 9223372036854775807)) : Calls Try.prog 6 #[.agg #[.string ⟨nm.toArray⟩, .int .i64 o, .slice a n c], .int .i64 t] w (RetB1 w true) := by
  have hv := fun w hS => rvalidate_any nm hnl o a n c ss w hS hn
  have hlt := fun w hS => localTime_any nm hnl o a n c ss w hS hn
  have hin := fun w hS => instants_any nm hnl o a n c ss w hS hn
  have hok := @zE_ok (nameB nm) o ss
  have K0 := Lib.hid (KZ.start (nm := nm) (o := o) (c := c) hS 24)
  obtain ⟨E, HE⟩ : ∃ v, Hid (zE (nameB nm) o ss = v) := ⟨_, rfl⟩
  simp only [HE.out] at hv hlt hin
  rw [HE.out] at hok
  clear hS ht0
  by_cases hbig : 40 < n
  · have q1 : (40 : Int) < (n : Int) := by omega
    clear hlt hin hok
    go_enter Try.func6, Try.ntmps6
    obtain ⟨b0, c0, d0⟩ := K0.out.z
    go_wp2_with (first
      | (go_at_call 11; (with_reducible refine (awake7_any _).mono ?_); rintro e w9 ⟨rfl, g9⟩)
      | fail)
    go_ret
    exact ⟨rfl, (K0.out.call g9).b⟩
  have q1 : decide ((40 : Int) < (n : Int)) = false := decide_eq_false (by omega)
  by_cases h0 : E = 0
  · subst h0
    by_cases t1 : t < 0
    · clear hlt hin hok
      go_enter Try.func6, Try.ntmps6
      obtain ⟨b0, c0, d0⟩ := K0.out.z
      go_wp2_with (first
        | (go_at_call 13; (with_reducible refine (hv _ K0.out.s).mono ?_); rintro e w1 ⟨rfl, g1⟩; have K1 := Lib.hid (K0.out.call g1); obtain ⟨b1, c1, d1⟩ := K1.out.z; clear g1)
        | (go_at_call 11; (with_reducible refine (awake7_any _).mono ?_); rintro e w9 ⟨rfl, g9⟩)
        | fail)
      go_ret
      exact ⟨rfl, (K1.out.call g9).b⟩
    have t1' : decide (t < 0) = false := by simpa using t1
    by_cases t2 : 52596000 ≤ t
    · clear hlt hin hok
      go_enter Try.func6, Try.ntmps6
      obtain ⟨b0, c0, d0⟩ := K0.out.z
      go_wp2_with (first
        | (go_at_call 13; (with_reducible refine (hv _ K0.out.s).mono ?_); rintro e w1 ⟨rfl, g1⟩; have K1 := Lib.hid (K0.out.call g1); obtain ⟨b1, c1, d1⟩ := K1.out.z; clear g1)
        | (go_at_call 11; (with_reducible refine (awake7_any _).mono ?_); rintro e w9 ⟨rfl, g9⟩)
        | fail)
      go_ret
      exact ⟨rfl, (K1.out.call g9).b⟩
    have t2' : decide (52596000 ≤ t) = false := by simpa using t2
    obtain ⟨_, hz⟩ := hok rfl
    have hxb := hz.bound t
    have ei : okI t = true := by unfold okI; simp; omega
    have ea : atE 0 t = 0 := by unfold atE; rw [if_pos rfl, if_pos ei]
    have hl1 := fun w hS => hlt w hS t
    unfold ltD ltC at hl1
    simp only [ea, if_true] at hl1
    obtain ⟨d, hd⟩ : ∃ v, (t + offs o ss t) / 1440 = v := ⟨_, rfl⟩
    obtain ⟨k, hk⟩ : ∃ v, (t + offs o ss t) % 1440 = v := ⟨_, rfl⟩
    simp only [hd, hk] at hl1
    have hloc : 1440 * d + k = t + offs o ss t := by omega
    have hin1 := fun w hS => hin w hS d k
    have ec : isClockB k = true := by unfold isClockB; simp; omega
    have ee : insE 0 k = 0 := by unfold insE; rw [if_pos rfl, ec]; rfl
    unfold insL at hin1
    simp only [ee] at hin1
    have hdd : -1 ≤ d ∧ d ≤ 36525 := ⟨by omega, by omega⟩
    obtain ⟨L, hL⟩ : ∃ L, filt (qB o ss (1440 * d + k)) 0 maxN = L := ⟨_, rfl⟩
    simp only [hdd, and_self, true_and, if_true, hL] at hin1
    have hmN : (maxN : Int) = 52596000 := rfl
    have hmem : ∀ x, x ∈ L ↔ (0 ≤ x ∧ x < 52596000 ∧ x + offs o ss x = 1440 * d + k) := fun x => by
      rw [← hL, filt_mem, hmN]
      unfold qB
      rw [decide_eq_true_eq]
      constructor
      · rintro ⟨h1, h2, h3⟩; exact ⟨h1, by omega, h3⟩
      · rintro ⟨h1, h2, h3⟩; exact ⟨h1, by omega, h3⟩
    have hasc : L.Pairwise (· < ·) := by rw [← hL]; exact filt_asc _ _ _
    have htm : t ∈ L := (hmem t).2 ⟨by omega, by omega, by omega⟩
    obtain ⟨jt, hj1, hj2⟩ := mem_iAt htm
    have hl2 : ∀ x, x ∈ L → ∀ w, ShIn w a n ss → Calls Try.prog 18 #[.agg #[.string ⟨nm.toArray⟩, .int .i64 o, .slice a n c], .int .i64 x] w (RetTE w d k 0) := fun x hx w hS => by
      obtain ⟨x1, x2, x3⟩ := (hmem x).1 hx
      have h := hlt w hS x
      have ei : okI x = true := by unfold okI; simp; omega
      have ea : atE 0 x = 0 := by unfold atE; rw [if_pos rfl, if_pos ei]
      unfold ltD ltC at h
      simp only [ea, if_true] at h
      rw [x3, show (1440 * d + k) / 1440 = d by omega, show (1440 * d + k) % 1440 = k by omega] at h
      exact h
    have HL2 := Lib.hid hl2
    have HASC := Lib.hid hasc
    have HJ := Lib.hid (And.intro hj1 hj2)
    clear hl2 hj1 hj2 htm hasc hmem hmN hL hdd ee ec hin hloc hk hd ea ei hxb hz hok hlt
    go_enter Try.func6, Try.ntmps6
    obtain ⟨b0, c0, d0⟩ := K0.out.z
    go_wp2_with (first
      | (go_at_call 13; (with_reducible refine (hv _ K0.out.s).mono ?_); rintro e w1 ⟨rfl, g1⟩; have K1 := Lib.hid (K0.out.call g1); obtain ⟨b1, c1, d1⟩ := K1.out.z; clear g1)
      | (go_at_call 18; (with_reducible refine (hl1 _ K1.out.s).mono ?_); rintro e w2 ⟨rfl, g2⟩; have K2 := Lib.hid (K1.out.call g2); obtain ⟨b2, c2, d2⟩ := K2.out.z; clear g2)
      | (go_at_call 20; (with_reducible refine (hin1 _ K2.out.s).mono ?_); rintro e w3 ⟨v3, rfl, o3, g3⟩; obtain ⟨A3, C3, rfl, k3, m3, I3⟩ := IIn.of_owns o3; have HI3 := Lib.hid I3; have K3 := Lib.hid (K2.out.call g3); obtain ⟨b3, c3, d3⟩ := K3.out.z; clear g3 o3 I3)
      | fail)
    clear b0 c0 d0 b1 c1 d1 b2 c2 d2 b3 c3 d3
    obtain ⟨N, HN⟩ : ∃ N, Hid (L.length = N) := ⟨_, rfl⟩
    rw [HN.out] at HI3 k3 ⊢
    go_loopw [10, 11] (fun x i wr => ∃ (q : Nat) (B : Bool), q ≤ N ∧ x = .bool B ∧ i = .int .i64 q ∧ Hid (∀ j, j < q → iAt L j = t → B = true) ∧ Hid (KZ w wr w.heap.size nm o a n c ss) ∧ Hid (IIn wr A3 N L)) (fun _ i _ => N - (intOf i).toNat)
    case atStart => exact ⟨0, false, by omega, rfl, rfl, Lib.hid (fun j hj => by omega), K3, HI3⟩
    case round =>
      obtain ⟨q, B, hq, rfl, rfl, HB, KR, HI⟩ := hrel
      by_cases hqn : q < N
      · obtain ⟨g, x0, ea, eg, ec⟩ : ∃ g x0, A3 = some ⟨g, x0, none⟩ ∧ g < wr.heap.size ∧ ∀ i, i < N → wr.cell? ⟨g, x0 + i, none⟩ = some (.int .i64 (iAt L i)) := by
          rcases HI.out.2 with h | h
          · omega
          · exact h
        have s0 := ec q hqn
        have hx2 := HL2.out (iAt L q) (iAt_mem (by rw [HN.out]; exact hqn))
        have hprev : ∀ j, q = j + 1 → iAt L j < iAt L q ∧ wr.cell? ⟨g, x0 + j, none⟩ = some (.int .i64 (iAt L j)) := by
          rintro j rfl
          exact ⟨iAt_asc HASC.out (by omega) (by rw [HN.out]; omega), ec j (by omega)⟩
        obtain ⟨X, HX⟩ : ∃ v, Hid (iAt L q = v) := ⟨_, rfl⟩
        rw [HX.out] at s0
        simp only [HX.out] at hx2 hprev
        obtain ⟨z0, z1, z2⟩ := KR.out.z
        have hZl := KR.out.z.lt
        have j0 : (0 : Int) ≤ (q : Int) := by omega
        have j1 : (q : Int) < (N : Int) := by omega
        have j2 : ((q : Int)).toNat = q := rfl
        have HEC := Lib.hid ec
        have HEG := Lib.hid eg
        have HPV := Lib.hid hprev
        clear ec hprev
        subst ea
        go_upto_region 11 with fail
        first
        | go_region_held3 (fun w' => w'.cell? ⟨w.heap.size, 0, none⟩ = some (.string ⟨nm.toArray⟩) ∧ w'.cell? ⟨w.heap.size, 1, none⟩ = some (.int .i64 o) ∧ w'.cell? ⟨w.heap.size, 2, none⟩ = some (.slice a n c) ∧ w'.cell? ⟨g, x0 + q, none⟩ = some (.int .i64 X))
          (first | exact ⟨z0, z1, z2, s0⟩ | exact ⟨l0, l1, l2, l3⟩)
          (first
            | (go_at_call 18; (with_reducible refine (hx2 _ (by first | exact KR.out.s | exact KR.out.drew.s)).mono ?_); rintro e w5 ⟨rfl, g5⟩; have G5 := Lib.hid (by first | exact g5 | exact (Below.refl _ _).drew.trans g5 : Below wr.heap.size wr w5); obtain ⟨l0, l1, l2⟩ := KR.out.z.call G5.out; have l3 := (G5.out.cell (p := ⟨g, x0 + q, none⟩) HEG.out).trans s0; clear g5)
            | fail)
        | fail
        clear l0 l1 l2 l3
        have KC := Lib.hid (KR.out.call G5.out)
        have HIC := Lib.hid (HI.out.call G5.out)
        have s5 := (G5.out.cell (p := ⟨g, x0 + q, none⟩) HEG.out).trans s0
        clear z0 z1 z2 s0 hZl
        have r1 : (d != d) = false := by simp
        have r2 : (k != k) = false := by simp
        cases q with
        | zero =>
          simp only [Nat.add_zero] at s5
          have g0 : decide ((0 : Int) < ((0 : Nat) : Int)) = false := rfl
          by_cases hXt : X = t
          · have r3 : (X == t) = true := by simpa using hXt
            have HB2 : Hid (∀ j, j < 0 + 1 → iAt L j = t → true = true) := Lib.hid (fun _ _ _ => rfl)
            have HXT := Lib.hid hXt
            clear hXt
            cases B with
            | true =>
              go_wp2_with fail
              go_quiet (fail)
              go_wp2_with fail
              go_roundw
              case rel => exact ⟨1, true, by omega, rfl, by rfl, Lib.hid (fun _ _ _ => rfl), Lib.hid (KC.out.call (below_drewN (Below.refl _ _) _)), Lib.hid (HIC.out.call (below_drewN (Below.refl _ _) _))⟩
              case measure => simp [intOf]; omega
            | false =>
              go_wp2_with fail
              go_quiet (fail)
              go_wp2_with fail
              go_roundw
              case rel => exact ⟨1, true, by omega, rfl, by rfl, Lib.hid (fun _ _ _ => rfl), Lib.hid (KC.out.call (below_drewN (Below.refl _ _) _)), Lib.hid (HIC.out.call (below_drewN (Below.refl _ _) _))⟩
              case measure => simp [intOf]; omega
          · have r3 : (X == t) = false := by simpa using hXt
            have HB2 : Hid (∀ j, j < 0 + 1 → iAt L j = t → B = true) := Lib.hid (fun j hj h => by
              have hj0 : j = 0 := by omega
              subst hj0
              exact absurd (HX.out.symm.trans h) hXt)
            clear hXt
            cases B with
            | true =>
              go_wp2_with fail
              go_quiet (fail)
              go_wp2_with fail
              go_roundw
              case rel => exact ⟨1, true, by omega, rfl, by rfl, Lib.hid (fun _ _ _ => rfl), Lib.hid (KC.out.call (below_drewN (Below.refl _ _) _)), Lib.hid (HIC.out.call (below_drewN (Below.refl _ _) _))⟩
              case measure => simp [intOf]; omega
            | false =>
              go_wp2_with fail
              go_quiet (fail)
              go_wp2_with fail
              go_roundw
              case rel => exact ⟨1, false, by omega, rfl, by rfl, HB2, Lib.hid (KC.out.call (below_drewN (Below.refl _ _) _)), Lib.hid (HIC.out.call (below_drewN (Below.refl _ _) _))⟩
              case measure => simp [intOf]; omega
        | succ j =>
          obtain ⟨hp1, hp2⟩ := HPV.out j rfl
          have s6 := (G5.out.cell (p := ⟨g, x0 + j, none⟩) HEG.out).trans hp2
          obtain ⟨Y, HYY⟩ : ∃ v, Hid (iAt L j = v) := ⟨_, rfl⟩
          rw [HYY.out] at s6 hp1
          have i2 : ((j + 1 : Nat) : Int) - 1 = (j : Int) := by omega
          have i3 : (j : Int) < (N : Int) := by omega
          have i4 : (0 : Int) ≤ (j : Int) := by omega
          have i5 : (j : Int) + 1 - 1 = (j : Int) := by omega
          have i6 : (0 : Int) < (j : Int) + 1 := by omega
          have i7 : decide ((0 : Int) < (j : Int) + 1) = true := decide_eq_true i6
          have i8 : decide (X ≤ Y) = false := decide_eq_false (by omega)
          clear hp1 hp2
          by_cases hXt : X = t
          · have r3 : (X == t) = true := by simpa using hXt
            have HB2 : Hid (∀ i, i < j + 1 + 1 → iAt L i = t → true = true) := Lib.hid (fun _ _ _ => rfl)
            clear hXt
            cases B with
            | true =>
              go_wp2_with fail
              go_quiet (fail)
              go_wp2_with fail
              go_roundw
              case rel => exact ⟨j + 1 + 1, true, by omega, rfl, by go_num, Lib.hid (fun _ _ _ => rfl), Lib.hid (KC.out.call (below_drewN (Below.refl _ _) _)), Lib.hid (HIC.out.call (below_drewN (Below.refl _ _) _))⟩
              case measure => simp [intOf]; omega
            | false =>
              go_wp2_with fail
              go_quiet (fail)
              go_wp2_with fail
              go_roundw
              case rel => exact ⟨j + 1 + 1, true, by omega, rfl, by go_num, Lib.hid (fun _ _ _ => rfl), Lib.hid (KC.out.call (below_drewN (Below.refl _ _) _)), Lib.hid (HIC.out.call (below_drewN (Below.refl _ _) _))⟩
              case measure => simp [intOf]; omega
          · have r3 : (X == t) = false := by simpa using hXt
            have HB2 : Hid (∀ i, i < j + 1 + 1 → iAt L i = t → B = true) := Lib.hid (fun i hi h => by
              by_cases hij : i = j + 1
              · subst hij; exact absurd (HX.out.symm.trans h) hXt
              · exact HB.out i (by omega) h)
            clear hXt
            cases B with
            | true =>
              go_wp2_with fail
              go_quiet (fail)
              go_wp2_with fail
              go_roundw
              case rel => exact ⟨j + 1 + 1, true, by omega, rfl, by go_num, Lib.hid (fun _ _ _ => rfl), Lib.hid (KC.out.call (below_drewN (Below.refl _ _) _)), Lib.hid (HIC.out.call (below_drewN (Below.refl _ _) _))⟩
              case measure => simp [intOf]; omega
            | false =>
              go_wp2_with fail
              go_quiet (fail)
              go_wp2_with fail
              go_roundw
              case rel => exact ⟨j + 1 + 1, false, by omega, rfl, by go_num, HB2, Lib.hid (KC.out.call (below_drewN (Below.refl _ _) _)), Lib.hid (HIC.out.call (below_drewN (Below.refl _ _) _))⟩
              case measure => simp [intOf]; omega
      · obtain rfl : q = N := by omega
        have j1 : ¬ (q : Int) < (q : Int) := by omega
        obtain rfl := HB.out jt (by rw [← HN.out]; exact HJ.out.1) HJ.out.2
        go_wp2_with (first
          | (go_at_call 11; (with_reducible refine (awake7_any _).mono ?_); rintro e w9 ⟨rfl, g9⟩)
          | fail)
        go_ret
        exact ⟨rfl, (KR.out.call g9).b⟩
  · have h1 : (E != 0) = true := by simpa using h0
    clear hlt hin hok
    go_enter Try.func6, Try.ntmps6
    obtain ⟨b0, c0, d0⟩ := K0.out.z
    go_wp2_with (first
      | (go_at_call 13; (with_reducible refine (hv _ K0.out.s).mono ?_); rintro e w1 ⟨rfl, g1⟩; have K1 := Lib.hid (K0.out.call g1); obtain ⟨b1, c1, d1⟩ := K1.out.z; clear g1)
      | (go_at_call 11; (with_reducible refine (awake7_any _).mono ?_); rintro e w9 ⟨rfl, g9⟩)
      | fail)
    go_ret
    exact ⟨rfl, (K1.out.call g9).b⟩
end Go.Proofs.Ytiohakpbgmignaa

