/-
  Lehmer's method: the greatest common divisor of two numbers.
  The program's greatest common divisor.
  The reference's greatest common divisor.
-/
import Derived.Test.YtgjkgmlcfieodaaLehm
import Derived.Test.YtgjkgmlcfieodaaLongB
import Derived.Deep.RegionHeld3
import Derived.Deep.DeepCutAuto
import Derived.Deep.LoopGhost
import Derived.Test.YtgjkgmlcfieodaaEgcd
import Derived.Test.YtgjkgmlcfieodaaRdm
import Derived.Deep.AppendLies
set_option linter.unusedVariables false
set_option linter.unusedSimpArgs false
namespace Go.Proofs.Ytgjkgmlcfieodaa
open Go.RowKit

/-- The two numbers of the loop. -/
def GdI (w wr : World) (G : Nat) (A : Option Addr) (n c : Nat) (A' : Option Addr) (n' c' X Y : Nat) : Prop :=
  Dgs wr wr.heap.size A n (digs X) ∧ Dgs wr wr.heap.size A' n' (digs Y) ∧ n ≤ c ∧ c ≤ maxLen ∧ n' ≤ c' ∧ c' ≤ maxLen ∧ n ≤ 1000000 ∧ Y ≤ X ∧ Nat.gcd X Y = G ∧ Below w.heap.size w wr

theorem FoP.next {X Y : Nat} {a b c d : Int} (h : FoP X Y a b c d) (hb : b ≠ 0) : (0 ≤ a * (X : Int) + b * (Y : Int) ∧ a * (X : Int) + b * (Y : Int) ≤ X) ∧ (0 ≤ c * (X : Int) + d * (Y : Int) ∧ c * (X : Int) + d * (Y : Int) ≤ X) ∧
    (a * (X : Int) + b * (Y : Int)).toNat ≤ X ∧ (c * (X : Int) + d * (Y : Int)).toNat ≤ (a * (X : Int) + b * (Y : Int)).toNat ∧ (c * (X : Int) + d * (Y : Int)).toNat < Y ∧ Nat.gcd (a * (X : Int) + b * (Y : Int)).toNat (c * (X : Int) + d * (Y : Int)).toNat = Nat.gcd X Y := by
  obtain ⟨-, -, h1, h2, h3, h4, h5, h6⟩ := h
  have h5 := h5 hb
  generalize a * (X : Int) + b * (Y : Int) = f at h2 h3 h6 ⊢
  generalize c * (X : Int) + d * (Y : Int) = s at h1 h2 h4 h5 h6 ⊢
  refine ⟨by omega, by omega, by omega, by omega, by omega, ?_⟩
  obtain ⟨f, rfl⟩ := Int.eq_ofNat_of_zero_le (show 0 ≤ f by omega)
  obtain ⟨s, rfl⟩ := Int.eq_ofNat_of_zero_le h1
  rw [Int.gcd_natCast_natCast, Int.gcd_natCast_natCast] at h6
  simpa using h6

set_option maxHeartbeats 8000000 in
set_option maxRecDepth 100000 in
theorem gcdDigits_any (A A' : Option Addr) (n n' c c' x y : Nat) (w : World) (h : Dgs w w.heap.size A n (digs x)) (h' : Dgs w w.heap.size A' n' (digs y)) (hc : n ≤ c) (hm : c ≤ maxLen) (hc' : n' ≤ c') (hm' : c' ≤ maxLen) (hs : n ≤ 1000000) (hs' : n' ≤ 1000000) :
    Calls Try.prog 77 #[.slice A n c, .slice A' n' c'] w (RetD w (Nat.gcd x y)) := by
  obtain ⟨G, HG⟩ : ∃ G, Hid (Nat.gcd x y = G) := ⟨_, rfl⟩
  rw [HG.out]
  have hcmp := compareDigits_any A A' n n' c c' w.heap.size w.heap.size x y w h h' (by omega) (by omega)
  obtain ⟨v, HV⟩ : ∃ v, Hid (cmpI (x : Int) y = v) := ⟨_, rfl⟩
  rw [HV.out] at hcmp
  have H1 := Lib.hid h
  have H2 := Lib.hid h'
  clear h h'
  go_enter Try.func77, Try.ntmps77
  go_upto_if 11 with (first
    | (go_at_call 36; (with_reducible refine hcmp.mono ?_); rintro e w1 ⟨rfl, hw1⟩)
    | fail)
  go_cut [0, 1] (fun p q wx => ∃ (A : Option Addr) (n c : Nat) (A' : Option Addr) (n' c' X Y : Nat), p = .slice A n c ∧ q = .slice A' n' c' ∧ GdI w wx G A n c A' n' c' X Y)
  case first =>
    have d1 := hw1.dgs' H1.out
    have d2 := hw1.dgs' H2.out
    have hB := hw1.below w.heap.size
    by_cases hxy : x < y
    · have hv : v < 0 := by rw [← HV.out, cmpI_lt (by omega)]; omega
      clear hxy
      have hxy : x < y := by
        rcases Nat.lt_or_ge x y with h1 | h1
        · exact h1
        · have := HV.out; unfold cmpI at this; split at this
          · omega
          · split at this <;> omega
      have HXY := Lib.hid hxy
      clear hxy
      go_wp2_with fail
      go_meet
      exact ⟨A', n', c', A, n, c, y, x, rfl, rfl, d2, d1, hc', hm', hc, hm, hs', Nat.le_of_lt HXY.out, by rw [Nat.gcd_comm]; exact HG.out, hB⟩
    · have hv : ¬ v < 0 := by rw [← HV.out]; unfold cmpI; split <;> (try split) <;> omega
      have HXY := Lib.hid hxy
      clear hxy
      go_wp2_with fail
      go_meet
      exact ⟨A, n, c, A', n', c', x, y, rfl, rfl, d1, d2, hc, hm, hc', hm', hs, Nat.le_of_not_lt HXY.out, HG.out, hB⟩
  case rest =>
    clear hw1 hcmp H1 H2
    obtain ⟨A, n, c, A', n', c', X, Y, rfl, rfl, hI⟩ := hcut
    go_wp2_with fail
    go_loopg [0, 1] Y (fun k p q wr => ∃ (A : Option Addr) (n c : Nat) (A' : Option Addr) (n' c' X Y : Nat), Y = k ∧ p = .slice A n c ∧ q = .slice A' n' c' ∧ GdI w wr G A n c A' n' c' X Y)
    case atStart => exact ⟨A, n, c, A', n', c', X, Y, rfl, rfl, rfl, hI⟩
    case round =>
      clear hI
      obtain ⟨A, n, c, A', n', c', X, Y, rfl, rfl, rfl, hI⟩ := hrel
      obtain ⟨hd, hd', hc, hm, hc', hm', hs, hYX, hG, hB⟩ := hI
      have hnn : n' ≤ n := by rw [← hd.len, ← hd'.len]; exact digs_mono hYX
      have hs' : n' ≤ 1000000 := by omega
      have HG := Lib.hid hG
      have HYX := Lib.hid hYX
      clear hG hYX
      by_cases h0 : n' = 0
      · subst h0
        obtain rfl := digs_nil hd'.len
        have HE : Hid (X = G) := by unfold Hid; rw [← HG.out, Nat.gcd_zero_right]
        by_cases h2 : 2 < n
        · have i1 : (2 : Int) < (n : Int) := by omega
          go_wp2_with (go_at_call 70; (with_reducible refine (clone_any A n c (digs X) _ hd hc hm hs).mono ?_); rw [HE.out]; rintro e w2 ⟨A2, n2, c2, rfl, hd2, hn2, hc2, hb2⟩)
          go_ret
          exact RetD.mk_ hd2 hn2 hc2 (bcall hB hb2)
        · have i1 : ¬ (2 : Int) < (n : Int) := by omega
          go_wp2_with (go_at_call 70; (with_reducible refine (clone_any A n c (digs X) _ hd hc hm hs).mono ?_); rw [HE.out]; rintro e w2 ⟨A2, n2, c2, rfl, hd2, hn2, hc2, hb2⟩)
          go_ret
          exact RetD.mk_ hd2 hn2 hc2 (bcall hB hb2)
      by_cases h2 : n ≤ 2
      · have i1 : ¬ (2 : Int) < (n : Int) := by omega
        have i2 : ¬ (n' : Int) = 0 := by omega
        have hX := digs_le_two (v := X) (by rw [hd.len]; exact h2)
        have hY := digs_le_two (v := Y) (by rw [hd'.len]; omega)
        have hn2 : n' ≤ 2 := by omega
        have hg : Nat.gcd X Y < 18446744073709551616 := by
          rcases Nat.eq_zero_or_pos X with hx0 | hx0
          · subst hx0; rw [Nat.gcd_zero_left]; exact hY
          · exact Nat.lt_of_le_of_lt (Nat.gcd_le_left Y hx0) hX
        have hG2 : G < 18446744073709551616 := by rw [← HG.out]; exact hg
        clear hg
        go_wp2_with (first
          | (go_at_call_of 89 (Value.slice A n c); (with_reducible refine (toWord_any _ _ _ _ _ _ hd hc hm h2).mono ?_); rw [val_digs]; rintro e w3 ⟨rfl, rfl⟩)
          | (go_at_call_of 89 (Value.slice A' n' c'); (with_reducible refine (toWord_any _ _ _ _ _ _ hd' hc' hm' hn2).mono ?_); rw [val_digs]; rintro e w3 ⟨rfl, rfl⟩)
          | (go_at_call 92; (with_reducible refine (gcdWords_any X Y hX hY _).mono ?_); rw [HG.out]; rintro e w4 ⟨rfl, hw4⟩)
          | (go_at_call 38; (with_reducible refine (fromWord_any G hG2 _).mono ?_); rintro e w5 ⟨A5, n5, c5, rfl, hd5, hn5, hc5, hb5⟩))
        go_ret
        exact RetD.mk_ hd5 hn5 hc5 (bcall (bcall hB (hw4.below _)) hb5)
      have i1 : (2 : Int) < (n : Int) := by omega
      have i2 : (0 : Int) < (n' : Int) := by omega
      have hY0 : Y ≠ 0 := by rintro rfl; have := hd'.len; rw [digs_zero] at this; simp at this; omega
      have hfo := foresee_any A A' n n' c c' X Y wr hd hd' hs hs' (by omega) HYX.out
      have HY0 := Lib.hid hY0
      clear hY0 h0 h2
      go_upto_region 5 with (first
        | (go_at_call 90; (with_reducible refine hfo.mono ?_); rintro e w5 ⟨a, b, c0, d, rfl, hP, hb5⟩)
        | fail)
      have HP := Lib.hid hP
      have hb7 := bcall hb5 (bnew w5 (.cells #[.int .i64 a, .int .i64 b, .int .i64 c0, .int .i64 d] 87))
      have hO : OwnL (w5.alloc (.cells #[.int .i64 a, .int .i64 b, .int .i64 c0, .int .i64 d] 87)) w5.heap.size 87 [.int .i64 a, .int .i64 b, .int .i64 c0, .int .i64 d] := OwnL.new _ _ _
      have e1 := (hd.below hb7).more hb7.size
      have e2 := (hd'.below hb7).more hb7.size
      have hB7 := bcall hB hb7
      clear hP hfo hb5 hb7 hd hd' hB
      generalize w5.alloc (.cells #[.int .i64 a, .int .i64 b, .int .i64 c0, .int .i64 d] 87) = W7 at hO e1 e2 hB7 ⊢
      generalize w5.heap.size = h7 at hO ⊢
      obtain ⟨q0, q1, q2, q3⟩ := hO.cells
      by_cases hb : b = 0
      · have hdv := fun w' k k' => divDigits_any A A' n n' c c' X Y w' k k' hc hm hc' hm' hs HY0.out (longOk Y)
        have HN : Hid (Y ≤ 0 ∨ (X % Y < Y ∧ Nat.gcd Y (X % Y) = G)) := Or.inr ⟨Nat.mod_lt _ (by have := HY0.out; omega), by
          rw [← HG.out, Nat.gcd_comm X Y, Nat.gcd_rec Y X, Nat.gcd_comm]⟩
        go_wp2_with (first
          | (go_at_call 74; (with_reducible refine (hdv _ e1 e2).mono ?_); rintro e w8 ⟨A3, n3, c3, A4, n4, c4, rfl, hd3, hn3, hc3, hd4, hn4, hc4, hb3⟩)
          | fail)
        have hM : X % Y < Y := by have := HN.out; have := HY0.out; omega
        have e3 := (e2.below hb3).more hb3.size
        have hB8 := bcall hB7 hb3
        have hs3 : (digs X).length = n := e1.len
        clear hd3 hn3 hc3 hb3 e1 e2 hB7 hdv HP q0 q1 q2 q3 hO
        have HR : GdI w w8 G A' n' c' A4 n4 c4 Y (X % Y) := ⟨e3, hd4, hc', hm', hn4, hc4, hs', Nat.le_of_lt hM, (by have := HN.out; have := HY0.out; omega), hB8⟩
        clear HN
        go_roundg (X % Y)
        case rel => exact ⟨A', n', c', A4, n4, c4, Y, X % Y, rfl, rfl, rfl, HR⟩
        case measure => exact hM
      · have hbb : (b != 0) = true := by simpa using hb
        have HN := Lib.hid (HP.out.next hb)
        have hP := HP.out
        obtain ⟨R, HR⟩ : ∃ v, Hid (v = a * (X : Int) + b * (Y : Int)) := ⟨_, rfl⟩
        obtain ⟨S, HS⟩ : ∃ v, Hid (v = c0 * (X : Int) + d * (Y : Int)) := ⟨_, rfl⟩
        rw [← HR.out, ← HS.out] at HN
        obtain ⟨h1, ⟨a1, a2, b1, b2, c1, c2, d1, d2⟩, -⟩ := hP
        have hR := fun w' k k' => combine_any A A' n n' c c' X Y a b R w' k k' hs hs' HYX.out a1 a2 b1 b2 (by omega) HR.out HN.out.1.1 HN.out.1.2
        have hS := fun w' k k' => combine_any A A' n n' c c' X Y c0 d S w' k k' hs hs' HYX.out c1 c2 d1 d2 (by omega) HS.out HN.out.2.1.1 HN.out.2.1.2
        have hm1 : (digs R.toNat).length ≤ n := by rw [← e1.len]; exact digs_mono HN.out.2.2.1
        have hm2 := HN.out.2.2.2.1
        have hm3 := HN.out.2.2.2.2.1
        have hm4 : Nat.gcd R.toNat S.toNat = G := HN.out.2.2.2.2.2.trans HG.out
        clear h1 a1 a2 b1 b2 c1 c2 d1 d2 HN HR HS HP HYX
        go_upto_region 6 with fail
        have Kd := hO.below (Below.refl _ W7).drew
        have f1 := (e1.below (Below.refl _ W7).drew)
        have f2 := (e2.below (Below.refl _ W7).drew)
        have hBd := bcall hB7 (Below.refl _ W7).drew
        clear q0 q1 q2 q3 e1 e2 hB7 hO
        obtain ⟨q0, q1, q2, q3⟩ := Kd.cells
        go_region_held3 (fun w' => w'.cell? ⟨h7, 0, none⟩ = some (.int .i64 a) ∧ w'.cell? ⟨h7, 1, none⟩ = some (.int .i64 b) ∧ w'.cell? ⟨h7, 2, none⟩ = some (.int .i64 c0) ∧ w'.cell? ⟨h7, 3, none⟩ = some (.int .i64 d))
          (go_keep)
          (first
            | (go_at_call_of 91 (Value.agg #[.int .i64 a, .int .i64 b]); (with_reducible refine (hR _ f1 f2).mono ?_); rintro e wa ⟨B1, l1, k1, rfl, g1, u1, v1, y1⟩; replace Kd := Kd.below y1; replace f1 := (f1.below y1).more y1.size; replace f2 := (f2.below y1).more y1.size; replace hBd := bcall hBd y1; (try replace g2 := (g2.below y1).more y1.size); clear q0 q1 q2 q3; obtain ⟨q0, q1, q2, q3⟩ := Kd.cells)
            | (go_at_call_of 91 (Value.agg #[.int .i64 c0, .int .i64 d]); (with_reducible refine (hS _ f1 f2).mono ?_); rintro e wb ⟨B2, l2, k2, rfl, g2, u2, v2, y2⟩; replace Kd := Kd.below y2; replace f1 := (f1.below y2).more y2.size; replace f2 := (f2.below y2).more y2.size; replace hBd := bcall hBd y2; (try replace g1 := (g1.below y2).more y2.size); clear q0 q1 q2 q3; obtain ⟨q0, q1, q2, q3⟩ := Kd.cells)
            | fail)
        all_goals
          go_wp2_with fail
          go_roundg (S.toNat)
          case rel => exact ⟨B1, l1, k1, B2, l2, k2, R.toNat, S.toNat, rfl, rfl, rfl, g1, g2, u1, v1, u2, v2, (by rw [g1.len] at hm1; omega), hm2, hm4, hBd⟩
          case measure => exact hm3

theorem trim_at {w : World} {s : Bool} {A : Option Addr} {n c : Nat} {x : Int} (h : IntAt w s A n c x) : Calls Try.prog 69 #[.slice A n c] w (RetT w w.heap.size A x.natAbs n) := by
  obtain ⟨ds, h1, h2, h3, rfl, h5⟩ := h
  rw [zOf_natAbs]
  exact trim_ret A n c w.heap.size ds w h1 h2 h3
theorem IntAt.lim {w : World} {s : Bool} {A : Option Addr} {n c : Nat} {x : Int} (h : IntAt w s A n c x) : n ≤ 1000000 := by
  obtain ⟨ds, h1, h2, h3, rfl, h5⟩ := h
  exact h5
theorem newInt_at {w : World} {s : Bool} {A : Option Addr} {n c v : Nat} (h : Dgs w w.heap.size A n (digs v)) (hc : n ≤ c) (hm : c ≤ maxLen) : Calls Try.prog 37 #[.bool s, .slice A n c] w (RetZ w (zOf s v)) := by
  have := newInt_any s A n c (digs v) w h hc hm
  rwa [val_digs] at this
theorem RetZ.of_st {w0 w : World} {l : List (Nat × TypeId × List Value)} {k : List (Bool × Option Addr × Nat × Nat × Int × Bool)} {A : Option Addr} {n c : Nat} {z : Int}
    (h : St w0 w l ((decide (z < 0), A, n, c, z, true) :: k)) : RetZ w0 z (.returned (.agg #[.bool (decide (z < 0)), .slice A n c])) w :=
  have h1 := h.ints.1.c
  ⟨A, n, c, rfl, h1.2.1, h1.2.2.1, h1.2.2.2, h.below⟩

set_option maxHeartbeats 4000000 in
set_option maxRecDepth 100000 in
theorem gcd_at {w : World} {s s' : Bool} {A A' : Option Addr} {n c n' c' : Nat} {a b : Int} (h : IntAt w s A n c a) (h' : IntAt w s' A' n' c' b) :
    Calls Try.prog 50 #[.agg #[.bool s, .slice A n c], .agg #[.bool s', .slice A' n' c']] w (RetZ w (Int.gcd a b : Nat)) := by
  have H0 := ((((((St.start w).addI h).addI h').new 24 (Plains.two s A n c))).new 24 (Plains.two s' A' n' c')).new 24 (Plains.two false none 0 0)
  simp only [World.size_alloc] at H0
  have HH := Lib.hid H0
  have l1 := h.lim
  have l2 := h'.lim
  obtain ⟨G, HG⟩ : ∃ G, Hid (Nat.gcd a.natAbs b.natAbs = G) := ⟨_, rfl⟩
  have HG2 : Hid (Int.gcd a b = G) := HG
  rw [HG2.out]
  clear H0 h h'
  go_enter Try.func50, Try.ntmps50
  go_upto_region 1 with fail
  have K := HH.out
  clear HH
  generalize (((w.alloc (.cells #[.bool s, .slice A n c] 24)).alloc (.cells #[.bool s', .slice A' n' c'] 24)).alloc (.cells #[.bool false, .slice none 0 0] 24)) = W0 at K ⊢
  have Kd := K.drew
  clear K
  obtain ⟨_, ⟨p0, p1⟩, ⟨p2, p3⟩, _⟩ := Kd.facts
  obtain ⟨f0, f1⟩ := Kd.free (i := 0) rfl
  obtain ⟨ib, ia, _⟩ := Kd.ints
  obtain ⟨y1, y2⟩ := Kd.ne 0 1 rfl rfl (by decide)
  obtain ⟨y3, y4⟩ := Kd.ne 0 2 rfl rfl (by decide)
  have en1 : ¬ w.heap.size + 1 = w.heap.size := by omega
  have z0 : ∀ m : Nat, zOf false m = m := fun m => rfl
  go_region_held3 (fun w' => w'.cell? ⟨w.heap.size, 0, none⟩ = some (.bool s) ∧ w'.cell? ⟨w.heap.size, 1, none⟩ = some (.slice A n c) ∧ w'.cell? ⟨w.heap.size + 1, 0, none⟩ = some (.bool s') ∧ w'.cell? ⟨w.heap.size + 1, 1, none⟩ = some (.slice A' n' c'))
    (go_keep)
    (first
      | (go_at_call_of 69 (Value.slice A n c); (with_reducible refine (trim_at ia.i).mono ?_); rintro e w1 ⟨t1, rfl, d1, u1, rfl⟩)
      | (go_at_call_of 69 (Value.slice A' n' c'); (with_reducible refine (trim_at ib.i).mono ?_); rintro e w1 ⟨t2, rfl, d2, u2, rfl⟩)
      | (go_at_call 77; (with_reducible refine (gcdDigits_any _ _ _ _ _ _ _ _ _ d1 d2 (Nat.le_refl _) (by unfold maxLen; omega) (Nat.le_refl _) (by unfold maxLen; omega) (by omega) (by omega)).mono ?_); rw [HG.out]; rintro e w3 ⟨A3, n3, c3, rfl, d3, u3, v3, g3⟩; have K3 := Kd.call g3; clear p0 p1 p2 p3; obtain ⟨_, ⟨p0, p1⟩, ⟨p2, p3⟩, _⟩ := K3.facts)
      | (go_at_call 37; (with_reducible refine (newInt_at d3 u3 v3).mono ?_); rw [z0]; rintro e w4 ⟨A4, n4, c4, rfl, d4, u4, v4, g4⟩; have K4 := (K3.call g4).add (CanAt.mk_ d4 u4 v4); clear p0 p1 p2 p3; obtain ⟨⟨q0, q1⟩, ⟨p0, p1⟩, ⟨p2, p3⟩, _⟩ := K4.facts; obtain ⟨f0, f1⟩ := K4.free (i := 0) rfl)
      | fail)
  go_wp2_with fail
  have K5 := K4.put 0 rfl (decide ((G : Int) < 0)) A4 n4 c4
  simp only [List.set] at K5
  generalize ((w4.setCell ⟨w.heap.size + 1 + 1, 0, none⟩ (.bool (decide ((G : Int) < 0)))).setCell ⟨w.heap.size + 1 + 1, 1, none⟩ (.slice A4 n4 c4)) = W5 at K5 ⊢
  obtain ⟨⟨r0, r1⟩, _⟩ := K5.facts
  exact bodyPost_ret (v := .agg #[.bool (decide ((G : Int) < 0)), .slice A4 n4 c4]) (by simp [results, Try.results50, go_sem, r0, r1]) rfl (RetZ.of_st K5)

/-- A copy of digits is made by append. -/
theorem step_append_digs {w : World} {ops : Array Oper} {o : Oper} {a : Act} {K : Act → World → Prop} {Q : Exit → Act → World → Prop} {E : Prop} (hgd : o.guard = none) (s x : Operand)
    (ho : o.op = .call { callee := .builtin .append, args := #[s, x], argTypes := #[22, 22] }) (A : Option Addr) (n c v : Nat) (hs : a.eval s = .slice none 0 0) (hx : a.eval x = .slice A n c)
    (hd : Dgs w w.heap.size A n (digs v)) (hn : n ≤ 1000000)
    (h : ∀ A1 c1 w1, Dgs w1 w1.heap.size A1 n (digs v) → n ≤ c1 → c1 ≤ maxLen → Below w.heap.size w w1 → K (a.put o.dst (.slice A1 n c1)) w1) :
    if Region.wanted o (yielded ops a.tmps) = true then Oper.wp Try.prog o a w K Q else E := by
  obtain ⟨i0, hi, hz0, hz1, hz2⟩ := info_parts u32_info
  cases n with
  | zero =>
    have hw : Region.wanted o (yielded ops a.tmps) = true := by simp [Region.wanted, hgd]
    rw [if_pos hw]
    have hrun := run_append_nothing (P := Try.prog) (w := w) 22 o.type 69 i0 Try.underlying22 hi A c
    unfold Oper.wp
    simp [execOp, ho, resolve, invoke, builtin, hs, hx, hrun, Result.andThen]
    have : digs v = [] := List.eq_nil_of_length_eq_zero hd.len
    exact h none 0 w (by rw [this]; exact Dgs.none_) (Nat.le_refl _) (Nat.zero_le _) (Below.refl _ _)
  | succ k =>
    obtain ⟨b, off, rfl, hbb1, hcell⟩ := hd.at_ (Nat.succ_pos _)
    refine step_append_lies _ hgd s x 22 ho w.heap.size 69 i0 (.int .u32 0) 1 4 Try.underlying22 hi hz0 hz1 hz2 rfl (by omega) (.slice none 0 0) 0 [] hs (World.ownsRow_nil _ _ _ _) ⟨b, off, none⟩ (k + 1) c (dcells (digs v)) hx (by rw [dcells_length, hd.len]; omega) hd.news (dcells_one _) (Nat.succ_pos _) (by unfold maxLen; omega) (by omega) (Nat.le_refl _) _ rfl ?_
    intro g cap w1 hown hg hat hlt1
    simp only [Nat.zero_add, List.nil_append] at hown ⊢
    have hB1 : Below w.heap.size w w1 := (Below.refl _ _).grown hg (Nat.le_refl _) (fun k hk => by simp [Value.ownBlock] at hk)
    exact h _ _ _ (Dgs.of_own hown hd.dig) (World.ownsRow.le hown).1 (World.ownsRow.le hown).2 hB1
theorem rtrim_at {w : World} {s : Bool} {A : Option Addr} {n c : Nat} {x : Int} (h : IntAt w s A n c x) : Calls Try.prog 79 #[.slice A n c] w (RetR w w.heap.size A x.natAbs n c) := by
  obtain ⟨ds, h1, h2, h3, rfl, h5⟩ := h
  rw [zOf_natAbs]
  exact rtrim_ret A n c w.heap.size ds w h1 h2 h3

/-- The two numbers of the loop. -/
def GrI (w wr : World) (G : Nat) (A : Option Addr) (n c : Nat) (A' : Option Addr) (n' c' X Y : Nat) (s1 s2 : Bool) (A1 A2 : Option Addr) (n1 c1 n2 c2 : Nat) : Prop :=
  St w wr [vi (w.heap.size + 1 + 1) false none 0 0, vi (w.heap.size + 1) s2 A2 n2 c2, vi w.heap.size s1 A1 n1 c1] [(false, A, n, c, (X : Int), true), (false, A', n', c', (Y : Int), true)] ∧
    Nat.gcd X Y = G ∧ Sz (X : Int) 2000 ∧ Sz (Y : Int) 2000

set_option maxHeartbeats 8000000 in
set_option maxRecDepth 100000 in
theorem rgcd_at {w : World} {s s' : Bool} {A A' : Option Addr} {n c n' c' : Nat} {a b : Int} (h : IntAt w s A n c a) (h' : IntAt w s' A' n' c' b) (za : Sz a 2000) (zb : Sz b 2000) :
    Calls Try.prog 54 #[.agg #[.bool s, .slice A n c], .agg #[.bool s', .slice A' n' c']] w (RetZ w (Int.gcd a b : Nat)) := by
  have H0 := ((((((St.start w).addI h).addI h').new 24 (Plains.two s A n c))).new 24 (Plains.two s' A' n' c')).new 24 (Plains.two false none 0 0)
  simp only [World.size_alloc] at H0
  have HH := Lib.hid H0
  have l1 := h.lim
  have l2 := h'.lim
  obtain ⟨G, HG⟩ : ∃ G, Hid (Nat.gcd a.natAbs b.natAbs = G) := ⟨_, rfl⟩
  have HG2 : Hid (Int.gcd a b = G) := HG
  rw [HG2.out]
  have HZ1 : Hid (Sz ((a.natAbs : Nat) : Int) 2000) := za.le (by rw [Int.natAbs_natCast]; exact Nat.le_refl _)
  have HZ2 : Hid (Sz ((b.natAbs : Nat) : Int) 2000) := zb.le (by rw [Int.natAbs_natCast]; exact Nat.le_refl _)
  clear H0 h h'
  go_enter Try.func54, Try.ntmps54
  go_upto_region 1 with fail
  have K := HH.out
  clear HH
  generalize (((w.alloc (.cells #[.bool s, .slice A n c] 24)).alloc (.cells #[.bool s', .slice A' n' c'] 24)).alloc (.cells #[.bool false, .slice none 0 0] 24)) = W0 at K ⊢
  go_cut [5, 6] (fun p q wx => ∃ (B1 : Option Addr) (m1 e1 : Nat) (B2 : Option Addr) (m2 e2 : Nat) (X Y : Nat), p = .slice B1 m1 e1 ∧ q = .slice B2 m2 e2 ∧ GrI w wx G B1 m1 e1 B2 m2 e2 X Y s s' A A' n c n' c')
  case first =>
    have Kd := K.drew
    clear K
    obtain ⟨_, ⟨p0, p1⟩, ⟨p2, p3⟩, _⟩ := Kd.facts
    obtain ⟨ib, ia, _⟩ := Kd.ints
    have ib := ib.i
    have ia := ia.i
    go_region_held3 (fun w' => w'.cell? ⟨w.heap.size, 0, none⟩ = some (.bool s) ∧ w'.cell? ⟨w.heap.size, 1, none⟩ = some (.slice A n c) ∧ w'.cell? ⟨w.heap.size + 1, 0, none⟩ = some (.bool s') ∧ w'.cell? ⟨w.heap.size + 1, 1, none⟩ = some (.slice A' n' c'))
      (go_keep)
      (first
        | (go_at_call_of 79 (Value.slice A n c); (with_reducible refine (rtrim_at ia).mono ?_); rintro e w1 ⟨t1, rfl, d1, u1, rfl⟩)
        | (go_at_call_of 79 (Value.slice A' n' c'); (with_reducible refine (rtrim_at ib).mono ?_); rintro e w1 ⟨t2, rfl, d2, u2, rfl⟩)
        | (refine step_append_digs (by rfl) _ _ (by rfl) A t1 c _ (by rfl) (by rfl) d1 (by omega) ?_; intro B1 e1 y1 g1 v1 x1 b1; replace ia := ia.call b1; replace ib := ib.call b1; replace Kd := (Kd.call b1).add (CanAt.nat g1 v1 x1); clear p0 p1 p2 p3; obtain ⟨_, ⟨p0, p1⟩, ⟨p2, p3⟩, _⟩ := Kd.facts; (try replace d2 := (d2.below b1).more b1.size))
        | (refine step_append_digs (by rfl) _ _ (by rfl) A' t2 c' _ (by rfl) (by rfl) d2 (by omega) ?_; intro B2 e2 y2 g2 v2 x2 b2; replace ia := ia.call b2; replace ib := ib.call b2; replace Kd := (Kd.call b2).add (CanAt.nat g2 v2 x2); clear p0 p1 p2 p3; obtain ⟨_, ⟨p0, p1⟩, ⟨p2, p3⟩, _⟩ := Kd.facts; (try replace d1 := (d1.below b2).more b2.size))
        | fail)
    all_goals
      go_wp2_with fail
      go_meet
      obtain ⟨i1, i2, _⟩ := Kd.ints
      first
        | exact ⟨B1, t1, e1, B2, t2, e2, a.natAbs, b.natAbs, rfl, rfl, Kd.ints_ ⟨i1, i2, trivial⟩, HG.out, HZ1.out, HZ2.out⟩
        | exact ⟨B1, t1, e1, B2, t2, e2, a.natAbs, b.natAbs, rfl, rfl, Kd.ints_ ⟨i2, i1, trivial⟩, HG.out, HZ1.out, HZ2.out⟩
  case rest =>
    clear K W0 HZ1 HZ2 HG HG2
    obtain ⟨B1, m1, e1, B2, m2, e2, X, Y, rfl, rfl, hI⟩ := hcut
    go_wp2_with fail
    go_loopg [5, 6] Y (fun k p q wr => ∃ (B1 : Option Addr) (m1 e1 : Nat) (B2 : Option Addr) (m2 e2 : Nat) (X Y : Nat), Y = k ∧ p = .slice B1 m1 e1 ∧ q = .slice B2 m2 e2 ∧ GrI w wr G B1 m1 e1 B2 m2 e2 X Y s s' A A' n c n' c')
    case atStart => exact ⟨B1, m1, e1, B2, m2, e2, X, Y, rfl, rfl, rfl, hI⟩
    case round =>
      clear hI
      obtain ⟨B1, m1, e1, B2, m2, e2, X, Y, rfl, rfl, rfl, K, hG, zX, zY⟩ := hrel
      have HG := Lib.hid hG
      clear hG
      have kX : (digs X).length ≤ 1000000 := by have := zX.ok; rwa [Int.natAbs_natCast] at this
      obtain ⟨iX, iY, _⟩ := K.ints
      obtain ⟨⟨q0, q1⟩, _⟩ := K.facts
      obtain ⟨f0, f1⟩ := K.free (i := 0) rfl
      by_cases h0 : Y = 0
      · obtain rfl := digs_len0 iY.c (by rw [h0]; rfl)
        have HE : Hid (X = G) := by unfold Hid; rw [← HG.out, h0, Nat.gcd_zero_right]
        clear h0 iY
        have z0 : zOf false X = (G : Int) := by rw [HE.out]; rfl
        go_wp2_with (first
          | (go_at_call 78; (with_reducible refine (make_at iX.c kX).mono ?_); rw [z0]; rintro e w4 ⟨A4, n4, c4, rfl, d4, u4, v4, g4⟩; have K4 := (K.call g4).add (CanAt.mk_ d4 u4 v4); clear q0 q1 f0 f1; obtain ⟨⟨q0, q1⟩, _⟩ := K4.facts; obtain ⟨f0, f1⟩ := K4.free (i := 0) rfl)
          | fail)
        have K5 := K4.put 0 rfl (decide ((G : Int) < 0)) A4 n4 c4
        simp only [List.set] at K5
        generalize ((w4.setCell ⟨w.heap.size + 1 + 1, 0, none⟩ (.bool (decide ((G : Int) < 0)))).setCell ⟨w.heap.size + 1 + 1, 1, none⟩ (.slice A4 n4 c4)) = W5 at K5 ⊢
        obtain ⟨⟨r0, r1⟩, _⟩ := K5.facts
        exact bodyPost_ret (v := .agg #[.bool (decide ((G : Int) < 0)), .slice A4 n4 c4]) (by simp [results, Try.results54, go_sem, r0, r1]) rfl (RetZ.of_st K5)
      · have hm2 := digs_lenp iY.c (by omega)
        have hdv := rdivDigits_at iX.c iY.c (zX.mono (by decide)) (zY.mono (by decide)) (by omega)
        rw [Int.natAbs_natCast, Int.natAbs_natCast] at hdv
        have HN : Hid (X % Y < Y ∧ Nat.gcd Y (X % Y) = G) := ⟨Nat.mod_lt _ (by omega), by
          rw [← HG.out, Nat.gcd_comm X Y, Nat.gcd_rec Y X, Nat.gcd_comm]⟩
        have HZ : Hid (Sz ((X % Y : Nat) : Int) 2000) := zY.le (by rw [Int.natAbs_natCast, Int.natAbs_natCast]; exact Nat.le_of_lt HN.out.1)
        clear h0
        go_wp2_with (first
          | (go_at_call 80; (with_reducible refine hdv.mono ?_); rintro e w8 ⟨A3, n3, c3, A4, n4, c4, rfl, hd3, hn3, hc3, hd4, hn4, hc4, hb3⟩)
          | fail)
        have K4 := (K.call hb3).add (CanAt.nat hd4 hn4 hc4)
        clear hd3 hn3 hc3 hd4 hn4 hc4 hb3 hdv K iX iY
        obtain ⟨j3, _, j2, _⟩ := K4.ints
        go_roundg (X % Y)
        case rel => exact ⟨B2, m2, e2, A4, n4, c4, Y, X % Y, rfl, rfl, rfl, K4.ints_ ⟨j2, j3, trivial⟩, HN.out.2, zY, HZ.out⟩
        case measure => exact HN.out.1
theorem Sz.len2 {z : Int} {k : Nat} (h : Sz z k) (hk : k ≤ 100000 := by decide) : (digs z.natAbs).length ≤ 100000 := Nat.le_trans h.len hk

/-- The head of the loop. -/
def RxI (w wr : World) (h7 h8 h14 h15 h16 h17 : Nat) (a b g m p0 : Int) (A1 A2 A3 A5 : Option Addr) (n1 c1 n2 c2 n3 c3 n5 c5 : Nat) (k : Nat) : Prop :=
  ∃ (r p x y : Int) (Ar Ap Ax Ay : Option Addr) (nr cr np cp nx cx ny cy : Nat), k = p.natAbs ∧ Sol p0 m r p x y ∧
    St w wr [vi h17 (decide (y < 0)) Ay ny cy, vi h16 (decide (x < 0)) Ax nx cx, vi h15 (decide (p < 0)) Ap np cp, vi h14 (decide (r < 0)) Ar nr cr, vi h8 (decide (m < 0)) A5 n5 c5, vi h7 (decide (g < 0)) A3 n3 c3, vi (w.heap.size + 1 + 1 + 1 + 1) false none 0 0, vi (w.heap.size + 1 + 1 + 1) false none 0 0, vi (w.heap.size + 1 + 1) false none 0 0, vi (w.heap.size + 1) (decide (b < 0)) A2 n2 c2, vi w.heap.size (decide (a < 0)) A1 n1 c1]
      [((decide (y < 0)), Ay, ny, cy, y, true), ((decide (x < 0)), Ax, nx, cx, x, true), ((decide (p < 0)), Ap, np, cp, p, true), ((decide (r < 0)), Ar, nr, cr, r, true), ((decide (m < 0)), A5, n5, c5, m, true), ((decide (g < 0)), A3, n3, c3, g, true), ((decide (b < 0)), A2, n2, c2, b, true), ((decide (a < 0)), A1, n1, c1, a, true)]

/-- The quotients by the divisor. -/
theorem rx_start {a b g m p0 : Int} (hb : b ≠ 0) (hg : ((Int.gcd a b : Nat) : Int) = g) (hm : dmQ ((b.natAbs : Nat) : Int) g = m) (hp : dmQ a g = p0) :
    0 < g ∧ g ≤ ((b.natAbs : Nat) : Int) ∧ 0 < m ∧ m.natAbs ≤ b.natAbs ∧ a = g * p0 ∧ ((b.natAbs : Nat) : Int) = g * m ∧ p0.natAbs ≤ a.natAbs ∧ Int.gcd p0 m = 1 := by
  have hb0 : 0 < ((b.natAbs : Nat) : Int) := by omega
  obtain ⟨g', u, p, e1, e2, e3, e4, e5, e6, e7⟩ := eg_parts (a := a) hb0
  have hgg : g' = g := by rw [e1, gcd_abs]; exact hg
  subst hgg
  have hm' : m = p := by rw [← hm, ← e6]; unfold dmQ; rw [if_neg (by omega), if_pos e2]
  have hp' : p0 = u := by
    rw [← hp]; unfold dmQ; rw [if_neg (by omega), if_pos e2]
    conv => lhs; rw [e3]
    exact Int.mul_ediv_cancel_left _ (by omega)
  subst hm' hp'
  have h1 : g' * 1 ≤ g' * m := Int.mul_le_mul_of_nonneg_left (by omega) (by omega)
  have h2 : 1 * m ≤ g' * m := Int.mul_le_mul_of_nonneg_right (by omega) (by omega)
  refine ⟨e2, by omega, e5, by omega, e3, e4, ?_, e7⟩
  have := congrArg Int.natAbs e3
  rw [Int.natAbs_mul] at this
  rw [this]
  have h3 : 1 * p0.natAbs ≤ g'.natAbs * p0.natAbs := Nat.mul_le_mul_right _ (by omega)
  omega

theorem sit {α : Type} (l : List α) (i : Nat) (a : α) : l.toArray.setIfInBounds i a = (l.set i a).toArray := List.setIfInBounds_toArray ..
theorem scz {α : Type} (x : α) (l : List α) (a : α) : (x :: l).set 0 a = a :: l := List.set_cons_zero ..
theorem scs {α : Type} (x : α) (l : List α) (i : Nat) (a : α) : (x :: l).set (i + 1) a = x :: l.set i a := List.set_cons_succ ..
end Go.Proofs.Ytgjkgmlcfieodaa

