/-
  Zones: the reference's Instants; lists of ints; the law on instants.
-/
import Derived.Test.YtiohakpbgmignaaZbB
set_option linter.unusedVariables false
set_option linter.unusedSimpArgs false
namespace Go.Proofs.Ytiohakpbgmignaa
open Go.RowKit

theorem own_below {B : Nat} {e : TypeId} {s k : Nat} {v : Value} {xs : List Value} {w w' : World} (h : w.ownsRow B e s v k xs) (hb : Below w.heap.size w w') : w'.ownsRow B e s v k xs := by
  refine ⟨h.1, ?_⟩
  rcases h.2 with h | ⟨g, cap, cur, h1, h2, h3, h4⟩
  · exact .inl h
  · exact .inr ⟨g, cap, cur, h1, h2, (hb.block g (Array.getElem?_eq_some_iff.1 h3).1).trans h3, h4⟩
theorem below_app {B : Nat} {w wr w1 : World} {e : TypeId} {s : Nat} {v : Value} {k : Nat} {xs : List Value} {tmp : Obj} (hB : Below B w wr) (hrow : wr.ownsRow B e s v k xs) (hgrow : (wr.alloc tmp).grownBy w1 v.ownBlock) (hw : B ≤ wr.heap.size) : Below B w w1 :=
  (hB.alloc hw tmp).grown hgrow (by simp; omega) (fun k e => (ownsRow_block hrow k e).1)
/-- What the window of the reference gives. -/
theorem ins_window {o : Int} {ss : List (Int × Int)} (hz : ZOk o ss) (loc : Int) : filt (fun u => okI u && qB o ss loc u) (loc - 840) 1681 = filt (qB o ss loc) 0 maxN := by
  have hm : (maxN : Int) = 52596000 := rfl
  obtain ⟨N, hN⟩ : ∃ N : Nat, (N : Int) = 52596000 := ⟨maxN, rfl⟩
  have e0 : maxN = N := by omega
  rw [e0]
  have h1 : filt (qB o ss loc) 0 N = filt (fun u => okI u && qB o ss loc u) 0 N := by
    refine filt_congr N (fun u h1 h2 => ?_)
    have : okI u = true := by unfold okI; simp; omega
    simp [this]
  rw [h1]
  obtain ⟨A, hA⟩ : ∃ A : Int, A ≤ loc - 840 ∧ A ≤ 0 := ⟨min (loc - 840) 0, by omega, by omega⟩
  obtain ⟨M, hM⟩ : ∃ M : Nat, loc + 841 ≤ A + M ∧ (N : Int) ≤ A + M := ⟨(max (loc + 841) (N : Int) - A).toNat, by omega, by omega⟩
  rw [← filt_mid (n := M) hA.1 (by omega) (fun u hu => ?_), ← filt_mid (n := M) hA.2 (by omega) (fun u hu => ?_)]
  · have : okI u = false := by unfold okI; simp; omega
    simp [this]
  · have hb := hz.bound u
    have : qB o ss loc u = false := by unfold qB; simp; omega
    simp [this]
theorem ins_none {o : Int} {ss : List (Int × Int)} (hz : ZOk o ss) {loc : Int} (h : loc < -840 ∨ 52596840 ≤ loc) : filt (qB o ss loc) 0 maxN = [] := by
  have hm : (maxN : Int) = 52596000 := rfl
  refine filt_none maxN (fun u h1 h2 => ?_)
  have hb := hz.bound u
  unfold qB; simp; omega
theorem BoxZ.to {w w' : World} {b : Nat} {nm : List UInt8} {o : Int} {a : Option Addr} {n c : Nat} (h : BoxZ w b nm o a n c) (hb : Below (b + 1) w w') : BoxZ w' b nm o a n c := h.below hb (Nat.lt_succ_self b)
set_option maxHeartbeats 8000000 in
set_option maxRecDepth 1000000 in
theorem rinstants_any (nm : List UInt8) (hnl : nm.length ≤ 9223372036854775807) (o : Int) (a : Option Addr) (n c : Nat) (ss : List (Int × Int)) (w : World) (hS : ShIn w a n ss) (hn : n ≤ 9223372036854775807) (day clock : Int) :
    Calls Try.prog 21 #[.agg #[.string ⟨nm.toArray⟩, .int .i64 o, .slice a n c], .int .i64 day, .int .i64 clock] w (RetIL w (insL (zE (nameB nm) o ss) o ss day clock) (insE (zE (nameB nm) o ss) clock)) := by
  have hv := fun w hS => rvalidate_any nm hnl o a n c ss w hS hn
  have hoff := fun w hS => roffset2_any nm hnl o a n c ss w hS hn
  have hin := rinstant_any
  have hok := @zE_ok (nameB nm) o ss
  have hS1 := Lib.hid (hS.call (cnew w (.cells #[.string ⟨nm.toArray⟩, .int .i64 o, .slice a n c] 24)))
  have HB0 := Lib.hid (boxZ_new w nm o a n c 24)
  obtain ⟨E, HE⟩ : ∃ v, Hid (zE (nameB nm) o ss = v) := ⟨_, rfl⟩
  rw [HE.out] at hok ⊢
  simp only [HE.out] at hv
  have hdL : insL E o ss day clock = if insE E clock = 0 ∧ -1 ≤ day ∧ day ≤ 36525 then filt (qB o ss (1440 * day + clock)) 0 maxN else [] := rfl
  have hdE : insE E clock = if E = 0 then (if isClockB clock = true then 0 else 5) else E := rfl
  have hdQ : isClockB clock = decide (0 ≤ clock ∧ clock < 1440) := rfl
  obtain ⟨Q, HQ⟩ : ∃ v, Hid (isClockB clock = v) := ⟨_, rfl⟩
  obtain ⟨X, HX⟩ : ∃ v, Hid (insE E clock = v) := ⟨_, rfl⟩
  obtain ⟨L, HL⟩ : ∃ v, Hid (insL E o ss day clock = v) := ⟨_, rfl⟩
  rw [HX.out, HQ.out] at hdE
  rw [HX.out, HL.out] at hdL
  rw [HX.out, HL.out]
  rw [HQ.out] at hdQ
  have HSo := Lib.hid hS
  by_cases h0 : E = 0
  · subst h0
    rw [if_pos rfl] at hdE
    obtain ⟨_, hz⟩ := hok rfl
    by_cases c1 : clock < 0
    · obtain rfl : Q = false := by rw [hdQ]; simp; omega
      obtain rfl : X = 5 := hdE
      obtain rfl : L = [] := hdL
      clear hS hz hok hdQ hoff
      go_enter Try.func21, Try.ntmps21
      obtain ⟨b0, b1, b2⟩ := HB0.out
      go_wp2_with (first
        | (go_at_call 13; (with_reducible refine (hv _ hS1.out).mono ?_); rintro e w1 ⟨rfl, g1⟩; have HB1 := Lib.hid (ccall g1); have HZ1 := Lib.hid (HB0.out.call g1); have HN1 := Lib.hid (Nat.le_trans (by simp) g1.size : w.heap.size + 1 ≤ w1.heap.size); clear g1)
        | fail)
      go_ret2
      exact ⟨_, rfl, World.ownsRow_nil _ _ _ _, HB1.out⟩
    have c1' : decide (clock < 0) = false := by simpa using c1
    by_cases c2 : 1439 < clock
    · obtain rfl : Q = false := by rw [hdQ]; simp; omega
      obtain rfl : X = 5 := hdE
      obtain rfl : L = [] := hdL
      clear hS hz hok hdQ hoff
      go_enter Try.func21, Try.ntmps21
      obtain ⟨b0, b1, b2⟩ := HB0.out
      go_wp2_with (first
        | (go_at_call 13; (with_reducible refine (hv _ hS1.out).mono ?_); rintro e w1 ⟨rfl, g1⟩; have HB1 := Lib.hid (ccall g1); have HZ1 := Lib.hid (HB0.out.call g1); have HN1 := Lib.hid (Nat.le_trans (by simp) g1.size : w.heap.size + 1 ≤ w1.heap.size); clear g1)
        | fail)
      go_ret2
      exact ⟨_, rfl, World.ownsRow_nil _ _ _ _, HB1.out⟩
    have c2' : decide (1439 < clock) = false := by simpa using c2
    obtain rfl : Q = true := by rw [hdQ]; simp; omega
    rw [if_pos rfl] at hdE
    obtain rfl : X = 0 := hdE
    by_cases d1 : day < -2
    · obtain rfl : L = [] := by rw [hdL, if_neg (by omega)]
      clear hS hz hok hdQ hoff hdL
      go_enter Try.func21, Try.ntmps21
      obtain ⟨b0, b1, b2⟩ := HB0.out
      go_wp2_with (first
        | (go_at_call 13; (with_reducible refine (hv _ hS1.out).mono ?_); rintro e w1 ⟨rfl, g1⟩; have HB1 := Lib.hid (ccall g1); have HZ1 := Lib.hid (HB0.out.call g1); have HN1 := Lib.hid (Nat.le_trans (by simp) g1.size : w.heap.size + 1 ≤ w1.heap.size); clear g1)
        | fail)
      go_ret2
      exact ⟨_, rfl, World.ownsRow_nil _ _ _ _, HB1.out⟩
    have d1' : decide (day < -2) = false := by simpa using d1
    by_cases d2 : 36527 < day
    · obtain rfl : L = [] := by rw [hdL, if_neg (by omega)]
      clear hS hz hok hdQ hoff hdL
      go_enter Try.func21, Try.ntmps21
      obtain ⟨b0, b1, b2⟩ := HB0.out
      go_wp2_with (first
        | (go_at_call 13; (with_reducible refine (hv _ hS1.out).mono ?_); rintro e w1 ⟨rfl, g1⟩; have HB1 := Lib.hid (ccall g1); have HZ1 := Lib.hid (HB0.out.call g1); have HN1 := Lib.hid (Nat.le_trans (by simp) g1.size : w.heap.size + 1 ≤ w1.heap.size); clear g1)
        | fail)
      go_ret2
      exact ⟨_, rfl, World.ownsRow_nil _ _ _ _, HB1.out⟩
    have d2' : decide (36527 < day) = false := by simpa using d2
    obtain ⟨LC, hLC⟩ : ∃ v, 1440 * day + clock = v := ⟨_, rfl⟩
    have hLL : L = filt (fun u => okI u && qB o ss LC u) (LC - 840) 1681 := by
      rw [ins_window hz LC]
      rw [hLC] at hdL
      by_cases h : -1 ≤ day ∧ day ≤ 36525
      · rw [hdL, if_pos ⟨rfl, h⟩]
      · rw [hdL, if_neg (fun h2 => h h2.2), ins_none hz (by omega)]
    obtain ⟨q, hq⟩ : ∃ q, q = fun u => okI u && qB o ss LC u := ⟨_, rfl⟩
    rw [← hq] at hLL
    have HLL := Lib.hid hLL
    have HQQ := Lib.hid hq
    have HZ := Lib.hid hz
    have hlb : -2880 ≤ LC ∧ LC ≤ 52600320 := by omega
    have s1 : IntKind.i64.wrap (1440 * day) = 1440 * day := IntWalk.i64_in _ (by omega)
    have s2 : IntKind.i64.wrap (1440 * day + clock) = LC := by rw [IntWalk.i64_in _ (by omega)]; exact hLC
    have s3 : IntKind.i64.wrap (LC - 840) = LC - 840 := IntWalk.i64_in _ (by omega)
    have s4 : IntKind.i64.wrap (LC + 840) = LC + 840 := IntWalk.i64_in _ (by omega)
    clear hS hz hok hdQ hdL hLL hq hLC
    obtain ⟨i0, hi, hz0, hz1, hz2⟩ := info_parts int_info
    go_enter Try.func21, Try.ntmps21
    obtain ⟨b0, b1, b2⟩ := HB0.out
    go_wp2_with (first
      | (go_at_call 13; (with_reducible refine (hv _ hS1.out).mono ?_); rintro e w1 ⟨rfl, g1⟩; have HB1 := Lib.hid (ccall g1); have HZ1 := Lib.hid (HB0.out.call g1); have HN1 := Lib.hid (Nat.le_trans (by simp) g1.size : w.heap.size + 1 ≤ w1.heap.size); clear g1)
      | fail)
    go_loopw [9, 11] (fun x t wr => ∃ (k : Nat) (T : Int) (l0 : List Int), k ≤ 1681 ∧ t = .int .i64 T ∧ Hid (T = LC - 840 + k) ∧ Hid (filt q (LC - 840) k = l0) ∧ wr.ownsRow (w.heap.size + 1) 3 1 x l0.length (l0.map intV) ∧ Below (w.heap.size + 1) w1 wr) (fun _ t _ => (LC + 841 - intOf t).toNat)
    case atStart => exact ⟨0, LC - 840, [], by omega, rfl, by unfold Hid; simp, by unfold Hid; rfl, World.ownsRow_nil _ _ _ _, Below.refl _ _⟩
    case round =>
      obtain ⟨k, T, l0, hk, rfl, HT, HL0, hrow, hB⟩ := hrel
      have hTv := HT.out
      have hTk : T = LC - 840 + (k : Int) := hTv
      have hsz := hB.size
      have hN := HN1.out
      have hBw : Below w.heap.size w wr := HB1.out.trans (hB.mono (by omega))
      have hSr := Lib.hid (HSo.out.call hBw)
      have HBW := Lib.hid hBw
      obtain ⟨z0, z1, z2⟩ := HZ1.out.to hB
      by_cases hlt : k < 1681
      · have j1 : T ≤ LC + 840 := by omega
        have s5 : IntKind.i64.wrap (T + 1) = T + 1 := IntWalk.i64_in _ (by omega)
        have hq0 : q T = (okI T && qB o ss LC T) := by rw [HQQ.out]
        have hdq : qB o ss LC T = decide (T + offs o ss T = LC) := rfl
        have hinT := hin T
        have hofT := fun w hS => hoff w hS T
        have hxb := HZ.out.bound T
        have hll := filt_len q (LC - 840) k
        rw [HL0.out] at hll
        obtain ⟨P, HP⟩ : ∃ v, Hid (okI T = v) := ⟨_, rfl⟩
        have htb := @okI_in T
        rw [HP.out] at hinT hq0 htb
        obtain ⟨X, HXX⟩ : ∃ v, Hid (offs o ss T = v) := ⟨_, rfl⟩
        simp only [HXX.out] at hofT
        rw [HXX.out] at hdq hxb
        rw [hdq] at hq0
        clear hdq
        cases P with
        | false =>
          rw [Bool.false_and] at hq0
          have HR := Lib.hid hrow
          have HBB := Lib.hid hB
          have HQ0 := Lib.hid hq0
          have HTK := Lib.hid hTk
          clear hrow hB hq0 hTk hTv hBw
          go_wp2_with (first
            | (go_at_call 36; (with_reducible refine (hinT _).mono ?_); rintro e w3 ⟨rfl, rfl⟩)
            | fail)
          go_roundw
          case rel => exact ⟨k + 1, T + 1, l0, by omega, by rfl, Lib.hid (by have := HTK.out; omega), Lib.hid (by rw [filt, ← HTK.out, HQ0.out]; simpa using HL0.out), HR.out, HBB.out⟩
          case measure => simp [intOf]; omega
        | true =>
          rw [Bool.true_and] at hq0
          have htr := htb rfl
          have s6 : IntKind.i64.wrap (T + X) = T + X := IntWalk.i64_in _ (by omega)
          have HBB := Lib.hid hB
          have HTK := Lib.hid hTk
          clear hB hTk hTv hBw
          by_cases he : T + X = LC
          · have he2 : (T + X == LC) = true := by simpa using he
            have HQ0 : Hid (q T = true) := Lib.hid (by rw [hq0]; simpa using he)
            have hM1 : l0.length + 1 ≤ maxLen := by unfold maxLen; omega
            have hM2 : (l0.length + 1) * 8 ≤ 140737488355328 := by omega
            have HR := Lib.hid hrow
            clear hq0 hrow
            go_wp2_with (first
              | (go_at_call 36; (with_reducible refine (hinT _).mono ?_); rintro e w3 ⟨rfl, rfl⟩)
              | (go_at_call 37; (with_reducible refine (hofT _ hSr.out).mono ?_); rintro e w4 ⟨rfl, g4⟩; have hrow4 := own_below HR.out g4; have HB4 := Lib.hid (HBB.out.trans (g4.mono (by omega))); have hs4 := g4.size; clear g4)
              | (at_builtin; refine wpList_append_own_at _ rfl _ _ 34 rfl (w.heap.size + 1) 3 i0 (.int .i64 0) 1 8 Try.underlying34 hi hz0 hz1 hz2 rfl (by decide) _ _ _ rfl (hrow4.alloc _) ⟨w4.heap.size, 0, none⟩ 1 1 [.int .i64 T] rfl rfl (cell_one_new _ _ _) (by simp [Value.oneCell']) hM1 hM2 (by rw [World.size_alloc]; omega) ?_; intro v' w5 hown' hgrow _ _; have HB5 := Lib.hid (below_app HB4.out hrow4 hgrow (by omega)); have HO5 := Lib.hid hown'; clear hgrow hown')
              | fail)
            go_roundw
            case rel => exact ⟨k + 1, T + 1, l0 ++ [T], by omega, by rfl, Lib.hid (by have := HTK.out; omega), Lib.hid (by rw [filt, ← HTK.out, HQ0.out, HL0.out]; rfl), by simpa [intV] using HO5.out, HB5.out⟩
            case measure => simp [intOf]; omega
          · have he2 : (T + X == LC) = false := by simpa using he
            have HQ0 : Hid (q T = false) := Lib.hid (by rw [hq0]; simpa using he)
            have HR := Lib.hid hrow
            clear hq0 hrow
            go_wp2_with (first
              | (go_at_call 36; (with_reducible refine (hinT _).mono ?_); rintro e w3 ⟨rfl, rfl⟩)
              | (go_at_call 37; (with_reducible refine (hofT _ hSr.out).mono ?_); rintro e w4 ⟨rfl, g4⟩; have HR4 := Lib.hid (own_below HR.out g4); have HB4 := Lib.hid (HBB.out.trans (g4.mono (by omega))); clear g4)
              | fail)
            go_roundw
            case rel => exact ⟨k + 1, T + 1, l0, by omega, by rfl, Lib.hid (by have := HTK.out; omega), Lib.hid (by rw [filt, ← HTK.out, HQ0.out]; simpa using HL0.out), HR4.out, HB4.out⟩
            case measure => simp [intOf]; omega
      · obtain rfl : k = 1681 := by omega
        have j1 : ¬ T ≤ LC + 840 := by omega
        have hl0 := HL0.out
        rw [← HLL.out] at hl0
        subst hl0
        have HR := Lib.hid hrow
        clear hrow hB hBw hTk hTv
        go_wp2_with fail
        go_ret2
        exact ⟨_, rfl, ownsRow_less' HR.out (by omega), HBW.out⟩
  · rw [if_neg h0] at hdE
    subst hdE
    rw [if_neg (by omega)] at hdL
    subst hdL
    have h1 : (X != 0) = true := by simpa using h0
    clear hS hok hdQ hoff
    go_enter Try.func21, Try.ntmps21
    obtain ⟨b0, b1, b2⟩ := HB0.out
    go_wp2_with (first
      | (go_at_call 13; (with_reducible refine (hv _ hS1.out).mono ?_); rintro e w1 ⟨rfl, g1⟩; have HB1 := Lib.hid (ccall g1); have HZ1 := Lib.hid (HB0.out.call g1); have HN1 := Lib.hid (Nat.le_trans (by simp) g1.size : w.heap.size + 1 ≤ w1.heap.size); clear g1)
      | fail)
    go_ret2
    exact ⟨_, rfl, World.ownsRow_nil _ _ _ _, HB1.out⟩
def iAt (l : List Int) (k : Nat) : Int := l.getD k 0
/-- The slice at a reads as the ints l. -/
def IIn (w : World) (a : Option Addr) (n : Nat) (l : List Int) : Prop :=
  l.length = n ∧ (n = 0 ∨ ∃ g o, a = some ⟨g, o, none⟩ ∧ g < w.heap.size ∧ ∀ i, i < n → w.cell? ⟨g, o + i, none⟩ = some (.int .i64 (iAt l i)))
theorem IIn.of_owns {W : World} {base : Nat} {v : Value} {k : Nat} {l : List Int} (h : W.ownsRow base 3 1 v k (l.map intV)) : ∃ a c, v = .slice a k c ∧ k ≤ c ∧ c ≤ 9223372036854775807 ∧ IIn W a k l := by
  obtain ⟨hl, h⟩ := h
  simp only [List.length_map, Nat.mul_one] at hl
  rcases h with ⟨rfl, rfl⟩ | ⟨g, cap, cur, rfl, h1, h2, h3, h4, h5, h6⟩
  · exact ⟨none, 0, rfl, Nat.le_refl _, by omega, hl, .inl rfl⟩
  · refine ⟨_, cap, rfl, h3, by unfold maxLen at h4; omega, hl, .inr ⟨g, 0, rfl, (Array.getElem?_eq_some_iff.1 h2).1, fun i hi => ?_⟩⟩
    have hc : cur[i]? = some (.int .i64 (iAt l i)) := by
      have e1 : (cur.toList.take (k * 1))[i]? = some (.int .i64 (iAt l i)) := by
        rw [h6, List.getElem?_map, List.getElem?_eq_getElem (by omega)]
        simp [iAt, intV, List.getD, List.getElem?_eq_getElem (show i < l.length by omega)]
      rw [List.getElem?_take_of_lt (by omega)] at e1
      simpa using e1
    unfold World.cell?
    rw [h2]
    simpa using hc
theorem IIn.call {w w' : World} {a : Option Addr} {n : Nat} {l : List Int} (h : IIn w a n l) (hb : Below w.heap.size w w') : IIn w' a n l := by
  obtain ⟨hl, h⟩ := h
  refine ⟨hl, ?_⟩
  rcases h with h | ⟨g, o, e1, e2, e3⟩
  · exact .inl h
  · exact .inr ⟨g, o, e1, Nat.lt_of_lt_of_le e2 hb.size, fun i hi => (hb.cell (p := ⟨g, o + i, none⟩) e2).trans (e3 i hi)⟩
set_option maxHeartbeats 8000000 in
set_option maxRecDepth 1000000 in
theorem same7_any (a b : Option Addr) (n c d : Nat) (l : List Int) (w : World) (hx : IIn w a n l) (hy : IIn w b n l) (hn : n ≤ 9223372036854775807) :
    Calls Try.prog 22 #[.slice a n c, .slice b n d] w (RetB0 w true) := by
  obtain ⟨hxl, hx⟩ := hx
  obtain ⟨hyl, hy⟩ := hy
  have HX := Lib.hid hx
  have HY := Lib.hid hy
  clear hx hy hxl hyl
  have q0 : ((n : Int) != (n : Int)) = false := by simp
  go_enter Try.func22, Try.ntmps22
  go_wp2
  go_loopw [5] (fun i wr => ∃ k q : Nat, k ≤ n ∧ i = .int .i64 k ∧ wr = w.drewN q) (fun i _ => n - (intOf i).toNat)
  case atStart => exact ⟨0, 0, by omega, rfl, rfl⟩
  case round =>
    obtain ⟨k, q, hk, rfl, rfl⟩ := hrel
    by_cases hlt : k < n
    · obtain ⟨g1, o1, ha1, hc1⟩ : ∃ g o, a = some ⟨g, o, none⟩ ∧ w.cell? ⟨g, o + k, none⟩ = some (.int .i64 (iAt l k)) := by
        rcases HX.out with h | ⟨g, o, h1, _, h2⟩
        · omega
        · exact ⟨g, o, h1, h2 k hlt⟩
      obtain ⟨g2, o2, ha2, hc2⟩ : ∃ g o, b = some ⟨g, o, none⟩ ∧ w.cell? ⟨g, o + k, none⟩ = some (.int .i64 (iAt l k)) := by
        rcases HY.out with h | ⟨g, o, h1, _, h2⟩
        · omega
        · exact ⟨g, o, h1, h2 k hlt⟩
      subst ha1 ha2
      obtain ⟨z, HZ⟩ : ∃ p, Hid (iAt l k = p) := ⟨_, rfl⟩
      rw [HZ.out] at hc1 hc2
      have j0 : (0 : Int) ≤ (k : Int) := by omega
      have j1 : (k : Int) < (n : Int) := by omega
      have r2 : (z != z) = false := by simp
      go_wp2
      go_quiet (fail)
      go_wp2
      go_roundw
      case rel => exact ⟨k + 1, _, by omega, by go_num, rfl⟩
      case measure => simp [intOf]; omega
    · obtain rfl : k = n := by omega
      have j1 : ¬ (k : Int) < (k : Int) := by omega
      go_wp2
      go_ret
      exact ⟨rfl, _, rfl⟩
set_option maxHeartbeats 8000000 in
set_option maxRecDepth 1000000 in
theorem zoneInstants_any (nm : List UInt8) (hnl : nm.length ≤ 9223372036854775807) (o : Int) (a : Option Addr) (n c : Nat) (ss : List (Int × Int)) (w : World) (hS : ShIn w a n ss) (hn : n ≤ 9223372036854775807) (day : Int) (hd : (-9223372036854775808 ≤ day ∧ day ≤ 9223372036854775807)) (clock : Int) (hc : (-9223372036854775808 ≤ clock ∧ clock ≤ 9223372036854775807)) : Calls Try.prog 5 #[.agg #[.string ⟨nm.toArray⟩, .int .i64 o, .slice a n c], .int .i64 day, .int .i64 clock] w (RetB1 w true) := by
  have hp := fun w hS => instants_any nm hnl o a n c ss w hS hn day clock
  have hr := fun w hS => rinstants_any nm hnl o a n c ss w hS hn day clock
  have K0 := Lib.hid (KZ.start (nm := nm) (o := o) (c := c) hS 24)
  obtain ⟨E, HE⟩ : ∃ v, Hid (zE (nameB nm) o ss = v) := ⟨_, rfl⟩
  simp only [HE.out] at hp hr
  obtain ⟨X, HX⟩ : ∃ v, Hid (insE E clock = v) := ⟨_, rfl⟩
  obtain ⟨L, HL⟩ : ∃ v, Hid (insL E o ss day clock = v) := ⟨_, rfl⟩
  simp only [HX.out, HL.out] at hp hr
  clear hS hd hc
  by_cases hbig : 40 < n
  · have q1 : (40 : Int) < (n : Int) := by omega
    go_enter Try.func5, Try.ntmps5
    obtain ⟨b0, b1, b2⟩ := K0.out.z
    go_wp2_with (first
      | (go_at_call 11; (with_reducible refine (awake7_any _).mono ?_); rintro e w1 ⟨rfl, g1⟩)
      | fail)
    go_ret
    exact ⟨rfl, (K0.out.call g1).b⟩
  have q1 : ¬ (40 : Int) < (n : Int) := by omega
  go_enter Try.func5, Try.ntmps5
  obtain ⟨b0, b1, b2⟩ := K0.out.z
  go_wp2_with (first
    | (go_at_call 20; (with_reducible refine (hp _ K0.out.s).mono ?_); rintro e w1 ⟨v1, rfl, o1, g1⟩; obtain ⟨A1, C1, rfl, k1, m1, I1⟩ := IIn.of_owns o1; have HI1 := Lib.hid I1; have K1 := Lib.hid (K0.out.call g1); obtain ⟨d0, d1, d2⟩ := K1.out.z; clear g1 o1 I1)
    | (go_at_call 21; (with_reducible refine (hr _ K1.out.s).mono ?_); rintro e w2 ⟨v2, rfl, o2, g2⟩; obtain ⟨A2, C2, rfl, k2, m2, I2⟩ := IIn.of_owns o2; have HI2 := Lib.hid I2; have HI1b := Lib.hid (HI1.out.call g2); have K2 := Lib.hid (K1.out.call g2); clear g2 o2 I2)
    | (go_at_call 22; (with_reducible refine (same7_any _ _ _ _ _ L _ HI1b.out HI2.out (by omega)).mono ?_); rintro e w3 ⟨rfl, q3, rfl⟩)
    | (go_at_call 11; (with_reducible refine (awake7_any _).mono ?_); rintro e w4 ⟨rfl, g4⟩)
    | fail)
  go_ret
  exact ⟨rfl, (K2.out.b.trans ((below_drewN (Below.refl w2.heap.size w2) q3).mono K2.out.b.size)).trans (g4.mono (by simpa using K2.out.b.size))⟩
end Go.Proofs.Ytiohakpbgmignaa

