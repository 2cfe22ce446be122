/-
  The reference's Sqrt.
-/
import Derived.Test.YtplmfdgdbolcaaaSqrt
import Derived.Test.YtplmfdgdbolcaaaRpow
set_option linter.unusedVariables false
set_option linter.unusedSimpArgs false
namespace Go.Proofs.Ytplmfdgdbolcaaa
open Go.RowKit

/-- The head of the loop, the bits below k being left. -/
def RqI (w wr : World) (h4 : Nat) (a : Int) (A1 : Option Addr) (n1 c1 : Nat) (k : Nat) : Prop :=
  ∃ (r : Nat) (B : Option Addr) (m e : Nat), St w wr [vi h4 (decide ((r : Int) < 0)) B m e, vi (w.heap.size + 1) false none 0 0, vi w.heap.size (decide (a < 0)) A1 n1 c1] [(decide ((r : Int) < 0), B, m, e, (r : Int), true), (decide (a < 0), A1, n1, c1, a, true)] ∧
    r * r ≤ a.natAbs ∧ a.natAbs < (r + 2 ^ k) * (r + 2 ^ k)

theorem one_can (w : World) : CanAt (w.alloc (.cells #[.int .u32 1] 94)) false (some ⟨w.heap.size, 0, none⟩) 1 1 1 := by
  have h := World.rowIs_alloc w #[.int .u32 1] 94 (fun i => .int .u32 (([1] : List Nat).getD i 0 : Nat)) (fun i hi => by
    match i, hi with
    | 0, _ => rfl)
  have h2 := Dgs.of_row h (ds := [1]) rfl (Dig.cons (by rw [BB_eq]; omega) Dig.nil) (fun _ _ => rfl)
  have h3 : Dgs (w.alloc (.cells #[.int .u32 1] 94)) (w.heap.size + 1) (some ⟨w.heap.size, 0, none⟩) 1 [1] := by simpa using h2
  have e : digs (1 : Int).natAbs = [1] := by show digs 1 = [1]; rw [digs_pos (by decide), show 1 / BB = 0 from by rw [BB_eq], digs_zero, show 1 % BB = 1 from by rw [BB_eq]]
  exact ⟨by decide, by rw [e]; exact h3.more (by simp), Nat.le_refl _, by unfold maxLen; omega⟩
theorem rshift_one {w : World} {A : Option Addr} {n c : Nat} (h : CanAt w false A n c 1) (j : Nat) (hj : j ≤ 3200000) :
    Calls Try.prog 109 #[.slice A n c, .int .i64 j] w (RetD w (2 ^ j)) := by
  obtain ⟨_, h1, h2, h3⟩ := h
  have hn : n ≤ 100000 := by rw [← h1.len]; exact Nat.le_trans (digs_length_le (k := 1) (by rw [BB_eq]; decide)) (by decide)
  have := rshift_any A n c j _ w h1 hn hj
  rw [val_digs, show (1 : Int).natAbs = 1 from rfl, Nat.one_mul] at this
  refine this.mono ?_
  rintro e w' ⟨n', c', rfl, h4, h5, h6, h7⟩
  exact RetD.mk_ h4 h5 h6 h7
theorem sz_pow2 {j k : Nat} (h : j < 32 * k) : Sz ((2 ^ j : Nat) : Int) k := by
  unfold Sz
  rw [Int.natAbs_natCast, BB_pow]
  exact Nat.pow_lt_pow_right (by decide) h
theorem rq_yes {j t r s : Nat} {q a : Int} (ht : 2 ^ j = t) (hs : r + t = s) (hq : (s : Int) * (s : Int) = q) (hle : q ≤ a) : s * s ≤ a.natAbs := by
  have : ((s * s : Nat) : Int) ≤ a := by rw [Int.natCast_mul, hq]; exact hle
  omega
theorem rq_no {j t r s : Nat} {q a : Int} (ht : 2 ^ j = t) (hs : r + t = s) (hq : (s : Int) * (s : Int) = q) (hle : a < q) (hn : 0 ≤ a) : a.natAbs < (r + 2 ^ j) * (r + 2 ^ j) := by
  rw [ht, hs]
  have : a < ((s * s : Nat) : Int) := by rw [Int.natCast_mul, hq]; omega
  omega
theorem rq_up {j t r s : Nat} {A : Nat} (ht : 2 ^ j = t) (hs : r + t = s) (h : A < (r + 2 ^ (j + 1)) * (r + 2 ^ (j + 1))) : A < (s + 2 ^ j) * (s + 2 ^ j) := by
  rw [ht, show s + t = r + 2 ^ (j + 1) by rw [Nat.pow_succ, ht]; omega]
  exact h

set_option maxHeartbeats 8000000 in
set_option maxRecDepth 100000 in
theorem rsqrt_at {w : World} {s : Bool} {A : Option Addr} {n c : Nat} {a : Int} (h : IntAt w s A n c a) (za : Sz a 100) :
    Calls Try.prog 23 #[.agg #[.bool s, .slice A n c]] w (RetSq w a) := by
  have H0 := ((((St.start w).addI h).new 24 (Plains.two s A n c))).new 24 (Plains.two false none 0 0)
  simp only [World.size_alloc] at H0
  have HH := Lib.hid H0
  have ka := za.ok
  clear H0 h
  go_enter Try.func23, Try.ntmps23
  go_upto_region 2 with (first
    | (go_at_call 30; have K := HH.out; clear HH; obtain ⟨ia, _⟩ := K.ints; (with_reducible refine (canon_at ia.i).mono ?_); rintro e w1 ⟨A1, n1, c1, rfl, d1, u1, v1, g1⟩; have K1 := (K.call g1).add (CanAt.mk_ d1 u1 v1); obtain ⟨_, ⟨p0, p1⟩, _⟩ := K1.facts; obtain ⟨f0, f1⟩ := K1.free (i := 1) rfl)
    | fail)
  have K2 := K1.put 1 rfl (decide (a < 0)) A1 n1 c1
  simp only [List.set] at K2
  clear K K1 ia d1 g1 p0 p1 f0 f1
  generalize ((w1.setCell ⟨w.heap.size, 0, none⟩ (.bool (decide (a < 0)))).setCell ⟨w.heap.size, 1, none⟩ (.slice A1 n1 c1)) = W2 at K2 ⊢
  obtain ⟨ia, _⟩ := K2.ints
  obtain ⟨⟨p2, p3⟩, ⟨p0, p1⟩, _⟩ := K2.facts
  obtain ⟨f0, f1⟩ := K2.free (i := 0) rfl
  obtain ⟨z1, z2⟩ := K2.ne 0 1 rfl rfl (by decide)
  by_cases hneg : a < 0
  · have HE : Hid (SqP a 0 5) := ⟨fun _ => ⟨rfl, rfl⟩, fun h => by omega⟩
    have K3 := K2.put 0 rfl false none 0 0
    simp only [List.set] at K3
    have hd : decide (a < 0) = true := by simpa using hneg
    rw [hd] at p0
    go_wp2_with fail
    generalize ((W2.setCell ⟨w.heap.size + 1, 0, none⟩ (.bool false)).setCell ⟨w.heap.size + 1, 1, none⟩ (.slice none 0 0)) = W9 at K3 ⊢
    obtain ⟨⟨r0, r1⟩, _⟩ := K3.facts
    refine bodyPost_ret (v := .tuple #[.agg #[.bool false, .slice none 0 0], .int .i64 5]) (by simp [results, Try.results23, go_sem, r0, r1]) rfl ?_
    exact ⟨0, 5, HE.out, Sz.zero _, none, 0, 0, rfl, CanAt.zero_ _, K3.below⟩
  · have hd : decide (a < 0) = false := decide_eq_false hneg
    rw [hd] at p0
    have hla : n1 ≤ 1000000 := by rw [← ia.c.2.1.len]; exact ka
    have HNEG := Lib.hid hneg
    obtain ⟨-, da, ua, va⟩ := ia.c
    have hbit := rbitLen_any A1 n1 c1 _ (digs a.natAbs) (W2.alloc (.cells #[.bool false, .slice none 0 0] 24)) (da.alloc (Nat.le_refl _) _) ua va hla
    rw [val_digs] at hbit
    obtain ⟨L, HL⟩ : ∃ v, Hid (bl a.natAbs = v) := ⟨_, rfl⟩
    rw [HL.out] at hbit
    have hL : L ≤ 3200 := by rw [← HL.out]; exact za.bits
    obtain ⟨H, HH2⟩ : ∃ v, v = L / 2 := ⟨_, rfl⟩
    have eH : (L : Int) / 2 = (H : Int) := by omega
    have hH : H ≤ 1600 := by omega
    have HS : Hid (a.natAbs < (0 + 2 ^ (H + 1)) * (0 + 2 ^ (H + 1))) := by
      have h1 := lt_bl a.natAbs
      rw [HL.out] at h1
      have h2 : 2 ^ L ≤ 2 ^ ((H + 1) + (H + 1)) := Nat.pow_le_pow_right (by decide) (by omega)
      rw [Nat.pow_add] at h2
      unfold Hid
      rw [Nat.zero_add]
      omega
    clear hneg HH2
    have K4 := (K2.add (CanAt.zero_ W2)).new 24 (Plains.two false none 0 0)
    obtain ⟨_, _, ⟨p4, p5⟩, _⟩ := K4.facts
    go_wp2_with (first
      | (go_at_call 106; (with_reducible refine hbit.mono ?_); rintro e w3 ⟨rfl, rfl⟩)
      | fail)
    clear hbit p0 p1 p2 p3 p4 p5 f0 f1 da
    obtain ⟨h4, H4⟩ : ∃ v, v = W2.heap.size := ⟨_, rfl⟩
    rw [← H4] at K4 ⊢
    clear H4
    have HI : RqI w (W2.alloc (.cells #[.bool false, .slice none 0 0] 24)) h4 a A1 n1 c1 (H + 1) := by
      obtain ⟨i0, i1, _⟩ := K4.ints
      exact ⟨0, none, 0, 0, K4.ints_ ⟨i0, i1, trivial⟩, Nat.zero_le _, HS.out⟩
    clear K2 K4
    go_loopg [5] (H + 1) (fun k i wr => i = .int .i64 ((k : Int) - 1) ∧ k ≤ 1601 ∧ RqI w wr h4 a A1 n1 c1 k)
    case atStart => exact ⟨by go_num, by omega, HI⟩
    case round =>
      clear HI
      obtain ⟨rfl, hk, r, B, m, e, K, hr1, hr2⟩ := hrel
      have HR1 := Lib.hid hr1
      have HR2 := Lib.hid hr2
      clear hr1 hr2
      obtain ⟨ir, ia, _⟩ := K.ints
      obtain ⟨⟨p0, p1⟩, ⟨p2, p3⟩, ⟨p4, p5⟩, _⟩ := K.facts
      obtain ⟨f0, f1⟩ := K.free (i := 1) rfl
      obtain ⟨z3, z4⟩ := K.ne 0 1 rfl rfl (by decide)
      obtain ⟨z5, z6⟩ := K.ne 0 2 rfl rfl (by decide)
      have zr : Sz (r : Int) 200 := by
        refine (za.mono (show 100 ≤ 200 by decide)).le ?_
        rw [Int.natAbs_natCast]
        have h1 := HR1.out
        rcases Nat.eq_zero_or_pos r with h | h
        · omega
        · have : r * 1 ≤ r * r := Nat.mul_le_mul_left r h
          omega
      by_cases h0 : gk = 0
      · have HE : Hid (SqP a (r : Int) 0) := by
          refine ⟨fun h => by have := HNEG.out; omega, fun _ => ⟨rfl, r, rfl, HR1.out, ?_⟩⟩
          have := HR2.out
          rwa [h0, Nat.pow_zero] at this
        subst h0
        have i3 : ¬ (0 : Int) ≤ ((0 : Nat) : Int) - 1 := by omega
        have K2 := K.put 1 rfl (decide ((r : Int) < 0)) B m e
        simp only [List.set] at K2
        go_wp2_with fail
        generalize ((wr.setCell ⟨w.heap.size + 1, 0, none⟩ (.bool (decide ((r : Int) < 0)))).setCell ⟨w.heap.size + 1, 1, none⟩ (.slice B m e)) = W9 at K2 ⊢
        obtain ⟨_, ⟨r0, r1⟩, _⟩ := K2.facts
        obtain ⟨jr, _⟩ := K2.ints
        refine bodyPost_ret (v := .tuple #[.agg #[.bool (decide ((r : Int) < 0)), .slice B m e], .int .i64 0]) (by simp [results, Try.results23, go_sem, r0, r1]) rfl ?_
        exact ⟨(r : Int), 0, HE.out, zr, B, m, e, rfl, jr.c, K2.below⟩
      · obtain ⟨j, rfl⟩ : ∃ j, gk = j + 1 := ⟨gk - 1, by omega⟩
        have i3 : (0 : Int) ≤ ((j + 1 : Nat) : Int) - 1 := by omega
        have i4 : ((j + 1 : Nat) : Int) - 1 = (j : Int) := by omega
        clear h0
        obtain ⟨t, HT⟩ : ∃ v, Hid (2 ^ j = v) := ⟨2 ^ j, rfl⟩
        obtain ⟨s, HS0⟩ : ∃ v, Hid (r + t = v) := ⟨_, rfl⟩
        have HS : Hid ((r : Int) + (t : Int) = (s : Int)) := by have := HS0.out; unfold Hid; omega
        have hj1 : j ≤ 3200000 := by omega
        have zt : Sz (t : Int) 200 := by rw [← HT.out]; exact sz_pow2 (by omega)
        have kt := zt.ok
        have ht0 : (digs t).length ≤ 1000000 := kt
        have ht1 : (digs (t : Int).natAbs).length ≤ 100000 := zt.lenB
        have zs : Sz (s : Int) 201 := by rw [← HS.out]; exact zr.add zt
        have ks := zs.ok
        have kr := zr.ok
        have hm : m ≤ 100000 := by rw [← ir.c.2.1.len]; exact zr.lenB
        have zq : Sz ((s : Int) * (s : Int)) 402 := zs.mul zs
        obtain ⟨q, HQ⟩ : ∃ v, Hid ((s : Int) * (s : Int) = v) := ⟨_, rfl⟩
        rw [HQ.out] at zq
        have kq := zq.ok
        have HJ : Hid (j + 1 ≤ 1601) := hk
        go_upto_region 8 with fail
        rw [i4]
        go_cut [6] from 17 to 33 (fun p6 wx => ∃ (h6 : Nat) (A5 : Option Addr) (n5 c5 : Nat), p6 = .pointer (some ⟨h6, 0, none⟩) ∧
          St w wx [vi h6 (decide ((s : Int) < 0)) A5 n5 c5, vi h4 (decide ((r : Int) < 0)) B m e, vi (w.heap.size + 1) false none 0 0, vi w.heap.size (decide (a < 0)) A1 n1 c1] [(decide ((s : Int) < 0), A5, n5, c5, (s : Int), true), (decide ((r : Int) < 0), B, m, e, (r : Int), true), (decide (a < 0), A1, n1, c1, a, true)])
        case first =>
          clear p2 p3 p4 p5 f0 f1 z3 z4 z5 z6
          have KZ := K
          clear K
          skip
          refine wp_region_held_drew (S := fun w' => w'.cell? ⟨h4, 0, none⟩ = some (.bool (decide ((r : Int) < 0))) ∧ w'.cell? ⟨h4, 1, none⟩ = some (.slice B m e)) (by kernel_rfl) ?_ (fun hHeld0 => ?_)
          · ((try dsimp only); go_keep)
          refine wpAnyH_take (i := 0) (oi := ⟨some 21, _, _, _, _, _⟩) (v := ?_) rfl (by kernel_rfl) (by kernel_rfl) (by kernel_rfl) (fun _ _ _ h => h) (Or.inl ⟨by rfl, ?_⟩) (by assumption) ?_
          rotate_left
          · (intro w' hSw; (try dsimp only at hSw); go_simp; (try with_reducible rfl))
          (try simp only [Act.put, List.setIfInBounds_toArray, List.set_cons_zero, List.set_cons_succ])
          refine wpAnyH_take (i := 2) (oi := ⟨some 23, _, _, _, _, _⟩) (v := ?_) rfl (by kernel_rfl) (by kernel_rfl) (by kernel_rfl) (fun _ _ _ h => h) (Or.inl ⟨by rfl, ?_⟩) (by assumption) ?_
          rotate_left
          · (intro w' hSw; (try dsimp only at hSw); go_simp; (try with_reducible rfl))
          (try simp only [Act.put, List.setIfInBounds_toArray, List.set_cons_zero, List.set_cons_succ])
          refine wpAnyH_ready (rs := [1, 6]) (by kernel_rfl) (by simp) ?_
          refine AllReadyH.cons (o := ⟨some 22, _, _, _, _, _⟩) rfl (fun K hK => ?_) ?_
          · skip
            go_simp
            have K1 := (KZ.alloc (.cells #[.int .u32 1] 94)).add (one_can _)
            (try simp only [World.size_alloc] at K1)
            obtain ⟨⟨p0_1, p1_1⟩, _⟩ := K1.facts
            refine hK.out _ _ ?_ (fun hHeld1 => ?_)
            · ((try dsimp only); first | go_keep | (trace_state; fail))
            clear hK K hHeld0
            (try simp only [Act.put, List.setIfInBounds_toArray, List.set_cons_zero, List.set_cons_succ])
            refine wpAnyH_ready (rs := [3, 6]) (by kernel_rfl) (by simp) ?_
            refine AllReadyH.cons (o := ⟨some 24, _, _, _, _, _⟩) rfl (fun K hK => ?_) ?_
            · skip
              go_simp
              have i3c := K1.drew.ints.1.c
              (go_at_call 109; (with_reducible refine (rshift_one i3c j hj1).mono ?_); rw [HT.out]; rintro e w3 ⟨A3, n3, c3, rfl, d3, u3, v3, g3⟩)
              (try go_wp2_with fail)
              have K3 := (K1.drew.call g3).add (CanAt.nat d3 u3 v3)
              clear p0 p1 p0_1 p1_1
              obtain ⟨⟨p0_2, p1_2⟩, _⟩ := K3.facts
              refine hK.out _ _ ?_ (fun hHeld2 => ?_)
              · ((try dsimp only); first | go_keep | (trace_state; fail))
              clear hK K hHeld1
              (try simp only [Act.put, List.setIfInBounds_toArray, List.set_cons_zero, List.set_cons_succ])
              refine wpAnyH_ready (rs := [4, 6]) (by kernel_rfl) (by simp) ?_
              refine AllReadyH.cons (o := ⟨some 25, _, _, _, _, _⟩) rfl (fun K hK => ?_) ?_
              · skip
                go_simp
                have i4c := K3.ints.1.c
                (go_at_call 108; (with_reducible refine (make_at i4c ht0).mono ?_); rw [zOf_false]; rintro e w4 ⟨A4, n4, c4, rfl, d4, u4, v4, g4⟩)
                have ht4 : n4 ≤ 100000 := (by rw [← d4.len]; exact ht1)
                (try go_wp2_with fail)
                have K4 := (K3.call g4).add (CanAt.mk_ d4 u4 v4)
                clear p0_2 p1_2
                obtain ⟨⟨p0_3, p1_3⟩, _⟩ := K4.facts
                refine hK.out _ _ ?_ (fun hHeld3 => ?_)
                · ((try dsimp only); first | go_keep | (trace_state; fail))
                clear hK K hHeld2
                (try simp only [Act.put, List.setIfInBounds_toArray, List.set_cons_zero, List.set_cons_succ])
                refine wpAnyH_ready (rs := [5, 6]) (by kernel_rfl) (by simp) ?_
                refine AllReadyH.cons (o := ⟨some 26, _, _, _, _, _⟩) rfl (fun K hK => ?_) ?_
                · skip
                  go_simp
                  have ia5 := K4.ints.2.2.2.1.ci kr
                  have ib5 := K4.ints.1.ci kt
                  (go_at_call 107; (with_reducible refine (radd_at ia5 ib5 hm ht4).mono ?_); rw [HS.out]; rintro e w5 ⟨A5, n5, c5, rfl, d5, u5, v5, g5⟩)
                  (try go_wp2_with fail)
                  have K5 := (K4.call g5).add (CanAt.mk_ d5 u5 v5)
                  clear p0_3 p1_3
                  obtain ⟨⟨p0_4, p1_4⟩, _⟩ := K5.facts
                  refine hK.out _ _ ?_ (fun hHeld4 => ?_)
                  · ((try dsimp only); first | go_keep | (trace_state; fail))
                  clear hK K hHeld3
                  (try simp only [Act.put, List.setIfInBounds_toArray, List.set_cons_zero, List.set_cons_succ])
                  refine wpAnyH_ready (rs := [6]) (by kernel_rfl) (by simp) ?_
                  refine AllReadyH.cons (o := ⟨some 6, _, _, _, _, _⟩) rfl (fun K hK => ?_) AllReadyH.nil
                  go_simp
                  have KA := K5.new 24 (Plains.two false none 0 0)
                  (try simp only [World.size_alloc] at KA)
                  obtain ⟨⟨v0_5, v1_5⟩, ⟨p0_5, p1_5⟩, _⟩ := KA.facts
                  obtain ⟨f0_5, f1_5⟩ := KA.free (i := 0) rfl
                  obtain ⟨z0_5, z1_5⟩ := KA.ne 0 1 rfl rfl (by decide)
                  refine hK.out _ _ ?_ (fun hHeld5 => ?_)
                  · ((try dsimp only); first | go_keep | (trace_state; fail))
                  clear hK K hHeld4
                  (try simp only [Act.put, List.setIfInBounds_toArray, List.set_cons_zero, List.set_cons_succ])
                  refine wpAnyH_ready (rs := [7]) (by kernel_rfl) (by simp) ?_
                  refine AllReadyH.cons (o := ⟨none, _, _, _, _, _⟩) rfl (fun K hK => ?_) AllReadyH.nil
                  go_simp
                  refine hK.out _ _ ?_ (fun hHeld6 => ?_)
                  · ((try dsimp only); first | go_keep | (trace_state; fail))
                  clear hK K hHeld5
                  (try simp only [Act.put, List.setIfInBounds_toArray, List.set_cons_zero, List.set_cons_succ])
                  refine wpAnyH_done (by kernel_rfl) ?_ _
                  go_wp2_with fail
                  go_meet
                  have KF := K5.new 24 (Plains.two (decide ((s : Int) < 0)) A5 n5 c5)
                  (try simp only [List.set, World.size_alloc, World.size_setCell] at KF)
                  exact ⟨_, A5, n5, c5, rfl, KF.ints_ ⟨KF.ints.1, KF.ints.2.2.2.2.1, KF.ints.2.2.2.2.2.1, trivial⟩⟩
                refine AllReadyH.cons (o := ⟨some 6, _, _, _, _, _⟩) rfl (fun K hK => ?_) AllReadyH.nil
                go_simp
                have KA := K4.new 24 (Plains.two false none 0 0)
                (try simp only [World.size_alloc] at KA)
                obtain ⟨⟨v0_4, v1_4⟩, ⟨p0_4, p1_4⟩, _⟩ := KA.facts
                obtain ⟨f0_4, f1_4⟩ := KA.free (i := 0) rfl
                obtain ⟨z0_4, z1_4⟩ := KA.ne 0 1 rfl rfl (by decide)
                refine hK.out _ _ ?_ (fun hHeld4 => ?_)
                · ((try dsimp only); first | go_keep | (trace_state; fail))
                clear hK K hHeld3
                (try simp only [Act.put, List.setIfInBounds_toArray, List.set_cons_zero, List.set_cons_succ])
                refine wpAnyH_ready (rs := [5]) (by kernel_rfl) (by simp) ?_
                refine AllReadyH.cons (o := ⟨some 26, _, _, _, _, _⟩) rfl (fun K hK => ?_) AllReadyH.nil
                go_simp
                have ia5 := KA.ints.2.2.2.1.ci kr
                have ib5 := KA.ints.1.ci kt
                (go_at_call 107; (with_reducible refine (radd_at ia5 ib5 hm ht4).mono ?_); rw [HS.out]; rintro e w5 ⟨A5, n5, c5, rfl, d5, u5, v5, g5⟩)
                (try go_wp2_with fail)
                have K5 := (KA.call g5).add (CanAt.mk_ d5 u5 v5)
                clear p0_3 p1_3 p0_4 p1_4 v0_4 v1_4 f0_4 f1_4 z0_4 z1_4
                obtain ⟨⟨v0_5, v1_5⟩, ⟨p0_5, p1_5⟩, _⟩ := K5.facts
                obtain ⟨f0_5, f1_5⟩ := K5.free (i := 0) rfl
                obtain ⟨z0_5, z1_5⟩ := K5.ne 0 1 rfl rfl (by decide)
                refine hK.out _ _ ?_ (fun hHeld5 => ?_)
                · ((try dsimp only); first | go_keep | (trace_state; fail))
                clear hK K hHeld4
                (try simp only [Act.put, List.setIfInBounds_toArray, List.set_cons_zero, List.set_cons_succ])
                refine wpAnyH_ready (rs := [7]) (by kernel_rfl) (by simp) ?_
                refine AllReadyH.cons (o := ⟨none, _, _, _, _, _⟩) rfl (fun K hK => ?_) AllReadyH.nil
                go_simp
                refine hK.out _ _ ?_ (fun hHeld6 => ?_)
                · ((try dsimp only); first | go_keep | (trace_state; fail))
                clear hK K hHeld5
                (try simp only [Act.put, List.setIfInBounds_toArray, List.set_cons_zero, List.set_cons_succ])
                refine wpAnyH_done (by kernel_rfl) ?_ _
                go_wp2_with fail
                go_meet
                have KF := K5.put 0 rfl (decide ((s : Int) < 0)) A5 n5 c5
                (try simp only [List.set, World.size_alloc, World.size_setCell] at KF)
                exact ⟨_, A5, n5, c5, rfl, KF.ints_ ⟨KF.ints.1, KF.ints.2.2.2.2.1, KF.ints.2.2.2.2.2.1, trivial⟩⟩
              refine AllReadyH.cons (o := ⟨some 6, _, _, _, _, _⟩) rfl (fun K hK => ?_) AllReadyH.nil
              go_simp
              have KA := K3.new 24 (Plains.two false none 0 0)
              (try simp only [World.size_alloc] at KA)
              obtain ⟨⟨v0_3, v1_3⟩, ⟨p0_3, p1_3⟩, _⟩ := KA.facts
              obtain ⟨f0_3, f1_3⟩ := KA.free (i := 0) rfl
              obtain ⟨z0_3, z1_3⟩ := KA.ne 0 1 rfl rfl (by decide)
              refine hK.out _ _ ?_ (fun hHeld3 => ?_)
              · ((try dsimp only); first | go_keep | (trace_state; fail))
              clear hK K hHeld2
              (try simp only [Act.put, List.setIfInBounds_toArray, List.set_cons_zero, List.set_cons_succ])
              refine wpAnyH_ready (rs := [4]) (by kernel_rfl) (by simp) ?_
              refine AllReadyH.cons (o := ⟨some 25, _, _, _, _, _⟩) rfl (fun K hK => ?_) AllReadyH.nil
              go_simp
              have i4c := KA.ints.1.c
              (go_at_call 108; (with_reducible refine (make_at i4c ht0).mono ?_); rw [zOf_false]; rintro e w4 ⟨A4, n4, c4, rfl, d4, u4, v4, g4⟩)
              have ht4 : n4 ≤ 100000 := (by rw [← d4.len]; exact ht1)
              (try go_wp2_with fail)
              have K4 := (KA.call g4).add (CanAt.mk_ d4 u4 v4)
              clear p0_2 p1_2 p0_3 p1_3 v0_3 v1_3 f0_3 f1_3 z0_3 z1_3
              obtain ⟨⟨v0_4, v1_4⟩, ⟨p0_4, p1_4⟩, _⟩ := K4.facts
              obtain ⟨f0_4, f1_4⟩ := K4.free (i := 0) rfl
              obtain ⟨z0_4, z1_4⟩ := K4.ne 0 1 rfl rfl (by decide)
              refine hK.out _ _ ?_ (fun hHeld4 => ?_)
              · ((try dsimp only); first | go_keep | (trace_state; fail))
              clear hK K hHeld3
              (try simp only [Act.put, List.setIfInBounds_toArray, List.set_cons_zero, List.set_cons_succ])
              refine wpAnyH_ready (rs := [5]) (by kernel_rfl) (by simp) ?_
              refine AllReadyH.cons (o := ⟨some 26, _, _, _, _, _⟩) rfl (fun K hK => ?_) AllReadyH.nil
              go_simp
              have ia5 := K4.ints.2.2.2.1.ci kr
              have ib5 := K4.ints.1.ci kt
              (go_at_call 107; (with_reducible refine (radd_at ia5 ib5 hm ht4).mono ?_); rw [HS.out]; rintro e w5 ⟨A5, n5, c5, rfl, d5, u5, v5, g5⟩)
              (try go_wp2_with fail)
              have K5 := (K4.call g5).add (CanAt.mk_ d5 u5 v5)
              clear p0_4 p1_4 v0_4 v1_4 f0_4 f1_4 z0_4 z1_4
              obtain ⟨⟨v0_5, v1_5⟩, ⟨p0_5, p1_5⟩, _⟩ := K5.facts
              obtain ⟨f0_5, f1_5⟩ := K5.free (i := 0) rfl
              obtain ⟨z0_5, z1_5⟩ := K5.ne 0 1 rfl rfl (by decide)
              refine hK.out _ _ ?_ (fun hHeld5 => ?_)
              · ((try dsimp only); first | go_keep | (trace_state; fail))
              clear hK K hHeld4
              (try simp only [Act.put, List.setIfInBounds_toArray, List.set_cons_zero, List.set_cons_succ])
              refine wpAnyH_ready (rs := [7]) (by kernel_rfl) (by simp) ?_
              refine AllReadyH.cons (o := ⟨none, _, _, _, _, _⟩) rfl (fun K hK => ?_) AllReadyH.nil
              go_simp
              refine hK.out _ _ ?_ (fun hHeld6 => ?_)
              · ((try dsimp only); first | go_keep | (trace_state; fail))
              clear hK K hHeld5
              (try simp only [Act.put, List.setIfInBounds_toArray, List.set_cons_zero, List.set_cons_succ])
              refine wpAnyH_done (by kernel_rfl) ?_ _
              go_wp2_with fail
              go_meet
              have KF := K5.put 0 rfl (decide ((s : Int) < 0)) A5 n5 c5
              (try simp only [List.set, World.size_alloc, World.size_setCell] at KF)
              exact ⟨_, A5, n5, c5, rfl, KF.ints_ ⟨KF.ints.1, KF.ints.2.2.2.2.1, KF.ints.2.2.2.2.2.1, trivial⟩⟩
            refine AllReadyH.cons (o := ⟨some 6, _, _, _, _, _⟩) rfl (fun K hK => ?_) AllReadyH.nil
            go_simp
            have KA := K1.new 24 (Plains.two false none 0 0)
            (try simp only [World.size_alloc] at KA)
            obtain ⟨⟨v0_2, v1_2⟩, ⟨p0_2, p1_2⟩, _⟩ := KA.facts
            obtain ⟨f0_2, f1_2⟩ := KA.free (i := 0) rfl
            obtain ⟨z0_2, z1_2⟩ := KA.ne 0 1 rfl rfl (by decide)
            refine hK.out _ _ ?_ (fun hHeld2 => ?_)
            · ((try dsimp only); first | go_keep | (trace_state; fail))
            clear hK K hHeld1
            (try simp only [Act.put, List.setIfInBounds_toArray, List.set_cons_zero, List.set_cons_succ])
            refine wpAnyH_ready (rs := [3]) (by kernel_rfl) (by simp) ?_
            refine AllReadyH.cons (o := ⟨some 24, _, _, _, _, _⟩) rfl (fun K hK => ?_) AllReadyH.nil
            go_simp
            have i3c := KA.drew.ints.1.c
            (go_at_call 109; (with_reducible refine (rshift_one i3c j hj1).mono ?_); rw [HT.out]; rintro e w3 ⟨A3, n3, c3, rfl, d3, u3, v3, g3⟩)
            (try go_wp2_with fail)
            have K3 := (KA.drew.call g3).add (CanAt.nat d3 u3 v3)
            clear p0 p1 p0_1 p1_1 p0_2 p1_2 v0_2 v1_2 f0_2 f1_2 z0_2 z1_2
            obtain ⟨⟨v0_3, v1_3⟩, ⟨p0_3, p1_3⟩, _⟩ := K3.facts
            obtain ⟨f0_3, f1_3⟩ := K3.free (i := 0) rfl
            obtain ⟨z0_3, z1_3⟩ := K3.ne 0 1 rfl rfl (by decide)
            refine hK.out _ _ ?_ (fun hHeld3 => ?_)
            · ((try dsimp only); first | go_keep | (trace_state; fail))
            clear hK K hHeld2
            (try simp only [Act.put, List.setIfInBounds_toArray, List.set_cons_zero, List.set_cons_succ])
            refine wpAnyH_ready (rs := [4]) (by kernel_rfl) (by simp) ?_
            refine AllReadyH.cons (o := ⟨some 25, _, _, _, _, _⟩) rfl (fun K hK => ?_) AllReadyH.nil
            go_simp
            have i4c := K3.ints.1.c
            (go_at_call 108; (with_reducible refine (make_at i4c ht0).mono ?_); rw [zOf_false]; rintro e w4 ⟨A4, n4, c4, rfl, d4, u4, v4, g4⟩)
            have ht4 : n4 ≤ 100000 := (by rw [← d4.len]; exact ht1)
            (try go_wp2_with fail)
            have K4 := (K3.call g4).add (CanAt.mk_ d4 u4 v4)
            clear p0_3 p1_3 v0_3 v1_3 f0_3 f1_3 z0_3 z1_3
            obtain ⟨⟨v0_4, v1_4⟩, ⟨p0_4, p1_4⟩, _⟩ := K4.facts
            obtain ⟨f0_4, f1_4⟩ := K4.free (i := 0) rfl
            obtain ⟨z0_4, z1_4⟩ := K4.ne 0 1 rfl rfl (by decide)
            refine hK.out _ _ ?_ (fun hHeld4 => ?_)
            · ((try dsimp only); first | go_keep | (trace_state; fail))
            clear hK K hHeld3
            (try simp only [Act.put, List.setIfInBounds_toArray, List.set_cons_zero, List.set_cons_succ])
            refine wpAnyH_ready (rs := [5]) (by kernel_rfl) (by simp) ?_
            refine AllReadyH.cons (o := ⟨some 26, _, _, _, _, _⟩) rfl (fun K hK => ?_) AllReadyH.nil
            go_simp
            have ia5 := K4.ints.2.2.2.1.ci kr
            have ib5 := K4.ints.1.ci kt
            (go_at_call 107; (with_reducible refine (radd_at ia5 ib5 hm ht4).mono ?_); rw [HS.out]; rintro e w5 ⟨A5, n5, c5, rfl, d5, u5, v5, g5⟩)
            (try go_wp2_with fail)
            have K5 := (K4.call g5).add (CanAt.mk_ d5 u5 v5)
            clear p0_4 p1_4 v0_4 v1_4 f0_4 f1_4 z0_4 z1_4
            obtain ⟨⟨v0_5, v1_5⟩, ⟨p0_5, p1_5⟩, _⟩ := K5.facts
            obtain ⟨f0_5, f1_5⟩ := K5.free (i := 0) rfl
            obtain ⟨z0_5, z1_5⟩ := K5.ne 0 1 rfl rfl (by decide)
            refine hK.out _ _ ?_ (fun hHeld5 => ?_)
            · ((try dsimp only); first | go_keep | (trace_state; fail))
            clear hK K hHeld4
            (try simp only [Act.put, List.setIfInBounds_toArray, List.set_cons_zero, List.set_cons_succ])
            refine wpAnyH_ready (rs := [7]) (by kernel_rfl) (by simp) ?_
            refine AllReadyH.cons (o := ⟨none, _, _, _, _, _⟩) rfl (fun K hK => ?_) AllReadyH.nil
            go_simp
            refine hK.out _ _ ?_ (fun hHeld6 => ?_)
            · ((try dsimp only); first | go_keep | (trace_state; fail))
            clear hK K hHeld5
            (try simp only [Act.put, List.setIfInBounds_toArray, List.set_cons_zero, List.set_cons_succ])
            refine wpAnyH_done (by kernel_rfl) ?_ _
            go_wp2_with fail
            go_meet
            have KF := K5.put 0 rfl (decide ((s : Int) < 0)) A5 n5 c5
            (try simp only [List.set, World.size_alloc, World.size_setCell] at KF)
            exact ⟨_, A5, n5, c5, rfl, KF.ints_ ⟨KF.ints.1, KF.ints.2.2.2.2.1, KF.ints.2.2.2.2.2.1, trivial⟩⟩
          refine AllReadyH.cons (o := ⟨some 6, _, _, _, _, _⟩) rfl (fun K hK => ?_) AllReadyH.nil
          go_simp
          have KA := KZ.new 24 (Plains.two false none 0 0)
          (try simp only [World.size_alloc] at KA)
          obtain ⟨⟨v0_1, v1_1⟩, ⟨p0_1, p1_1⟩, _⟩ := KA.facts
          obtain ⟨f0_1, f1_1⟩ := KA.free (i := 0) rfl
          obtain ⟨z0_1, z1_1⟩ := KA.ne 0 1 rfl rfl (by decide)
          refine hK.out _ _ ?_ (fun hHeld1 => ?_)
          · ((try dsimp only); first | go_keep | (trace_state; fail))
          clear hK K hHeld0
          (try simp only [Act.put, List.setIfInBounds_toArray, List.set_cons_zero, List.set_cons_succ])
          refine wpAnyH_ready (rs := [1]) (by kernel_rfl) (by simp) ?_
          refine AllReadyH.cons (o := ⟨some 22, _, _, _, _, _⟩) rfl (fun K hK => ?_) AllReadyH.nil
          go_simp
          have K1 := (KA.alloc (.cells #[.int .u32 1] 94)).add (one_can _)
          (try simp only [World.size_alloc] at K1)
          obtain ⟨⟨v0_2, v1_2⟩, ⟨p0_2, p1_2⟩, _⟩ := K1.facts
          obtain ⟨f0_2, f1_2⟩ := K1.free (i := 0) rfl
          obtain ⟨z0_2, z1_2⟩ := K1.ne 0 1 rfl rfl (by decide)
          refine hK.out _ _ ?_ (fun hHeld2 => ?_)
          · ((try dsimp only); first | go_keep | (trace_state; fail))
          clear hK K hHeld1
          (try simp only [Act.put, List.setIfInBounds_toArray, List.set_cons_zero, List.set_cons_succ])
          refine wpAnyH_ready (rs := [3]) (by kernel_rfl) (by simp) ?_
          refine AllReadyH.cons (o := ⟨some 24, _, _, _, _, _⟩) rfl (fun K hK => ?_) AllReadyH.nil
          go_simp
          have i3c := K1.drew.ints.1.c
          (go_at_call 109; (with_reducible refine (rshift_one i3c j hj1).mono ?_); rw [HT.out]; rintro e w3 ⟨A3, n3, c3, rfl, d3, u3, v3, g3⟩)
          (try go_wp2_with fail)
          have K3 := (K1.drew.call g3).add (CanAt.nat d3 u3 v3)
          clear p0 p1 p0_1 p1_1 v0_1 v1_1 f0_1 f1_1 z0_1 z1_1 p0_2 p1_2 v0_2 v1_2 f0_2 f1_2 z0_2 z1_2
          obtain ⟨⟨v0_3, v1_3⟩, ⟨p0_3, p1_3⟩, _⟩ := K3.facts
          obtain ⟨f0_3, f1_3⟩ := K3.free (i := 0) rfl
          obtain ⟨z0_3, z1_3⟩ := K3.ne 0 1 rfl rfl (by decide)
          refine hK.out _ _ ?_ (fun hHeld3 => ?_)
          · ((try dsimp only); first | go_keep | (trace_state; fail))
          clear hK K hHeld2
          (try simp only [Act.put, List.setIfInBounds_toArray, List.set_cons_zero, List.set_cons_succ])
          refine wpAnyH_ready (rs := [4]) (by kernel_rfl) (by simp) ?_
          refine AllReadyH.cons (o := ⟨some 25, _, _, _, _, _⟩) rfl (fun K hK => ?_) AllReadyH.nil
          go_simp
          have i4c := K3.ints.1.c
          (go_at_call 108; (with_reducible refine (make_at i4c ht0).mono ?_); rw [zOf_false]; rintro e w4 ⟨A4, n4, c4, rfl, d4, u4, v4, g4⟩)
          have ht4 : n4 ≤ 100000 := (by rw [← d4.len]; exact ht1)
          (try go_wp2_with fail)
          have K4 := (K3.call g4).add (CanAt.mk_ d4 u4 v4)
          clear p0_3 p1_3 v0_3 v1_3 f0_3 f1_3 z0_3 z1_3
          obtain ⟨⟨v0_4, v1_4⟩, ⟨p0_4, p1_4⟩, _⟩ := K4.facts
          obtain ⟨f0_4, f1_4⟩ := K4.free (i := 0) rfl
          obtain ⟨z0_4, z1_4⟩ := K4.ne 0 1 rfl rfl (by decide)
          refine hK.out _ _ ?_ (fun hHeld4 => ?_)
          · ((try dsimp only); first | go_keep | (trace_state; fail))
          clear hK K hHeld3
          (try simp only [Act.put, List.setIfInBounds_toArray, List.set_cons_zero, List.set_cons_succ])
          refine wpAnyH_ready (rs := [5]) (by kernel_rfl) (by simp) ?_
          refine AllReadyH.cons (o := ⟨some 26, _, _, _, _, _⟩) rfl (fun K hK => ?_) AllReadyH.nil
          go_simp
          have ia5 := K4.ints.2.2.2.1.ci kr
          have ib5 := K4.ints.1.ci kt
          (go_at_call 107; (with_reducible refine (radd_at ia5 ib5 hm ht4).mono ?_); rw [HS.out]; rintro e w5 ⟨A5, n5, c5, rfl, d5, u5, v5, g5⟩)
          (try go_wp2_with fail)
          have K5 := (K4.call g5).add (CanAt.mk_ d5 u5 v5)
          clear p0_4 p1_4 v0_4 v1_4 f0_4 f1_4 z0_4 z1_4
          obtain ⟨⟨v0_5, v1_5⟩, ⟨p0_5, p1_5⟩, _⟩ := K5.facts
          obtain ⟨f0_5, f1_5⟩ := K5.free (i := 0) rfl
          obtain ⟨z0_5, z1_5⟩ := K5.ne 0 1 rfl rfl (by decide)
          refine hK.out _ _ ?_ (fun hHeld5 => ?_)
          · ((try dsimp only); first | go_keep | (trace_state; fail))
          clear hK K hHeld4
          (try simp only [Act.put, List.setIfInBounds_toArray, List.set_cons_zero, List.set_cons_succ])
          refine wpAnyH_ready (rs := [7]) (by kernel_rfl) (by simp) ?_
          refine AllReadyH.cons (o := ⟨none, _, _, _, _, _⟩) rfl (fun K hK => ?_) AllReadyH.nil
          go_simp
          refine hK.out _ _ ?_ (fun hHeld6 => ?_)
          · ((try dsimp only); first | go_keep | (trace_state; fail))
          clear hK K hHeld5
          (try simp only [Act.put, List.setIfInBounds_toArray, List.set_cons_zero, List.set_cons_succ])
          refine wpAnyH_done (by kernel_rfl) ?_ _
          go_wp2_with fail
          go_meet
          have KF := K5.put 0 rfl (decide ((s : Int) < 0)) A5 n5 c5
          (try simp only [List.set, World.size_alloc, World.size_setCell] at KF)
          exact ⟨_, A5, n5, c5, rfl, KF.ints_ ⟨KF.ints.1, KF.ints.2.2.2.2.1, KF.ints.2.2.2.2.2.1, trivial⟩⟩
        case rest =>
          clear K ir ia p0 p1 p2 p3 p4 p5 f0 f1 z3 z4 z5 z6
          obtain ⟨h6, A5, n5, c5, rfl, KC⟩ := hcut
          have K := KC.drew
          clear KC
          have hs5 : n5 ≤ 100000 := by rw [← K.ints.1.c.2.1.len]; exact zs.lenB
          obtain ⟨p0, p1⟩ := K.facts.1
          obtain ⟨p4, p5⟩ := K.facts.2.2.2.1
          have isI := K.ints.1.ci ks
          obtain ⟨v, HV⟩ : ∃ v, Hid (cmpI q a = v) := ⟨_, rfl⟩
          by_cases hle : q ≤ a
          · have hv : v ≤ 0 := by rw [← HV.out]; unfold cmpI; split <;> (try split) <;> omega
            have HLE := Lib.hid hle
            clear hle
            go_upto_region 9 with fail
            go_region_held3 (fun w' => w'.cell? ⟨h6, 0, none⟩ = some (.bool (decide ((s : Int) < 0))) ∧ w'.cell? ⟨h6, 1, none⟩ = some (.slice A5 n5 c5) ∧ w'.cell? ⟨w.heap.size, 0, none⟩ = some (.bool (decide (a < 0))) ∧ w'.cell? ⟨w.heap.size, 1, none⟩ = some (.slice A1 n1 c1))
              (go_keep)
              (first
                | (go_at_call 95; (with_reducible refine (rmul_at isI isI hs5 hs5).mono ?_); rw [HQ.out]; rintro e6 w6 ⟨A6, n6, c6, rfl, d6, u6, v6, g6⟩; have K6 := (K.call g6).add (CanAt.mk_ d6 u6 v6); clear p0 p1 p4 p5; obtain ⟨p0, p1⟩ := K6.facts.1; obtain ⟨p4, p5⟩ := K6.facts.2.2.2.1; have iq := K6.ints.1.ci kq; have ja := K6.ints.2.2.2.1.ci ka; rw [hd] at ja)
                | (go_at_call 110; (with_reducible refine (rcompare_at iq ja).mono ?_); rw [HV.out]; rintro e7 w7 ⟨rfl, g7⟩; have K7 := K6.call g7; clear p0 p1 p4 p5; obtain ⟨p0, p1⟩ := K7.facts.1; obtain ⟨p4, p5⟩ := K7.facts.2.2.2.1; obtain ⟨f0, f1⟩ := K7.free (i := 1) rfl; obtain ⟨q0, q1⟩ := K7.facts.2.1; obtain ⟨z3, z4⟩ := K7.ne 0 1 rfl rfl (by decide))
                | fail)
            go_wp2_with fail
            have KP := K7.put 1 rfl (decide ((s : Int) < 0)) A5 n5 c5
            simp only [List.set] at KP
            have KE := KP.erase 0
            simp only [List.eraseIdx] at KE
            go_roundg j
            case rel => exact ⟨by go_num, by have := HJ.out; omega, s, A5, n5, c5, KE.ints_ ⟨KE.ints.2.1, KE.ints.2.2.2.1, trivial⟩, rq_yes HT.out HS0.out HQ.out HLE.out, rq_up HT.out HS0.out HR2.out⟩
            case measure => omega
          · have hv : ¬ v ≤ 0 := by rw [← HV.out]; unfold cmpI; split <;> (try split) <;> omega
            have HLE := Lib.hid hle
            clear hle
            go_upto_region 9 with fail
            go_region_held3 (fun w' => w'.cell? ⟨h6, 0, none⟩ = some (.bool (decide ((s : Int) < 0))) ∧ w'.cell? ⟨h6, 1, none⟩ = some (.slice A5 n5 c5) ∧ w'.cell? ⟨w.heap.size, 0, none⟩ = some (.bool (decide (a < 0))) ∧ w'.cell? ⟨w.heap.size, 1, none⟩ = some (.slice A1 n1 c1))
              (go_keep)
              (first
                | (go_at_call 95; (with_reducible refine (rmul_at isI isI hs5 hs5).mono ?_); rw [HQ.out]; rintro e6 w6 ⟨A6, n6, c6, rfl, d6, u6, v6, g6⟩; have K6 := (K.call g6).add (CanAt.mk_ d6 u6 v6); clear p0 p1 p4 p5; obtain ⟨p0, p1⟩ := K6.facts.1; obtain ⟨p4, p5⟩ := K6.facts.2.2.2.1; have iq := K6.ints.1.ci kq; have ja := K6.ints.2.2.2.1.ci ka; rw [hd] at ja)
                | (go_at_call 110; (with_reducible refine (rcompare_at iq ja).mono ?_); rw [HV.out]; rintro e7 w7 ⟨rfl, g7⟩; have K7 := K6.call g7; clear p0 p1 p4 p5; obtain ⟨p0, p1⟩ := K7.facts.1; obtain ⟨p4, p5⟩ := K7.facts.2.2.2.1)
                | fail)
            go_wp2_with fail
            have KE := K7.erase 0
            simp only [List.eraseIdx] at KE
            go_roundg j
            case rel => exact ⟨by go_num, by have := HJ.out; omega, r, B, m, e, KE.ints_ ⟨KE.ints.2.2.1, KE.ints.2.2.2.1, trivial⟩, HR1.out, rq_no HT.out HS0.out HQ.out HLE.out HNEG.out⟩
            case measure => omega
end Go.Proofs.Ytplmfdgdbolcaaa
