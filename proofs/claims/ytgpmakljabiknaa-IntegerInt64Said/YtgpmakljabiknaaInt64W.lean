/-
  The walk of the law IntegerInt64.
-/
import Derived.Test.YtgpmakljabiknaaAwake
import Derived.Test.YtgpmakljabiknaaLight
import Derived.Test.YtgpmakljabiknaaSame
import Derived.Deep.RegionHeld3
namespace Go.Proofs.Ytgpmakljabiknaa
open Go.RowKit

/-- Two numbers are handed back; what was there is as it was. -/
def RetI2 (w : World) (f e0 : Int) (e : Ending) (w' : World) : Prop := e = .returned (.tuple #[.int .i64 f, .int .i64 e0]) ∧ Below w.heap.size w w'

theorem toInt64_back (k : Int) (h1 : -9223372036854775808 ≤ k) (h2 : k ≤ 9223372036854775807) (s : Bool) (hs : s = decide (k < 0)) (A : Option Addr) (n c : Nat) (w : World) (h : Dgs w w.heap.size A n (digs k.natAbs)) (hc : n ≤ c) (hm : c ≤ maxLen) :
    Calls Try.prog 41 #[.agg #[.bool s, .slice A n c]] w (RetI2 w k 0) := by
  subst hs
  have := toInt64_any (decide (k < 0)) A n c (digs k.natAbs) w h hc hm
  rw [val_digs, ← zOf_abs] at this
  refine this.mono ?_
  rintro e w' ⟨he, hb⟩
  rw [(fits_of k h1 h2).1, (fits_of k h1 h2).2] at he
  exact ⟨he, hb⟩
theorem toInt64_var (f e0 : Int) (neg : Bool) (A : Option Addr) (n c : Nat) (ds : List Nat) (hf : f = if fits (zOf neg (val ds)) then zOf neg (val ds) else 0) (he0 : e0 = if fits (zOf neg (val ds)) then 0 else 5) (w : World) (h : Dgs w w.heap.size A n ds) (hc : n ≤ c) (hm : c ≤ maxLen) :
    Calls Try.prog 41 #[.agg #[.bool neg, .slice A n c]] w (RetI2 w f e0) := by
  rw [hf, he0]; exact toInt64_any neg A n c ds w h hc hm
theorem rtoInt64_var (f e0 : Int) (neg : Bool) (A : Option Addr) (n c : Nat) (ds : List Nat) (hf : f = if fits (zOf neg (val ds)) then zOf neg (val ds) else 0) (he0 : e0 = if fits (zOf neg (val ds)) then 0 else 5) (w : World) (h : Dgs w w.heap.size A n ds) (hc : n ≤ c) (hm : c ≤ maxLen) (hs : n ≤ 1000000) :
    Calls Try.prog 42 #[.agg #[.bool neg, .slice A n c]] w (RetI2 w f e0) := by
  rw [hf, he0]; exact rtoInt64_any neg A n c ds w h hc hm hs

set_option maxHeartbeats 2000000 in
set_option maxRecDepth 100000 in
theorem int64_law (k : Int) (h1 : -9223372036854775808 ≤ k) (h2 : k ≤ 9223372036854775807) (neg : Bool) (A : Option Addr) (n c : Nat) (da : List Nat) (w : World) (h : Dgs w w.heap.size A n da) (hc : n ≤ c) (hm : c ≤ maxLen) (hn : n ≤ 140737488351232) :
    Calls Try.prog 9 #[.int .i64 k, .agg #[.bool neg, .slice A n c]] w (RetT1 w) := by
  have hlight := light_any (w.heap.size + 1) 1 1 (fun _ => A) (fun _ => n) (fun _ => c) ((w.alloc (.cells #[.bool neg, .slice A n c] 24)).alloc (.cells #[.bool neg, .slice A n c] 24)) (by omega) (fun _ _ => hn) (fun i hi => by
    obtain rfl : i = 0 := by omega
    have := (Own.new (w.alloc (.cells #[.bool neg, .slice A n c] 24)) 24 (.bool neg) (.slice A n c)).facts.2.1
    rw [World.size_alloc] at this
    exact this)
  obtain ⟨f, hf⟩ : ∃ f : Int, Hid (f = if fits (zOf neg (val da)) then zOf neg (val da) else 0) := ⟨_, rfl⟩
  obtain ⟨e0, he0⟩ : ∃ e0 : Int, Hid (e0 = if fits (zOf neg (val da)) then (0 : Int) else 5) := ⟨_, rfl⟩
  by_cases hl : n ≤ 60
  · have hs : decide (sumN (fun _ => n) 1 ≤ 60) = true := by simp [sumN, hl]
    rw [hs] at hlight
    clear hs
    go_enter Try.func9, Try.ntmps9
    go_wp2_with (first
      | (go_at_call 12; (with_reducible refine hlight.mono ?_); rintro e w' ⟨rfl, rfl⟩)
      | (go_at_call 40; (with_reducible refine (fromInt64_any k h1 h2 _).mono ?_); rintro e w1 ⟨A1, n1, c1, rfl, hd1, hn1, hc1, hb1⟩; obtain ⟨s, hs⟩ : ∃ s, Hid (s = decide (k < 0)) := ⟨_, rfl⟩; rw [← hs.out]; have hB1 := bcall (bnew2 w _ _) hb1; have O1 := (((Own.new w 24 (.bool neg) (.slice A n c)).alloc _).below hb1).alloc (.cells #[.bool s, .slice A1 n1 c1] 24); have X1 := Own.new w1 24 (.bool s) (.slice A1 n1 c1); obtain ⟨q0, q1, q2, q3⟩ := O1.facts)
      | (go_at_call_of 41 (Value.agg #[Value.bool s, Value.slice A1 n1 c1]); (with_reducible refine (toInt64_back k h1 h2 s hs.out A1 n1 c1 _ ((hd1.alloc (Nat.le_refl _) _).more (by simp)) hn1 hc1).mono ?_); rintro e w2 ⟨rfl, hb2⟩; have O2 := O1.below hb2; obtain ⟨p0, p1, p2, p3⟩ := O2.facts; have X2 := X1.below hb2; have hB2 := bcall (bcall hB1 (bnew w1 _)) hb2)
      | (go_at_call_of 41 (Value.agg #[Value.bool neg, Value.slice A n c]); (with_reducible refine (toInt64_var f e0 neg A n c da hf.out he0.out _ ((h.below hB2).more hB2.size) hc hm).mono ?_); rintro e w3 ⟨rfl, hb3⟩; have O3 := O2.below hb3; obtain ⟨r0, r1, r2, r3⟩ := O3.facts; have X3 := X2.below hb3; have hB3 := bcall hB2 hb3)
      | (go_at_call 42; (with_reducible refine (rtoInt64_var f e0 neg A n c da hf.out he0.out _ ((h.below hB3).more hB3.size) hc hm (by omega)).mono ?_); rintro e w4 ⟨rfl, hb4⟩; have X4 := X3.below hb4; have hB4 := bcall hB3 hb4; obtain ⟨t0, t1, t2, t3⟩ := X4.facts))
    have X4d : Own w4.drew w1.heap.size 24 (.bool s) (.slice A1 n1 c1) := X4
    have hd4 : Dgs w4.drew w4.drew.heap.size A1 n1 (digs k.natAbs) := by
      have hbb := bcall (bcall hb2 hb3) hb4
      exact (((hd1.alloc (Nat.le_refl _) _).more (by simp)).below hbb).more hbb.size
    go_region_held3 (fun w' => w'.cell? ⟨w1.heap.size, 0, none⟩ = some (.bool s) ∧ w'.cell? ⟨w1.heap.size, 1, none⟩ = some (.slice A1 n1 c1))
      (go_keep)
      (first
        | (go_at_call 43; refine (rfromInt64_any k h1 h2 _).mono ?_; rintro e w5 ⟨A5, n5, c5, rfl, hd5, hn5, hc5, hb5⟩; rw [← hs.out]; have X5 := X4d.below hb5; obtain ⟨t0, t1, t2, t3⟩ := X5.facts; have hd6 := (hd4.below hb5).more hb5.size)
        | (go_at_call 18; refine (same_true s A1 A5 n1 n5 c1 c5 (digs k.natAbs) _ hd6 hd5 hn1 hc1 hn5 hc5).mono ?_; rintro e w6 ⟨rfl, hb6⟩; have X6 := X5.below hb6; obtain ⟨t0, t1, t2, t3⟩ := X6.facts)
        | (go_at_call 13; refine (awake_any _).mono ?_; rintro e w7 ⟨rfl, hb7⟩; have X7 := X6.below hb7; obtain ⟨t0, t1, t2, t3⟩ := X7.facts))
    go_wp2
    go_ret
    exact ⟨rfl, bcall (bcall (bcall hB4.drew hb5) hb6) hb7⟩
  · have hs : decide (sumN (fun _ => n) 1 ≤ 60) = false := by simp [sumN]; omega
    rw [hs] at hlight
    clear hs
    go_enter Try.func9, Try.ntmps9
    go_wp2_with (first
      | (go_at_call 12; (with_reducible refine hlight.mono ?_); rintro e w' ⟨rfl, rfl⟩)
      | (go_at_call 13; (with_reducible refine (awake_any _).mono ?_); rintro e w1 ⟨rfl, hb1⟩))
    go_ret
    exact ⟨rfl, bcall (bnew2 _ _ _) hb1⟩
end Go.Proofs.Ytgpmakljabiknaa
