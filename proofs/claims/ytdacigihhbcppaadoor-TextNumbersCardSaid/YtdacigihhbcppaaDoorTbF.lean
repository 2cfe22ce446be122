/-
  Lists of texts in memory; when two of them are the same; the check that each law makes.
-/
import Derived.Test.YtdacigihhbcppaaDoorTbE
set_option linter.unusedVariables false
set_option linter.unusedSimpArgs false
namespace Go.Proofs.YtdacigihhbcppaaDoor
open Go.RowKit

def sAt (ls : List (List UInt8)) (k : Nat) : List UInt8 := ls.getD k []
/-- The slice value v reads as the texts ls. -/
def SIn (w : World) (a : Option Addr) (n : Nat) (ls : List (List UInt8)) : Prop :=
  ls.length = n ∧ (n = 0 ∨ ∃ g o, a = some ⟨g, o, none⟩ ∧ ∀ i, i < n → w.cell? ⟨g, o + i, none⟩ = some (strV (sAt ls i)))
theorem SIn.of_owns {W : World} {base : Nat} {v : Value} {k : Nat} {ls : List (List UInt8)} (h : W.ownsRow base 9 1 v k (ls.map strV)) : ∃ a c, v = .slice a k c ∧ k ≤ c ∧ c ≤ 9223372036854775807 ∧ SIn W a k ls ∧ ∀ x, a = some x → base ≤ x.block := by
  obtain ⟨hl, h⟩ := h
  simp only [List.length_map, Nat.mul_one] at hl
  rcases h with ⟨rfl, rfl⟩ | ⟨g, cap, cur, rfl, h1, h2, h3, h4, h5, h6⟩
  · exact ⟨none, 0, rfl, Nat.le_refl _, by omega, ⟨hl, .inl rfl⟩, fun x hx => by cases hx⟩
  · refine ⟨_, cap, rfl, h3, by unfold maxLen at h4; omega, ⟨hl, .inr ⟨g, 0, rfl, fun i hi => ?_⟩⟩, fun x hx => by cases hx; exact h1⟩
    have hc : cur[i]? = some (strV (sAt ls i)) := by
      have e1 : (cur.toList.take (k * 1))[i]? = some (strV (sAt ls i)) := by
        rw [h6, List.getElem?_map, List.getElem?_eq_getElem (by omega)]
        simp [sAt, List.getD, List.getElem?_eq_getElem (show i < ls.length by omega)]
      rw [List.getElem?_take_of_lt (by omega)] at e1
      simpa using e1
    unfold World.cell?
    rw [h2]
    simpa using hc

def RetB1 (w : World) (b : Bool) (e : Ending) (w' : World) : Prop := e = .returned (.bool b) ∧ Below w.heap.size w w'
def RetB0 (w : World) (b : Bool) (e : Ending) (w' : World) : Prop := e = .returned (.bool b) ∧ ∃ q, w' = w.drewN q

theorem fields_const : fieldsV [32, 102, 108, 105, 103, 104, 116, 32, 65, 66, 49, 32, 35, 32, 108, 97, 116, 101] = [[102, 108, 105, 103, 104, 116], [65, 66, 49]] := by decide
set_option maxHeartbeats 4000000 in
set_option maxRecDepth 100000 in
theorem awake_any (w : World) : Calls Tryd.prog 10 #[] w (RetB1 w true) := by
  have hf := fields_any [32, 102, 108, 105, 103, 104, 116, 32, 65, 66, 49, 32, 35, 32, 108, 97, 116, 101] (by decide) (by decide) w
  rw [fields_const] at hf
  have hf2 : Calls Tryd.prog 14 #[.string { data := #[32, 102, 108, 105, 103, 104, 116, 32, 65, 66, 49, 32, 35, 32, 108, 97, 116, 101] }] w fun e w' => ∃ g c, e = .returned (.slice (some ⟨g, 0, none⟩) 2 c) ∧ 2 ≤ c ∧ w'.cell? ⟨g, 0, none⟩ = some (.string ⟨#[102, 108, 105, 103, 104, 116]⟩) ∧ w'.cell? ⟨g, 1, none⟩ = some (.string ⟨#[65, 66, 49]⟩) ∧ Below w.heap.size w w' := by
    refine hf.mono ?_
    rintro e w' ⟨v, rfl, ho, hb⟩
    rcases ho.2 with ⟨_, h⟩ | ⟨g, cap, cur, rfl, h1, h2, h3, h4, h5, h6⟩
    · cases h
    · have hS := SIn.of_owns (ls := [[102, 108, 105, 103, 104, 116], [65, 66, 49]]) ho
      obtain ⟨a, c, hv, _, _, ⟨_, hS⟩, _⟩ := hS
      cases hv
      rcases hS with hS | ⟨g', o, ha, hS⟩
      · cases hS
      · cases ha
        exact ⟨g, cap, rfl, h3, hS 0 (by decide), hS 1 (by decide), hb⟩
  clear hf
  have HF := Lib.hid hf2
  clear hf2
  go_enter Tryd.func10, Tryd.ntmps10
  go_wp2_with (go_at_call 14; (with_reducible refine HF.out.mono ?_); rintro e w1 ⟨g, c, rfl, k1, k2, k3, k4⟩; have K4 := Lib.hid k4; clear k4)
  go_ret
  exact ⟨rfl, K4.out⟩

theorem take_sAt {x y : List (List UInt8)} {k : Nat} (hx : k < x.length) (hy : k < y.length) : x.take (k + 1) = y.take (k + 1) ↔ x.take k = y.take k ∧ sAt x k = sAt y k := by
  have e1 : x.take (k + 1) = x.take k ++ [sAt x k] := by rw [List.take_succ_eq_append_getElem hx]; simp [sAt, List.getD, List.getElem?_eq_getElem hx]
  have e2 : y.take (k + 1) = y.take k ++ [sAt y k] := by rw [List.take_succ_eq_append_getElem hy]; simp [sAt, List.getD, List.getElem?_eq_getElem hy]
  rw [e1, e2]
  constructor
  · intro h
    have := List.append_inj h (by simp; omega)
    exact ⟨this.1, List.cons.inj this.2 |>.1⟩
  · rintro ⟨h1, h2⟩; rw [h1, h2]
set_option maxHeartbeats 4000000 in
set_option maxRecDepth 100000 in
theorem same_any (a b : Option Addr) (n m c d : Nat) (x y : List (List UInt8)) (w : World) (hx : SIn w a n x) (hy : SIn w b m y) (hn : n ≤ 1000000) (hc : n ≤ c) (hd : m ≤ d) (hc2 : c ≤ 9223372036854775807) (hd2 : d ≤ 9223372036854775807) :
    Calls Tryd.prog 13 #[.slice a n c, .slice b m d] w (RetB0 w (decide (x = y))) := by
  obtain ⟨B, HB⟩ : ∃ B, Hid (decide (x = y) = B) := ⟨_, rfl⟩
  rw [HB.out]
  obtain ⟨hxl, hx⟩ := hx
  obtain ⟨hyl, hy⟩ := hy
  by_cases hnm : n = m
  · subst hnm
    have HX := Lib.hid hx
    have HY := Lib.hid hy
    have HXL := Lib.hid hxl
    have HYL := Lib.hid hyl
    clear hx hy hxl hyl
    have q0 : ((n : Int) != (n : Int)) = false := by simp
    go_enter Tryd.func13, Tryd.ntmps13
    go_wp2
    go_loopw [5] (fun i wr => ∃ k q : Nat, k ≤ n ∧ i = .int .i64 k ∧ wr = w.drewN q ∧ Hid (x.take k = y.take k)) (fun i _ => n - (intOf i).toNat)
    case atStart => exact ⟨0, 0, by omega, rfl, rfl, by unfold Hid; simp⟩
    case round =>
      obtain ⟨k, q, hk, rfl, rfl, HT⟩ := hrel
      by_cases hlt : k < n
      · obtain ⟨g1, o1, ha1, hc1⟩ : ∃ g o, a = some ⟨g, o, none⟩ ∧ w.cell? ⟨g, o + k, none⟩ = some (.string ⟨(sAt x k).toArray⟩) := by
          rcases HX.out with h | ⟨g, o, h1, h2⟩
          · omega
          · exact ⟨g, o, h1, h2 k hlt⟩
        obtain ⟨g2, o2, ha2, hc2'⟩ : ∃ g o, b = some ⟨g, o, none⟩ ∧ w.cell? ⟨g, o + k, none⟩ = some (.string ⟨(sAt y k).toArray⟩) := by
          rcases HY.out with h | ⟨g, o, h1, h2⟩
          · omega
          · exact ⟨g, o, h1, h2 k hlt⟩
        subst ha1 ha2
        have hts := take_sAt (x := x) (y := y) (k := k) (by rw [HXL.out]; exact hlt) (by rw [HYL.out]; exact hlt)
        obtain ⟨p, HP⟩ : ∃ p, Hid (sAt x k = p) := ⟨_, rfl⟩
        obtain ⟨r, HR⟩ : ∃ r, Hid (sAt y k = r) := ⟨_, rfl⟩
        rw [HP.out] at hc1 hts
        rw [HR.out] at hc2' hts
        have j0 : (0 : Int) ≤ (k : Int) := by omega
        have j1 : (k : Int) < (n : Int) := by omega
        have HTS := Lib.hid hts
        clear hts
        by_cases hpr : p = r
        · subst hpr
          have hT2 : Hid (x.take (k + 1) = y.take (k + 1)) := HTS.out.2 ⟨HT.out, rfl⟩
          go_wp2
          go_quiet (fail)
          go_wp2
          go_roundw
          case rel => exact ⟨k + 1, _, by omega, by go_num, rfl, hT2⟩
          case measure => simp [intOf]; omega
        · have r1 : (p == r) = false := by simpa using hpr
          have r2 : (p != r) = true := by simpa using hpr
          obtain rfl : B = false := by
            rw [← HB.out]; simp; intro h; subst h; exact hpr (HP.out.symm.trans HR.out)
          go_wp2
          go_quiet (fail)
          go_wp2
          go_ret
          exact ⟨rfl, _, by rw [World.drewN_drewN]⟩
      · obtain rfl : k = n := by omega
        obtain rfl : B = true := by
          rw [← HB.out]; simp
          have h := HT.out
          rwa [List.take_of_length_le (by rw [HXL.out]; exact Nat.le_refl _), List.take_of_length_le (by rw [HYL.out]; exact Nat.le_refl _)] at h
        have j1 : ¬ (k : Int) < (k : Int) := by omega
        go_wp2
        go_ret
        exact ⟨rfl, _, rfl⟩
  · obtain rfl : B = false := by
      rw [← HB.out]; simp; intro h; subst h; omega
    have q0 : ((n : Int) != (m : Int)) = true := by simp; omega
    clear hxl hyl hx hy
    go_enter Tryd.func13, Tryd.ntmps13
    go_wp2
    go_ret
    exact ⟨rfl, 0, rfl⟩
end Go.Proofs.YtdacigihhbcppaaDoor

