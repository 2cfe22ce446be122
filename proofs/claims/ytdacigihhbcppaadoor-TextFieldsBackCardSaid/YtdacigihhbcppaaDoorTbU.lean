/-
  The law TextFieldsBack walked: fields without blanks and '#', joined by blanks, are returned unchanged, also with a comment after them.
-/
import Derived.Test.YtdacigihhbcppaaDoorTbQ
set_option linter.unusedVariables false
set_option linter.unusedSimpArgs false
namespace Go.Proofs.YtdacigihhbcppaaDoor
open Go.RowKit

/-- A byte that may stand in a field. -/
def clB (b : UInt8) : Bool := !(decide (b.toNat = 32)) && !(decide (b.toNat = 35))
def okF (x : List UInt8) : Bool := decide (0 < x.length) && decide (x.length ≤ 100) && x.all clB
/-- Fields, each behind a blank. -/
def sj : List (List UInt8) → List UInt8
  | [] => []
  | x :: xs => 32 :: x ++ sj xs
theorem sj_snoc : ∀ (ls : List (List UInt8)) (x : List UInt8), sj (ls ++ [x]) = sj ls ++ 32 :: x
  | [], x => by simp [sj]
  | y :: ys, x => by
    show 32 :: y ++ sj (ys ++ [x]) = _
    rw [sj_snoc ys x]
    show _ = (32 :: y ++ sj ys) ++ 32 :: x
    simp
theorem fw_clean : ∀ (x cur r : List UInt8), x.all clB = true → fw cur (x ++ r) = fw (cur ++ x) r
  | [], cur, r, _ => by simp
  | c :: x, cur, r, h => by
    simp only [List.all_cons, Bool.and_eq_true] at h
    obtain ⟨h1, h2⟩ := h
    simp [clB] at h1
    show fw cur (c :: (x ++ r)) = _
    conv => lhs; unfold fw
    rw [if_neg h1.2, if_neg h1.1, fw_clean x (cur ++ [c]) r h2]
    simp
theorem fw_sj (t : List UInt8) (ht : ∀ cur, fw cur t = one cur) : ∀ (ls : List (List UInt8)) (cur : List UInt8), ls.all okF = true → fw cur (sj ls ++ t) = one cur ++ ls
  | [], cur, _ => by show fw cur ([] ++ t) = _; rw [List.nil_append, ht, List.append_nil]
  | x :: xs, cur, h => by
    simp only [List.all_cons, Bool.and_eq_true] at h
    obtain ⟨h1, h2⟩ := h
    simp only [okF, Bool.and_eq_true, decide_eq_true_iff] at h1
    show fw cur (32 :: x ++ sj xs ++ t) = _
    show fw cur (32 :: (x ++ sj xs ++ t)) = _
    conv => lhs; unfold fw
    rw [if_neg (by decide), if_pos (by decide), List.append_assoc, fw_clean x [] _ h1.2, List.nil_append, fw_sj t ht xs x h2]
    show one cur ++ (one x ++ xs) = _
    rw [show one x = [x] by unfold one; rw [if_pos h1.1.1]]
    rfl
theorem fields_sj (ls : List (List UInt8)) (h : ls.all okF = true) : fieldsV (sj ls) = ls := by
  have := fw_sj [] (fun _ => rfl) ls [] h
  rw [List.append_nil] at this
  rw [fields_fw, this]; rfl
theorem fields_sj_comment (ls : List (List UInt8)) (c : List UInt8) (h : ls.all okF = true) : fieldsV (sj ls ++ 35 :: c) = ls := by
  have := fw_sj (35 :: c) (fun cur => by unfold fw; rw [if_pos (by decide)]) ls [] h
  rw [fields_fw, this]; rfl
theorem bef_short (c : List UInt8) : ∀ p, (bef 35 (p ++ 35 :: c)).length ≤ p.length
  | [] => by rw [List.nil_append, bef_cons, if_pos rfl]; simp
  | x :: p => by
    rw [List.cons_append, bef_cons]
    split
    · simp
    · have := bef_short c p; simp only [List.length_cons]; omega
theorem sj_len : ∀ (ls : List (List UInt8)), ls.all okF = true → (sj ls).length ≤ 101 * ls.length
  | [], _ => by simp [sj]
  | x :: xs, h => by
    simp only [List.all_cons, Bool.and_eq_true] at h
    obtain ⟨h1, h2⟩ := h
    simp only [okF, Bool.and_eq_true, decide_eq_true_iff] at h1
    have := sj_len xs h2
    show (32 :: x ++ sj xs).length ≤ _
    simp only [List.length_append, List.length_cons]; omega
theorem SIn.below' {w w' : World} {a : Option Addr} {n : Nat} {ls : List (List UInt8)} (h : SIn w a n ls) (ha : 0 < n → ∀ x, a = some x → x.block < w.heap.size) (hb : Below w.heap.size w w') : SIn w' a n ls := by
  obtain ⟨h1, h2⟩ := h
  refine ⟨h1, ?_⟩
  rcases h2 with h2 | ⟨g, o, h2, h3⟩
  · exact .inl h2
  · rcases Nat.eq_zero_or_pos n with hn | hn
    · exact .inl hn
    refine .inr ⟨g, o, h2, fun i hi => ?_⟩
    have hg : g < w.heap.size := ha hn _ h2
    exact (hb.cell (p := ⟨g, o + i, none⟩) hg).trans (h3 i hi)
theorem oks_take {ls : List (List UInt8)} {k : Nat} (hk : k < ls.length) : (ls.take (k + 1)).all okF = ((ls.take k).all okF && okF (sAt ls k)) := by
  rw [List.take_succ_eq_append_getElem hk, List.all_append]
  simp [sAt, List.getD, List.getElem?_eq_getElem hk]
theorem sj_take {ls : List (List UInt8)} {k : Nat} (hk : k < ls.length) : sj (ls.take (k + 1)) = sj (ls.take k) ++ 32 :: sAt ls k := by
  rw [List.take_succ_eq_append_getElem hk, sj_snoc]
  simp [sAt, List.getD, List.getElem?_eq_getElem hk]

set_option maxHeartbeats 8000000 in
set_option maxRecDepth 100000 in
theorem textFieldsBack_any (a : Option Addr) (n c : Nat) (ls : List (List UInt8)) (w : World) (hS : SIn w a n ls) (hc : n ≤ c) (hc2 : c ≤ 9223372036854775807) (ha : 0 < n → ∀ x, a = some x → x.block < w.heap.size) (hlen : ∀ i, (sAt ls i).length ≤ 9223372036854775807) (cm : List UInt8) (hcm : cm.length ≤ 140737488355328) :
    Calls Tryd.prog 7 #[.slice a n c, .string ⟨cm.toArray⟩] w (RetB1 w true) := by
  by_cases h50 : 50 < n
  · have q1 : (50 : Int) < (n : Int) := by omega
    clear hS ha hlen hcm
    go_enter Tryd.func7, Tryd.ntmps7
    go_wp2_with (go_at_call 10; (with_reducible refine (awake_any _).mono ?_); rintro e w1 ⟨rfl, g1⟩)
    go_ret
    exact ⟨rfl, g1⟩
  have q1 : decide ((50 : Int) < (n : Int)) = false := by simp; omega
  have HS := Lib.hid hS
  have HA := Lib.hid ha
  have HLEN := Lib.hid hlen
  have csz := bsize cm
  obtain ⟨hn, hcell⟩ := hS
  have HN := Lib.hid hn
  have HC := Lib.hid hcell
  have H50 := Lib.hid h50
  obtain ⟨CL, HCL⟩ : ∃ v, Hid (cm.length = v) := ⟨_, rfl⟩
  rw [HCL.out] at csz hcm
  clear hn hcell ha hlen h50
  go_enter Tryd.func7, Tryd.ntmps7
  go_wp2_with fail
  go_loop [5, 6] (fun s i => ∃ k : Nat, k ≤ n ∧ i = .int .i64 k ∧ s = .string ⟨(sj (ls.take k)).toArray⟩ ∧ Hid ((ls.take k).all okF = true)) (fun _ i => n - (intOf i).toNat)
  case atStart => exact ⟨0, by omega, rfl, rfl, by unfold Hid; simp⟩
  case round =>
    obtain ⟨k, hk, rfl, rfl, hall⟩ := hrel
    by_cases hlt : k < n
    · obtain ⟨g, o, ha, hx⟩ : ∃ g o, a = some ⟨g, o, none⟩ ∧ w.cell? ⟨g, o + k, none⟩ = some (.string ⟨(sAt ls k).toArray⟩) := by
        rcases HC.out with h | ⟨g, o, h1, h2⟩
        · omega
        · exact ⟨g, o, h1, h2 k hlt⟩
      subst ha
      have hok := oks_take (ls := ls) (k := k) (by rw [HN.out]; exact hlt)
      have hsj := sj_take (ls := ls) (k := k) (by rw [HN.out]; exact hlt)
      have hsl := sj_len _ hall.out
      have htk : (ls.take k).length = k := by rw [List.length_take, HN.out]; omega
      rw [htk] at hsl
      have hxl := HLEN.out k
      obtain ⟨X, HX⟩ : ∃ X, Hid (sAt ls k = X) := ⟨_, rfl⟩
      rw [HX.out] at hx hok hsj hxl
      obtain ⟨Sx, HSX⟩ : ∃ Y, Hid (sj (ls.take k) = Y) := ⟨_, rfl⟩
      rw [HSX.out] at hsj hsl ⊢
      have xsz := bsize X
      obtain ⟨XL, HXL⟩ : ∃ v, Hid (X.length = v) := ⟨_, rfl⟩
      rw [HXL.out] at xsz hxl
      have HOK := Lib.hid hok
      have HSJ := Lib.hid hsj
      clear hok hsj htk
      have j0 : (0 : Int) ≤ (k : Int) := by omega
      have j1 : (k : Int) < (n : Int) := by omega
      by_cases hX0 : X = []
      · obtain rfl : XL = 0 := by rw [← HXL.out, hX0]; rfl
        clear HXL xsz HX HOK HSJ
        subst hX0
        go_wp2_with (go_at_call 10; (with_reducible refine (awake_any _).mono ?_); rintro e w1 ⟨rfl, g1⟩)
        go_ret
        exact ⟨rfl, g1⟩
      have e1 : (X == ([] : List UInt8)) = false := by rw [beq_eq_false_iff_ne]; exact hX0
      have hpos : 0 < XL := by
        rw [← HXL.out]
        rcases Nat.eq_zero_or_pos X.length with h | h
        · exact absurd (List.eq_nil_of_length_eq_zero h) hX0
        · exact h
      by_cases h100 : 100 < XL
      · have q2 : (100 : Int) < (XL : Int) := by omega
        go_wp2_with (go_at_call 10; (with_reducible refine (awake_any _).mono ?_); rintro e w1 ⟨rfl, g1⟩)
        go_ret
        exact ⟨rfl, g1⟩
      have q2 : decide ((100 : Int) < (XL : Int)) = false := by simp; omega
      have HX0 := Lib.hid hX0
      clear hX0
      go_wp2_with fail
      go_loop [7] (fun i => ∃ j : Nat, j ≤ XL ∧ i = .int .i64 j ∧ Hid ((X.take j).all clB = true)) (fun i => XL - (intOf i).toNat)
      case atStart => exact ⟨0, by omega, rfl, by unfold Hid; simp⟩
      case round =>
        obtain ⟨j, hj, rfl, hcl⟩ := hrel
        by_cases hjl : j < XL
        · have hta := all_take clB (l := X) (k := j) (by rw [HXL.out]; exact hjl)
          have hg := bget (l := X) (k := j) (by rw [HXL.out]; exact hjl)
          obtain ⟨b, Hb⟩ : ∃ v, Hid (bAt X j = v) := ⟨_, rfl⟩
          rw [Hb.out] at hta hg
          rw [show clB b = (!(decide (b.toNat = 32)) && !(decide (b.toNat = 35))) from rfl] at hta
          obtain ⟨m, Hm⟩ : ∃ v, Hid (b.toNat = v) := ⟨_, rfl⟩
          rw [Hm.out] at hta
          have hg2 : ∀ h, ((⟨X.toArray⟩ : ByteArray)[j]'h).toNat = m := fun h => by rw [hg h]; exact Hm.out
          have HTA := Lib.hid hta
          clear hta hg
          have i0 : (0 : Int) ≤ (j : Int) := by omega
          have i1 : (j : Int) < (XL : Int) := by omega
          by_cases h32 : m = 32
          · have u1 : ((m : Int) == 32) = true := by simp; omega
            clear h32
            go_wp2_with (go_at_call 10; (with_reducible refine (awake_any _).mono ?_); rintro e w1 ⟨rfl, g1⟩)
            go_ret
            exact ⟨rfl, g1⟩
          have u1 : ((m : Int) == 32) = false := by simp; omega
          by_cases h35 : m = 35
          · have u2 : ((m : Int) == 35) = true := by simp; omega
            clear h35
            go_wp2_with (go_at_call 10; (with_reducible refine (awake_any _).mono ?_); rintro e w1 ⟨rfl, g1⟩)
            go_ret
            exact ⟨rfl, g1⟩
          have u2 : ((m : Int) == 35) = false := by simp; omega
          have HCL2 : Hid ((X.take (j + 1)).all clB = true) := by unfold Hid; rw [HTA.out, hcl.out]; simp [h32, h35]
          clear h32 h35
          go_wp2_with fail
          go_round
          case rel => exact ⟨j + 1, by omega, by go_num, HCL2⟩
          case measure => simp [intOf]; omega
        · obtain rfl : j = XL := by omega
          have hXok : X.all clB = true := by rw [← hcl.out, List.take_of_length_le (by rw [HXL.out]; exact Nat.le_refl _)]
          have HOK2 : Hid ((ls.take (k + 1)).all okF = true) := by
            unfold Hid; rw [HOK.out, hall.out]
            simp only [okF, HXL.out, hXok]; simp; omega
          have i1 : ¬ (j : Int) < (j : Int) := by omega
          have h5 := H50.out
          have b1 : ¬ 9223372036854775807 < Sx.length + 1 := by omega
          have b2 : ¬ 9223372036854775807 < Sx.length + 1 + X.length := by rw [HXL.out]; omega
          have b3 : ¬ 9223372036854775807 < Sx.length + 1 + j := by omega
          clear hXok h5
          go_wp2_with fail
          go_round
          case rel => exact ⟨k + 1, by omega, by go_num, by rw [HSJ.out, show ({ data := #[32] } : ByteArray) = ⟨([32] : List UInt8).toArray⟩ from rfl, str_app, str_app, List.append_assoc]; rfl, HOK2⟩
          case measure => simp [intOf]; omega
    · obtain rfl : k = n := by omega
      have j1 : ¬ (k : Int) < (k : Int) := by omega
      have ht : ls.take k = ls := List.take_of_length_le (by rw [HN.out]; exact Nat.le_refl _)
      have hok := hall.out
      rw [ht] at hok ⊢
      have hsl := sj_len ls hok
      rw [HN.out] at hsl
      have h5 := H50.out
      have hf1 := fields_sj ls hok
      have hf2 := fields_sj_comment ls cm hok
      have hp1 := pfieldsS (sj ls) (by omega) (Nat.le_trans (bef_len 35 _) (by omega))
      have hp2 := pfieldsS (sj ls ++ 35 :: cm) (by simp only [List.length_append, List.length_cons, HCL.out]; omega) (Nat.le_trans (bef_short cm _) (by omega))
      rw [hf1] at hp1
      rw [hf2] at hp2
      obtain ⟨Sx, HSX⟩ : ∃ Y, Hid (sj ls = Y) := ⟨_, rfl⟩
      rw [HSX.out] at hp1 hp2 hsl ⊢
      have HP1 := Lib.hid hp1
      have HP2 := Lib.hid hp2
      have b1 : ¬ 9223372036854775807 < Sx.length + 1 := by omega
      have b2 : ¬ 9223372036854775807 < Sx.length + 1 + CL := by omega
      have b3 : ¬ 9223372036854775807 < Sx.length + 1 + cm.length := by rw [HCL.out]; omega
      have hk50 : k ≤ 1000000 := by omega
      clear hp1 hp2 hf1 hf2 hok ht h5
      go_wp2_with fail
      refine (HP1.out _).mono ?_
      rintro e w1 ⟨a1, n1, c1, rfl, s1, x1, x2, y1, g1⟩
      go_wp2_with fail
      have s2 := HS.out.below' HA.out g1
      have hs1 := same_any a1 a n1 k c1 c ls ls w1 s1 s2 (by rw [← s1.1, HN.out]; exact hk50) x1 hc x2 hc2
      rw [show decide (ls = ls) = true by simp] at hs1
      refine hs1.mono ?_
      rintro e w2 ⟨rfl, q, rfl⟩
      have g2 := below_drewN g1 q
      go_wp2_with fail
      rw [show ({ data := #[35] } : ByteArray) = ⟨([35] : List UInt8).toArray⟩ from rfl, str_app, str_app, List.append_assoc]
      refine (HP2.out _).mono ?_
      rintro e w3 ⟨a3, n3, c3, rfl, s3, x3, x4, y3, g3⟩
      go_wp2_with fail
      have g4 := g2.trans (g3.mono g2.size)
      have s4 := HS.out.below' HA.out g4
      have hs2 := same_any a3 a n3 k c3 c ls ls w3 s3 s4 (by rw [← s3.1, HN.out]; exact hk50) x3 hc x4 hc2
      rw [show decide (ls = ls) = true by simp] at hs2
      refine hs2.mono ?_
      rintro e w4 ⟨rfl, q2, rfl⟩
      have g5 := below_drewN g4 q2
      go_wp2_with (go_at_call 10; (with_reducible refine (awake_any _).mono ?_); rintro e w5 ⟨rfl, g6⟩)
      go_ret
      exact ⟨rfl, g5.trans (g6.mono g5.size)⟩
end Go.Proofs.YtdacigihhbcppaaDoor

