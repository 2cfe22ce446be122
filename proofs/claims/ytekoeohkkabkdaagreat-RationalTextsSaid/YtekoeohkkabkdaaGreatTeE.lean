/-
  Texts of fractions: decimals, mathematics.
-/
import Derived.Test.YtekoeohkkabkdaaGreatTeA
import Derived.Test.YtekoeohkkabkdaaGreatTeB
import Derived.Test.YtekoeohkkabkdaaGreatTeD
set_option linter.unusedVariables false
set_option linter.unusedSimpArgs false
set_option warningAsError false
namespace Go.Proofs.YtekoeohkkabkdaaGreat
open Go.RowKit

theorem repeat48 : ∀ c, Lib.repeatL [48] c = List.replicate c 48
  | 0 => rfl
  | c + 1 => by
    show [48] ++ Lib.repeatL [48] c = _
    rw [repeat48 c, List.replicate_succ]; rfl
theorem repeat0_any (c : Nat) (hc : c ≤ 1000000) (w : World) : Calls Tryz.prog 53 #[.string ⟨#[48]⟩, .int .i64 (c : Int)] w (RetS w (List.replicate c 48)) := by
  have h := Any.strings_Repeat Tryz.lays105 Tryz.builder105 ⟨#[48]⟩ c w (by omega) (by show 1 * c ≤ _; omega)
  refine Calls.mono (show Calls Tryz.prog 53 #[.string ⟨#[48]⟩, .int .i64 (c : Int)] w _ from h) ?_
  rintro e w' ⟨he, hb⟩
  refine ⟨?_, hb⟩
  rw [he, ← repeat48]
set_option maxHeartbeats 2000000 in
set_option maxRecDepth 100000 in
theorem rzeros_any (n : Nat) (hn : n ≤ 1000000) (w : World) : Calls Tryz.prog 29 #[.int .i64 (n : Int)] w (RetS w (List.replicate n 48)) := by
  have hmk := run_make_row' (P := Tryz.prog) 76 5 (.int .u8 0) 1 Tryz.underlying76 u8_info rfl .i64 .i64 n (by omega) (by omega)
  have HR : Hid (BRow (w.alloc (.cells (madeCells #[.int .u8 0] n) 5)) w.heap.size (List.replicate n 0)) := BRow.made w n
  go_enter Tryz.func29, Tryz.ntmps29
  go_upto_region 3 with fail
  go_loopw [4] (fun i wr => ∃ k : Nat, k ≤ n ∧ i = .int .i64 k ∧ BRow wr w.heap.size (List.replicate k 48 ++ List.replicate (n - k) 0) ∧ Below w.heap.size w wr) (fun i _ => n - (intOf i).toNat)
  case atStart => exact ⟨0, by omega, rfl, by simpa using HR.out, bnew _ _⟩
  case round =>
    obtain ⟨k, hk, rfl, hB, hb⟩ := hrel
    by_cases hlt : k < n
    · have hx := hB.cell (j := k) (by simp; omega)
      have hfr := hB.frozen k
      have i0 : (0 : Int) ≤ (k : Int) := by omega
      have i1 : (k : Int) < (n : Int) := by omega
      have hset := Lib.hid (hB.set k 48 (z := 48) rfl)
      have HB := Lib.hid hb
      clear hb hB
      go_wp2_with fail
      go_roundw
      case rel =>
        refine ⟨k + 1, by omega, by go_num, ?_, HB.out.setCell (Nat.le_refl _) _⟩
        have h1 := hset.out
        rw [List.set_append_right _ _ (by simp), List.length_replicate, Nat.sub_self, show n - k = (n - (k + 1)) + 1 by omega, List.replicate_succ, List.set_cons_zero] at h1
        rw [List.replicate_succ', List.append_assoc]
        exact h1
      case measure => simp [intOf]; omega
    · obtain rfl : k = n := by omega
      have hcv := run_convert_bytes_back (P := Tryz.prog) wr 76 9 5 ⟨w.heap.size, 0, none⟩ k (List.replicate k 48) Tryz.underlying76 Tryz.underlying5 Tryz.underlying9 (fun j hj => by
        rw [Addr.add_lit, Nat.zero_add]
        rw [hB.cell (j := j) (by simp at hj ⊢; omega)]
        simp at hj
        rw [List.getElem_append_left (by simpa using hj)])
      rw [List.length_replicate] at hcv
      have j1 : ¬ (k : Int) < (k : Int) := by omega
      have HB := Lib.hid hb
      clear hb hB
      go_wp2_with fail
      go_ret
      exact ⟨rfl, HB.out⟩

def pdOk (W D : List UInt8) : Prop := decB (cutV W).1 = true ∧ allD D = true ∧ 0 < D.length
instance pdDec (W D : List UInt8) : Decidable (pdOk W D) := by unfold pdOk; infer_instance
def pdV (W D : List UInt8) : Int := zOf (cutV W).2 (decV ((cutV W).1 ++ D))
def pdU (D : List UInt8) : Int := ((10 ^ D.length : Nat) : Int)
def pdE (W D : List UInt8) : Int := if pdOk W D then 0 else 1
def pdN (W D : List UInt8) : Int := if pdOk W D then rn (pdV W D) (pdU D) else 0
def pdD (W D : List UInt8) : Int := if pdOk W D then rd (pdV W D) (pdU D) else 0
theorem pd_bad {n d : List UInt8} (h : ¬ pdOk n d) : pdN n d = 0 ∧ pdD n d = 0 ∧ pdE n d = 1 := by unfold pdN pdD pdE; rw [if_neg h, if_neg h, if_neg h]; exact ⟨rfl, rfl, rfl⟩
theorem pd_good {n d : List UInt8} (h : pdOk n d) : pdN n d = rn (pdV n d) (pdU d) ∧ pdD n d = rd (pdV n d) (pdU d) ∧ pdE n d = 0 := by unfold pdN pdD pdE; rw [if_pos h, if_pos h, if_pos h]; exact ⟨rfl, rfl, rfl⟩
theorem pdU_pos (D : List UInt8) : 0 < pdU D := by
  unfold pdU
  have : 0 < 10 ^ D.length := Nat.pow_pos (by decide)
  omega
theorem one_cut (D : List UInt8) : cutV (49 :: D) = (49 :: D, false) := by
  unfold cutV
  rw [if_neg]
  rintro ⟨_, h⟩
  have : (byteAt (49 :: D) 0).toNat = 49 := rfl
  omega
theorem one_dec (D : List UInt8) : decB (49 :: D) = allD D := by
  unfold decB allD
  have : (byteAt (49 :: D) 0).toNat = 49 := rfl
  rw [this, List.all_cons, show isD 49 = true from by decide]
  simp
theorem one_parE (D : List UInt8) (h : D.length ≤ 399) : parE (49 :: D) = if allD D = true then 0 else 1 := by
  unfold parE
  rw [if_neg (by rw [List.length_cons]; omega), one_cut, one_dec]
  by_cases hd : allD D = true
  · rw [if_pos hd, if_pos ⟨hd, fun h => Bool.noConfusion h.1⟩]
  · rw [if_neg hd, if_neg (fun h => hd h.1)]
theorem one_parZ (D : List UInt8) (h : D.length ≤ 399) (hd : allD D = true) : parZ (49 :: D) = pdU D + decV D := by
  unfold parZ
  rw [one_parE D h, if_pos hd, if_pos rfl, one_cut]
  show zOf false (decV ([49] ++ D)) = _
  rw [decV_append, show decV [49] = 1 from rfl, Nat.one_mul]
  unfold zOf pdU
  exact Int.natCast_add _ _
theorem zer_ok (k : Nat) : allD (List.replicate k (48 : UInt8)) = true ∧ decV (List.replicate k (48 : UInt8)) = 0 := by
  refine ⟨?_, ?_⟩
  · unfold allD
    rw [List.all_eq_true]
    intro x hx
    rw [List.eq_of_mem_replicate hx]
    decide
  · induction k with
    | zero => rfl
    | succ k ih => rw [List.replicate_succ', decV_snoc, ih]; rfl
theorem zer_parZ (D : List UInt8) (h : D.length ≤ 399) : parZ (49 :: List.replicate D.length 48) = pdU D ∧ parE (49 :: List.replicate D.length 48) = 0 := by
  refine ⟨?_, ?_⟩
  · rw [one_parZ _ (by rw [List.length_replicate]; exact h) (zer_ok _).1, (zer_ok _).2]
    unfold pdU
    rw [List.length_replicate]
    simp
  · rw [one_parE _ (by rw [List.length_replicate]; exact h), if_pos (zer_ok _).1]
theorem minus_zero {W : List UInt8} (h1 : (cutV W).2 = true) (h2 : (cutV W).1 = [48]) : W = [45, 48] := by
  unfold cutV at h1 h2
  split at h1
  · rename_i h
    rw [if_pos h] at h2
    cases W with
    | nil => exact absurd h.1 (by simp)
    | cons a t =>
      have e1 : t = [48] := by simpa using h2
      have e2 : a.toNat = 45 := h.2
      have e3 : a = 45 := u8_ext (by rw [e2]; rfl)
      rw [e1, e3]
  · exact absurd h1 (by simp)
def wOf (W : List UInt8) : List UInt8 := if W = [45, 48] then [48] else W
theorem w_parE (W : List UInt8) (h : W.length ≤ 400) : parE (wOf W) = if decB (cutV W).1 = true then 0 else 1 := by
  by_cases hw : W = [45, 48]
  · subst hw; decide
  · unfold wOf
    rw [if_neg hw]
    unfold parE
    rw [if_neg (by omega)]
    by_cases hd : decB (cutV W).1 = true
    · rw [if_pos hd, if_pos ⟨hd, fun h => hw (minus_zero h.1 h.2)⟩]
    · rw [if_neg hd, if_neg (fun h => hd h.1)]
theorem w_abs (W : List UInt8) (h : W.length ≤ 400) (hd : decB (cutV W).1 = true) : (parZ (wOf W)).natAbs = decV (cutV W).1 := by
  unfold parZ
  rw [w_parE W h, if_pos hd, if_pos rfl, zOf_natAbs]
  by_cases hw : W = [45, 48]
  · subst hw; decide
  · unfold wOf; rw [if_neg hw]
theorem pd_size (W D : List UInt8) (h : W.length ≤ 400) (hD : D.length ≤ 399) (hd : decB (cutV W).1 = true) (ha : allD D = true) :
    (((parZ (wOf W)).natAbs : Nat) : Int) * pdU D + (parZ (49 :: D) - pdU D) = ((decV ((cutV W).1 ++ D) : Nat) : Int) := by
  rw [one_parZ D hD ha, w_abs W h hd, decV_append]
  unfold pdU
  rw [Int.natCast_add, Int.natCast_mul]
  omega
theorem CanAt.sg {w : World} {s : Bool} {A : Option Addr} {n c : Nat} {z : Int} (h : CanAt w s A n c z) (hz : (digs z.natAbs).length ≤ 1000000) (b : Bool) : IntAt w b A n c (zOf b z.natAbs) := by
  obtain ⟨_, h1, h2, h3⟩ := h
  exact ⟨_, h1, h2, h3, by rw [val_digs], by rw [← h1.len]; exact hz⟩
set_option maxHeartbeats 2000000 in
set_option maxRecDepth 100000 in
theorem hasPrefixS_any (l : List UInt8) (hl : l.length ≤ 100000) (w : World) : Calls Tryz.prog 52 #[.string ⟨l.toArray⟩, .string ⟨#[45]⟩] w (RetB1 w (cutV l).2) := by
  have h := fun w' => hasPrefix_any l hl w'
  obtain ⟨b, hb⟩ : ∃ v, Hid ((cutV l).2 = v) := ⟨_, rfl⟩
  rw [hb.out] at h ⊢
  go_enter Tryz.func52, Tryz.ntmps52
  go_wp2_with (first
    | (go_at_call 78; (with_reducible refine (h _).mono ?_); rintro e w1 ⟨rfl, g1⟩)
    | fail)
  go_ret
  exact ⟨rfl, g1⟩
end Go.Proofs.YtekoeohkkabkdaaGreat

