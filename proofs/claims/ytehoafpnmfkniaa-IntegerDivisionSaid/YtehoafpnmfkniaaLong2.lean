/-
  Long division.
-/
import Derived.Test.YtehoafpnmfkniaaLong
import Derived.Test.YtehoafpnmfkniaaBits
set_option linter.unusedVariables false
set_option linter.unusedSimpArgs false
namespace Go.Proofs.Ytehoafpnmfkniaa
open Go.RowKit

theorem shr_arith (S K B d dn V : Nat) (hB : B = S * K) (hS : 0 < S) (hd : d < B) (hn : V % B = dn) : (d + B * V) / S = (dn * B + d) / S % B + B * (V / S) := by
  have hB0 : 0 < B := by omega
  have hr : V % S = dn % S := by
    rw [← hn, hB, Nat.mod_mul_right_mod]
  obtain ⟨r, hr'⟩ : ∃ r, r = V % S := ⟨_, rfl⟩
  have h1 := Nat.div_add_mod V S
  have h2 := Nat.div_add_mod dn S
  rw [← hr] at h2
  rw [← hr'] at h1 h2
  have hrS : r < S := by rw [hr']; exact Nat.mod_lt _ hS
  have e1 : d + B * V = (B * r + d) + S * (B * (V / S)) := by
    have : B * V = B * (S * (V / S)) + B * r := by rw [← Nat.mul_add, h1]
    have e : B * (S * (V / S)) = S * (B * (V / S)) := Nat.mul_left_comm _ _ _
    omega
  have e2 : dn * B + d = (B * r + d) + S * (B * (dn / S)) := by
    have : dn * B = B * (S * (dn / S)) + B * r := by rw [← Nat.mul_add, h2, Nat.mul_comm]
    have e : B * (S * (dn / S)) = S * (B * (dn / S)) := Nat.mul_left_comm _ _ _
    omega
  have h3 : (B * r + d) / S < B := by
    rw [Nat.div_lt_iff_lt_mul hS]
    have : B * (r + 1) ≤ B * S := Nat.mul_le_mul_left _ hrS
    rw [Nat.mul_add, Nat.mul_one] at this
    omega
  rw [e1, e2, Nat.add_mul_div_left _ _ hS, Nat.add_mul_div_left _ _ hS, Nat.add_mul_mod_self_left, Nat.mod_eq_of_lt h3]

/-- Digits from above, k of them still to be shifted; av holds the last digit that was read. -/
def ShrI (w wr : World) (n k av S : Nat) (ds xs : List Nat) : Prop :=
  Row wr w.heap.size (List.replicate k 0 ++ xs) ∧ xs.length + k = n ∧ Dig xs ∧ val xs = val (ds.drop k) / S ∧ av % BB = ds.getD k 0 ∧ Below w.heap.size w wr

theorem val_drop (ds : List Nat) (k : Nat) : val (ds.drop k) = ds.getD k 0 + BB * val (ds.drop (k + 1)) := by
  by_cases h : k < ds.length
  · rw [List.drop_eq_getElem_cons h, val]; simp [List.getD, h]
  · rw [List.drop_of_length_le (by omega), List.drop_of_length_le (by omega), getD_beyond (by omega)]; simp [val]

theorem shr_step {w wr : World} {n k av S K x : Nat} {ds xs : List Nat} (h : ShrI w wr n (k + 1) av S ds xs) (hB : BB = S * K) (hS : 0 < S) (hd : Dig ds) (hx : x = ds.getD k 0) {v : Int} (hv : v = ((av % BB * BB + x) / S % BB : Nat)) :
    ShrI w (wr.setCell ⟨w.heap.size, k, none⟩ (.int .u32 v)) n k (av % BB * BB + x) S ds ((av % BB * BB + x) / S % BB :: xs) := by
  obtain ⟨h1, h2, h3, h4, h5, h6⟩ := h
  subst hv hx
  have hxl := hd.getD k
  refine ⟨?_, by simp only [List.length_cons]; omega, Dig.cons (Nat.mod_lt _ BB_pos) h3, ?_, ?_, h6.setCell (Nat.le_refl _) _⟩
  · have := h1.set k ((av % BB * BB + ds.getD k 0) / S % BB)
    have e : (List.replicate (k + 1) 0 ++ xs).set k ((av % BB * BB + ds.getD k 0) / S % BB) = List.replicate k 0 ++ ((av % BB * BB + ds.getD k 0) / S % BB :: xs) := by
      rw [List.replicate_succ', List.append_assoc, List.set_append_right _ _ (by simp), List.length_replicate, Nat.sub_self]
      rfl
    rwa [e] at this
  · rw [val_drop ds k, val, h4, h5]
    refine (shr_arith S K BB _ _ _ hB hS hxl ?_).symm
    rw [val_drop ds (k + 1), Nat.add_mul_mod_self_left, Nat.mod_eq_of_lt (hd.getD _)]
  · rw [Nat.mul_comm, Nat.mul_add_mod, Nat.mod_eq_of_lt hxl]

set_option maxHeartbeats 1000000 in
set_option maxRecDepth 100000 in
theorem shiftRight_any (A : Option Addr) (n c s : Nat) (ds : List Nat) (w : World) (h : Dgs w w.heap.size A n ds) (hs : n ≤ 1000000) (hs31 : s ≤ 31) :
    Calls Try.prog 103 #[.slice A n c, .int .i64 s] w (RetD w (val ds / 2 ^ s)) := by
  have hmk := run_make_row' (P := Try.prog) 22 74 (.int .u32 0) 4 Try.underlying22 u32_info rfl .i64 .i64 n (by omega) (by omega)
  obtain ⟨S, HS⟩ : ∃ S : Nat, Hid (S = 2 ^ s) := ⟨2 ^ s, rfl⟩
  rw [← HS.out]
  have HSK : Hid (BB = S * 2 ^ (32 - s)) := by unfold Hid; rw [HS.out, ← Nat.pow_add, show s + (32 - s) = 32 by omega]; rfl
  have HS0 : Hid (0 < S) := by unfold Hid; rw [HS.out]; exact Nat.pow_pos (by omega)
  have HL := Lib.hid h.len
  have H0 : ShrI w (w.alloc (.cells (madeCells #[.int .u32 0] n) 74)) n n 0 S ds [] := ⟨by simpa using Row.made w n, by simp, Dig.nil, by rw [List.drop_of_length_le (by rw [HL.out]; exact Nat.le_refl _)]; simp [val], by rw [getD_beyond (by rw [HL.out]; exact Nat.le_refl _)]; simp, bnew _ _⟩
  go_enter Try.func103, Try.ntmps103
  go_wp2
  clear hmk
  go_loopw [6, 7] (fun av i wr => ∃ (k a : Nat) (xs : List Nat), k ≤ n ∧ i = .int .i64 ((k : Int) - 1) ∧ av = .int .u64 a ∧ a < 18446744073709551616 ∧ ShrI w wr n k a S ds xs) (fun _ i _ => (intOf i + 1).toNat)
  case atStart => exact ⟨n, 0, [], Nat.le_refl _, rfl, rfl, by omega, H0⟩
  case round =>
    clear H0
    obtain ⟨k, a, xs, hk, rfl, rfl, hal, HI⟩ := hrel
    by_cases hk0 : k = 0
    · subst hk0
      obtain ⟨r1, r2, r3, r4, r5, r6⟩ := HI
      rw [List.replicate_zero, List.nil_append] at r1
      rw [List.drop_zero] at r4
      have hd := r1.dgs r3
      rw [show xs.length = n by omega] at hd
      have HV := Lib.hid r4
      clear r4
      go_wp2_with (go_at_call 99; (with_reducible refine (trim_ret _ _ _ _ _ _ hd (Nat.le_refl _) (by unfold maxLen; omega)).mono ?_); rintro e w2 ⟨t, rfl, hd2, ht2, rfl⟩)
      go_ret
      rw [HV.out] at hd2
      exact RetD.mk_ hd2 (Nat.le_refl _) (by unfold maxLen; omega) r6
    · obtain ⟨j, rfl⟩ : ∃ j, k = j + 1 := ⟨k - 1, by omega⟩
      have ej : (((j + 1 : Nat) : Int) - 1) = (j : Int) := by omega
      rw [ej]
      clear ej
      have hda := h.below HI.2.2.2.2.2
      obtain ⟨b, off, hA, _, hcell⟩ := hda.at_ (by omega)
      subst hA
      have hx := hcell j (by omega)
      have hxl := h.dig.getD j
      rw [BB_eq] at hxl
      obtain ⟨x, HX⟩ : ∃ x, Hid (x = ds.getD j 0) := ⟨_, rfl⟩
      rw [← HX.out] at hx hxl
      have hstore := HI.1.cell (j := j) (by simp; omega)
      have hfr := HI.1.frozen j
      have i0 : (0 : Int) ≤ (j : Int) := by omega
      have i1 : (j : Int) < (n : Int) := by omega
      obtain ⟨t, HT⟩ : ∃ t : Nat, Hid (t = a % BB * BB + x) := ⟨_, rfl⟩
      have htl : t < 18446744073709551616 := by rw [HT.out, BB_eq]; omega
      have hor : bits .or .u64 (IntKind.u64.wrap ((a : Int) * 4294967296)) (x : Int) = (t : Int) := by
        have e : IntKind.u64.wrap ((a : Int) * 4294967296) = ((a % BB * 4294967296 : Nat) : Int) := by rw [IntKind.wrap_u64, BB_eq]; omega
        rw [e, HT.out, or_halves _ _ (by rw [BB_eq]; omega) hxl]
        rfl
      have HV : Hid ((t : Int) / 2 ^ s % 4294967296 = ((t / S % BB : Nat) : Int)) := by
        unfold Hid
        rw [HS.out, Int.natCast_emod, Int.natCast_ediv, Int.natCast_pow]
        rfl
      clear hcell hda
      go_wp2
      rw [HV.out]
      go_roundw
      case rel =>
        refine ⟨j, t, (a % BB * BB + x) / S % BB :: xs, by omega, rfl, rfl, htl, ?_⟩
        rw [HT.out]
        exact shr_step HI HSK.out HS0.out h.dig HX.out rfl
      case measure => simp [intOf]

end Go.Proofs.Ytehoafpnmfkniaa
