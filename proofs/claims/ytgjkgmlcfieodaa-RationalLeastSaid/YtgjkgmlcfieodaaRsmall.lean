/-
  The reference's number of bits, shifts by bits to the left and by one bit to the right.
  The reference's shift by one bit to the right.
  The reference's difference of digits, in a row of its own.
-/
import Derived.Test.YtgjkgmlcfieodaaIops
import Derived.Test.YtgjkgmlcfieodaaLongB
import Derived.Test.YtgjkgmlcfieodaaRdig
import Derived.Deep.RegionHeld3
import Derived.StillTailTactics
set_option linter.unusedVariables false
set_option linter.unusedSimpArgs false
namespace Go.Proofs.Ytgjkgmlcfieodaa
open Go.RowKit

/-- Digits in a row that the call made first are handed back. -/
def RetF (w : World) (v : Nat) (e : Ending) (w' : World) : Prop :=
  ∃ n c, e = .returned (.slice (some ⟨w.heap.size, 0, none⟩) n c) ∧ Dgs w' w'.heap.size (some ⟨w.heap.size, 0, none⟩) n (digs v) ∧ n ≤ c ∧ c ≤ maxLen ∧ Below w.heap.size w w'
theorem RetF.mk_ {w w' : World} {v n c : Nat} (hd : Dgs w' w'.heap.size (some ⟨w.heap.size, 0, none⟩) n (digs v)) (hc : n ≤ c) (hm : c ≤ maxLen) (hb : Below w.heap.size w w') :
    RetF w v (.returned (.slice (some ⟨w.heap.size, 0, none⟩) n c)) w' := ⟨n, c, rfl, hd, hc, hm, hb⟩
/-- The number of bits. -/
def bl (n : Nat) : Nat := if n = 0 then 0 else Nat.log2 n + 1
theorem bl_zero : bl 0 = 0 := rfl
theorem lt_bl (n : Nat) : n < 2 ^ bl n := by
  unfold bl; split
  · simp_all
  · exact Nat.lt_log2_self
theorem bl_le {n : Nat} (h : n ≠ 0) : 2 ^ (bl n - 1) ≤ n := by
  unfold bl; rw [if_neg h]; exact Nat.log2_self_le h
theorem bl_pos {n : Nat} (h : n ≠ 0) : 0 < bl n := by unfold bl; rw [if_neg h]; omega
theorem bl_unique {n m : Nat} (hm : 0 < m) (h1 : 2 ^ (m - 1) ≤ n) (h2 : n < 2 ^ m) : bl n = m := by
  have h0 : n ≠ 0 := by have := Nat.pow_pos (n := m - 1) (show 0 < 2 by omega); omega
  have a1 := lt_bl n
  have a2 := bl_le h0
  have a3 := bl_pos h0
  have b1 : m - 1 < bl n := (Nat.pow_lt_pow_iff_right (by omega : 1 < 2)).1 (Nat.lt_of_le_of_lt h1 a1)
  have b2 : bl n - 1 < m := (Nat.pow_lt_pow_iff_right (by omega : 1 < 2)).1 (Nat.lt_of_le_of_lt a2 h2)
  omega
theorem bl_half {n : Nat} (h : 0 < n) : bl n = bl (n / 2) + 1 := by
  rcases Nat.lt_or_ge n 2 with h1 | h1
  · obtain rfl : n = 1 := by omega
    decide
  · have h2 : n / 2 ≠ 0 := by omega
    apply bl_unique (by omega)
    · have := bl_le h2
      have hp := bl_pos h2
      have e : 2 ^ (bl (n / 2) + 1 - 1) = 2 ^ (bl (n / 2) - 1) * 2 := by rw [← Nat.pow_succ]; congr 1; omega
      omega
    · have := lt_bl (n / 2)
      rw [Nat.pow_succ]; omega
theorem bl_le_of {n k : Nat} (h : n < 2 ^ k) : bl n ≤ k := by
  by_cases h0 : n = 0
  · subst h0; rw [bl_zero]; omega
  · have := bl_le h0
    have := bl_pos h0
    have b2 : bl n - 1 < k := (Nat.pow_lt_pow_iff_right (by omega : 1 < 2)).1 (by omega)
    omega
theorem bl_join {v p d k : Nat} (hp : p = 2 ^ k) (hv : v < p) (hd : d ≠ 0) : bl (v + p * d) = k + bl d := by
  have h1 := lt_bl d
  have h2 := bl_le hd
  have h3 := bl_pos hd
  apply bl_unique (by omega)
  · have e : 2 ^ (k + bl d - 1) = p * 2 ^ (bl d - 1) := by rw [hp, ← Nat.pow_add]; congr 1; omega
    rw [e]
    have := Nat.mul_le_mul_left p h2
    omega
  · rw [Nat.pow_add, ← hp]
    have : p * (d + 1) ≤ p * 2 ^ bl d := Nat.mul_le_mul_left p h1
    rw [Nat.mul_add] at this
    omega

theorem ret_i1 {k : IntKind} {a b : Int} (h : a = b) : Ending.returned (.int k a) = .returned (.int k b) := by rw [h]
theorem BB_pow (k : Nat) : BB ^ k = 2 ^ (32 * k) := by rw [show BB = 2 ^ 32 from rfl, ← Nat.pow_mul]
/-- The top digit of a number is not 0, and its bits are those of the number behind the lower digits. -/
theorem digs_topbl {V L : Nat} (h : (digs V).length = L + 1) : (digs V).getD L 0 ≠ 0 ∧ bl V = 32 * L + bl ((digs V).getD L 0) := by
  have h1 := val_take_succ (ds := digs V) (k := L) (by omega)
  rw [List.take_of_length_le (by omega), val_digs] at h1
  have h2 := val_take_lt (dig_digs V) L (by omega)
  have h3 : (digs V).getD L 0 ≠ 0 := by
    intro h0
    rw [h0, Nat.mul_zero, Nat.add_zero] at h1
    rw [← h1] at h2
    have := digs_length_le h2
    omega
  refine ⟨h3, ?_⟩
  have := bl_join (BB_pow L) h2 h3
  rwa [← h1] at this

set_option maxHeartbeats 1000000 in
set_option maxRecDepth 100000 in
theorem rbitLen_any (A : Option Addr) (n c B : Nat) (ds : List Nat) (w : World) (h : Dgs w B A n ds) (hc : n ≤ c) (hm : c ≤ maxLen) (hs : n ≤ 1000000) :
    Calls Try.prog 93 #[.slice A n c] w fun e w' => e = .returned (.int .i64 (bl (val ds) : Nat)) ∧ w = w' := by
  obtain ⟨N, HN⟩ : ∃ N, Hid (N = (digs (val ds)).length) := ⟨_, rfl⟩
  have hd := h.trimmed HN
  have htr := rtrim_fix A n c B N ds w h hc hm HN
  have hNn := trim_len_le h HN
  obtain ⟨V, HV⟩ : ∃ V, Hid (V = val ds) := ⟨_, rfl⟩
  rw [← HV.out] at HN hd ⊢
  clear h
  by_cases hN : N = 0
  · have HB : Hid (bl V = 0) := by rw [digs_nil (HN.out.symm.trans hN)]; rfl
    subst hN
    go_enter Try.func93, Try.ntmps93
    go_wp2_with (go_at_call 79; (with_reducible refine htr.mono ?_); rintro e w' ⟨rfl, rfl⟩)
    go_ret
    exact ⟨by rw [HB.out]; rfl, rfl⟩
  · obtain ⟨L, rfl⟩ : ∃ L, N = L + 1 := ⟨N - 1, by omega⟩
    have HB := Lib.hid (digs_topbl HN.out.symm).2
    obtain ⟨b, off, rfl, _, hcell⟩ := hd.at_ (by omega)
    have hx := hcell L (by omega)
    have hxl := hd.dig.getD L
    rw [BB_eq] at hxl
    obtain ⟨x, HX⟩ : ∃ x, Hid (x = (digs V).getD L 0) := ⟨_, rfl⟩
    rw [← HX.out] at hx hxl HB
    have HVB : Hid (bl V ≤ 32000032) := by
      have := bl_le_of (k := 32) hxl
      have := HB.out
      unfold Hid; omega
    clear hcell hd hN
    have i0 : (0 : Int) ≤ (L : Int) := by omega
    have hL : (L : Int) ≤ 1000000 := by omega
    go_enter Try.func93, Try.ntmps93
    go_wp2_with (go_at_call 79; (with_reducible refine htr.mono ?_); rintro e w' ⟨rfl, rfl⟩)
    go_loop [3, 4] (fun m y => ∃ (j z : Nat), m = .int .i64 j ∧ y = .int .u32 z ∧ Hid (j + bl z = bl V) ∧ z < 4294967296 ∧ j ≤ 32000032) (fun _ y => (intOf y).toNat)
    case atStart => exact ⟨32 * L, x, by go_num, rfl, HB.out.symm, hxl, by omega⟩
    case round =>
      obtain ⟨j, z, rfl, rfl, HJ, hz, hj⟩ := hrel
      by_cases hz0 : z = 0
      · have hz1 : ¬ (0 : Int) < (z : Int) := by omega
        have HZ := Lib.hid hz0
        clear hz0
        go_wp2
        go_ret
        exact ⟨ret_i1 (by rw [← HJ.out, HZ.out, bl_zero, Nat.add_zero]), rfl⟩
      · have hz1 : 0 < z := by omega
        have HJ2 : Hid (j + 1 + bl (z / 2) = bl V ∧ j + 1 ≤ 32000032) := by
          have h1 := bl_half hz1
          have h2 := HJ.out
          have h3 := HVB.out
          exact ⟨by omega, by omega⟩
        clear hz0
        go_wp2
        go_round
        case rel => exact ⟨j + 1, z / 2, by go_num, by go_num, HJ2.out.1, by omega, HJ2.out.2⟩
        case measure => simp [intOf]; omega

theorem getD_zeros (n j : Nat) : (List.replicate n 0).getD j 0 = 0 := by simp [List.getD, List.getElem?_replicate]; split <;> rfl
/-- What holds of the row into which shifted digits are written. -/
def ShO (w W0 wr : World) (N m k S : Nat) (ds zs : List Nat) : Prop :=
  Row wr w.heap.size zs ∧ zs.length = N ∧ Dig zs ∧ zs.getD (k + m) 0 < S ∧ (∀ j, k + m < j → zs.getD j 0 = 0) ∧ val zs = BB ^ m * (S * val (ds.take k)) ∧ Only w.heap.size W0 wr

theorem sh_low (y S K : Nat) (hB : BB = S * K) (hS : S ∣ y) (hS0 : 0 < S) : y % BB + S ≤ BB := by
  have h1 : S ∣ y % BB := (Nat.dvd_mod_iff (by rw [hB]; exact Nat.dvd_mul_right S K)).2 hS
  have h2 := Nat.mod_lt y BB_pos
  obtain ⟨a, ha⟩ := h1
  rw [ha] at h2 ⊢
  rw [hB] at h2 ⊢
  have h3 : a < K := Nat.lt_of_mul_lt_mul_left h2
  have : S * (a + 1) ≤ S * K := Nat.mul_le_mul_left S h3
  rw [Nat.mul_add] at this
  omega

theorem sh_step {w W0 wr : World} {N m k S K x : Nat} {ds zs : List Nat} (h : ShO w W0 wr N m k S ds zs) (hB : BB = S * K) (hS0 : 0 < S) (hN : k + m + 1 < N) (hx : x = ds.getD k 0) (hxl : x < BB) {t u : Nat}
    (ht : t = zs.getD (k + m) 0 + x * S % BB) (hu : u = x * S / BB) {v v' : Int} (hv : v = (t : Nat)) (hv' : v' = (u : Nat)) :
    ShO w W0 ((wr.setCell ⟨w.heap.size, k + m, none⟩ (.int .u32 v)).setCell ⟨w.heap.size, k + m + 1, none⟩ (.int .u32 v')) N m (k + 1) S ds ((zs.set (k + m) t).set (k + m + 1) u) := by
  obtain ⟨h1, h2, h3, h4, h5, h6, h7⟩ := h
  have hlow := sh_low (x * S) S K hB (Nat.dvd_mul_left S x) hS0
  have huS : u < S := by
    rw [hu, Nat.div_lt_iff_lt_mul BB_pos, Nat.mul_comm]
    exact Nat.mul_lt_mul_of_pos_left hxl hS0
  have hSB : S ≤ BB := by omega
  have e1 := val_set (xs := zs) (j := k + m) t (by omega)
  have e2 := val_set (xs := zs.set (k + m) t) (j := k + m + 1) u (by simp; omega)
  have e3 : (zs.set (k + m) t).getD (k + m + 1) 0 = 0 := by rw [getD_set (by omega)]; exact h5 _ (by omega)
  rw [e3, Nat.mul_zero, Nat.add_zero] at e2
  subst hv hv'
  refine ⟨(h1.set _ _).set _ _, by simp [h2], dig_set (dig_set h3 (by omega)) (by omega), ?_, fun j hj => ?_, ?_, (h7.setCell _ _).setCell _ _⟩
  · rw [show k + 1 + m = k + m + 1 by omega]
    simp [List.getD, show k + m + 1 < zs.length by omega]; exact huS
  · rw [getD_set (by omega), getD_set (by omega)]; exact h5 j (by omega)
  · rw [e2]
    have e4 : val (zs.set (k + m) t) = val zs + BB ^ (k + m) * (x * S % BB) := by rw [ht, Nat.mul_add] at e1; rw [ht]; omega
    have e5 : BB ^ (k + m) * (x * S % BB) + BB ^ (k + m + 1) * u = BB ^ (k + m) * (x * S) := by
      rw [hu, Nat.pow_succ, Nat.mul_assoc, ← Nat.mul_add, Nat.mod_add_div]
    rw [e4, h6, Nat.add_assoc, e5, val_take_any, ← hx, Nat.pow_add]
    rw [Nat.mul_add S, Nat.mul_add, show BB ^ k * BB ^ m * (x * S) = BB ^ m * (S * (BB ^ k * x)) by rw [Nat.mul_comm x S, Nat.mul_comm (BB ^ k), Nat.mul_assoc, ← Nat.mul_assoc (BB ^ k), Nat.mul_comm (BB ^ k) S, Nat.mul_assoc]]

theorem or_sh32 (z y r S K : Nat) (hB : BB = S * K) (hS : S = 2 ^ r) (hz : z < S) (hy : S ∣ y) : bits .or .u32 (z : Int) ((y : Int) % 4294967296) = ((z + y % BB : Nat) : Int) := by
  have hS0 : 0 < S := by rw [hS]; exact Nat.pow_pos (by omega)
  have hlow := sh_low y S K hB hy hS0
  have h1 : S ∣ y % BB := (Nat.dvd_mod_iff (by rw [hB]; exact Nat.dvd_mul_right S K)).2 hy
  have e : (y : Int) % 4294967296 = ((y % BB : Nat) : Int) := by rw [BB_eq]; omega
  rw [e]
  generalize y % BB = b at *
  rw [BB_eq] at hlow
  rw [u32_or_nat _ _ (by omega) (by omega), Nat.or_comm, nat_join r _ _ (by rw [← hS]; exact Nat.mod_eq_zero_of_dvd h1) (by rw [← hS]; exact hz), Nat.add_comm]

set_option maxHeartbeats 2000000 in
set_option maxRecDepth 100000 in
theorem rshift_any (A : Option Addr) (n c s : Nat) (ds : List Nat) (w : World) (h : Dgs w w.heap.size A n ds) (hs : n ≤ 100000) (hs2 : s ≤ 3200000) :
    Calls Try.prog 94 #[.slice A n c, .int .i64 s] w (RetF w (val ds * 2 ^ s)) := by
  obtain ⟨m, Hm⟩ : ∃ m, m = s / 32 := ⟨_, rfl⟩
  obtain ⟨r, Hr⟩ : ∃ r, r = s % 32 := ⟨_, rfl⟩
  have em : (s : Int) / 32 = (m : Int) := by omega
  have er : (s : Int) % 32 = (r : Int) := by omega
  have hr31 : r ≤ 31 := by omega
  have hm5 : m ≤ 100000 := by omega
  obtain ⟨S, HS⟩ : ∃ S : Nat, Hid (S = 2 ^ r) := ⟨_, rfl⟩
  obtain ⟨K, HK⟩ : ∃ K : Nat, Hid (BB = S * K) := ⟨2 ^ (32 - r), by unfold Hid; rw [HS.out, ← Nat.pow_add, show r + (32 - r) = 32 by omega]; rfl⟩
  have HS0 : Hid (0 < S) := by unfold Hid; rw [HS.out]; exact Nat.pow_pos (by omega)
  have HT : Hid (val ds * 2 ^ s = BB ^ m * (S * val ds)) := by
    unfold Hid
    rw [HS.out, BB_pow, Nat.mul_comm (val ds), ← Nat.mul_assoc, ← Nat.pow_add, show 32 * m + r = s by omega]
  rw [HT.out]
  have hmk := run_make_row' (P := Try.prog) 22 69 (.int .u32 0) 4 Try.underlying22 u32_info rfl .i64 .i64 (n + m + 1) (by omega) (by omega)
  have ec : ((n + m + 1 : Nat) : Int) = (n : Int) + (m : Int) + 1 := by omega
  rw [ec] at hmk
  clear ec Hm Hr
  have HL := Lib.hid h.len
  have H0 : ShO w (w.alloc (.cells (madeCells #[.int .u32 0] (n + m + 1)) 69)) (w.alloc (.cells (madeCells #[.int .u32 0] (n + m + 1)) 69)) (n + m + 1) m 0 S ds (List.replicate (n + m + 1) 0) :=
    ⟨Row.made w _, by simp, dig_zeros _, by rw [getD_zeros]; exact HS0.out, fun j _ => getD_zeros _ j, by rw [val_zeros]; simp [val], Only.refl _ _⟩
  have hB0 := bnew w (.cells (madeCells #[.int .u32 0] (n + m + 1)) 69)
  go_enter Try.func94, Try.ntmps94
  go_wp2
  clear hmk
  generalize (w.alloc (.cells (madeCells #[.int .u32 0] (n + m + 1)) 69)) = W0 at H0 hB0 ⊢
  go_loopw [6] (fun i wr => ∃ (k : Nat) (zs : List Nat), k ≤ n ∧ i = .int .i64 k ∧ ShO w W0 wr (n + m + 1) m k S ds zs) (fun i _ => n - (intOf i).toNat)
  case atStart => exact ⟨0, _, Nat.zero_le _, rfl, H0⟩
  case round =>
    clear H0
    obtain ⟨k, zs, hk, rfl, HI⟩ := hrel
    have hO := HI.2.2.2.2.2.2
    have hda := (h.below hB0).below (hO.below (Nat.le_refl _))
    by_cases hkn : k < n
    · obtain ⟨x, HX⟩ : ∃ x, Hid (x = ds.getD k 0) := ⟨_, rfl⟩
      have hxl := h.dig.getD k
      rw [← HX.out] at hxl
      obtain ⟨b, off, hA, _, hcell⟩ := hda.at_ (by omega)
      subst hA
      have hx := hcell k hkn
      rw [← HX.out] at hx
      have hz := HI.1.cell (j := k + m) (by have := HI.2.1; omega)
      obtain ⟨z, HZ⟩ : ∃ z, Hid (z = zs.getD (k + m) 0) := ⟨_, rfl⟩
      rw [← HZ.out] at hz
      have hz2 := HI.1.cell (j := k + m + 1) (by have := HI.2.1; omega)
      have hfr := HI.1.frozen (k + m)
      have hfr2 := HI.1.frozen (k + m + 1)
      have hS31 : S ≤ 2147483648 := by rw [HS.out]; exact Nat.le_trans (Nat.pow_le_pow_right (by omega) hr31) (by decide)
      obtain ⟨y, HY⟩ : ∃ y, Hid (y = x * S) := ⟨_, rfl⟩
      have hyl : y ≤ 9223372034707292160 := by rw [HY.out]; rw [BB_eq] at hxl; exact Nat.mul_le_mul (show x ≤ 4294967295 by omega) hS31
      have hshl : IntKind.u64.wrap ((x : Int) * 2 ^ r) = (y : Int) := by
        have e : (x : Int) * 2 ^ r = ((x * 2 ^ r : Nat) : Int) := by rw [Int.natCast_mul, Int.natCast_pow]; rfl
        rw [e, ← HS.out, ← HY.out, u64_in' _ (by omega)]
      obtain ⟨t, HTT⟩ : ∃ t, Hid (t = z + y % BB) := ⟨_, rfl⟩
      have hor : bits .or .u32 (z : Int) ((y : Int) % 4294967296) = (t : Int) := by
        rw [HTT.out]
        exact or_sh32 z y r S K HK.out HS.out (by rw [HZ.out]; exact HI.2.2.2.1) (by rw [HY.out]; exact Nat.dvd_mul_left S x)
      have i0 : (0 : Int) ≤ (k : Int) := by omega
      have i1 : (k : Int) < (n : Int) := by omega
      have i2 : (k : Int) + (m : Int) < (n : Int) + (m : Int) + 1 := by omega
      have i3 : (k : Int) + (m : Int) + 1 < (n : Int) + (m : Int) + 1 := by omega
      have HXL := Lib.hid hxl
      rw [BB_eq] at hxl
      clear hcell hda hO
      go_wp2
      go_roundw
      case rel => exact ⟨k + 1, _, by omega, by go_num, sh_step HI HK.out HS0.out (by omega) HX.out HXL.out (t := t) (u := x * S / BB) (by rw [HTT.out, HZ.out, HY.out]) rfl rfl (by rw [← HY.out, BB_eq]; omega)⟩
      case measure => simp [intOf]; omega
    · obtain rfl : k = n := by omega
      have h1 := HI.1
      have HV : Hid (val zs = BB ^ m * (S * val ds)) := by unfold Hid; rw [HI.2.2.2.2.2.1, List.take_of_length_le (by have := HL.out; omega)]
      have hd := h1.dgs HI.2.2.1
      rw [HI.2.1] at hd
      clear hda
      go_wp2_with (go_at_call 79; (with_reducible refine (rtrim_ret _ _ _ _ _ _ hd (Nat.le_refl _) (by unfold maxLen; omega)).mono ?_); rintro e w2 ⟨t, rfl, hd2, ht2, rfl⟩)
      go_ret
      rw [HV.out] at hd2
      exact RetF.mk_ hd2 ht2 (by unfold maxLen; omega) (hB0.trans (hO.below (Nat.le_refl _)))

/-- What holds of the row into which halved digits are written. -/
def HfI (w W0 wr : World) (n k : Nat) (ds xs : List Nat) : Prop :=
  Row wr w.heap.size (xs ++ List.replicate (n - k) 0) ∧ xs.length = k ∧ Dig xs ∧ 2 * val xs + ds.getD 0 0 % 2 = val (ds.take k) + BB ^ k * (ds.getD k 0 % 2) ∧ Only w.heap.size W0 wr
theorem HfI.drewN {w W0 wr : World} {n k : Nat} {ds xs : List Nat} (h : HfI w W0 wr n k ds xs) (q : Nat) : HfI w W0 (wr.drewN q) n k ds xs := ⟨h.1.drewN q, h.2.1, h.2.2.1, h.2.2.2.1, h.2.2.2.2.drewN q⟩

theorem hf_step {w W0 wr : World} {n k x y d : Nat} {ds xs : List Nat} (h : HfI w W0 wr n k ds xs) (hk : k < n) (hx : x = ds.getD k 0) (hy : y = ds.getD (k + 1) 0) (hxl : x < 4294967296) (hd : d = x / 2 + y % 2 * 2147483648) {v : Int} (hv : v = (d : Nat)) :
    HfI w W0 (wr.setCell ⟨w.heap.size, k, none⟩ (.int .u32 v)) n (k + 1) ds (xs ++ [d]) := by
  obtain ⟨h1, h2, h3, h4, h5⟩ := h
  subst hv
  refine ⟨?_, by simp [h2], h3.append (Dig.cons (by rw [BB_eq]; omega) Dig.nil), ?_, h5.setCell _ _⟩
  · have e : n - k = (n - (k + 1)) + 1 := by omega
    rw [e] at h1
    have := h1.set k d
    rwa [← h2, set_zeros, h2] at this
  · rw [val_snoc, h2, val_take_any, ← hx, ← hy, Nat.pow_succ]
    rw [← hx] at h4
    have e1 : BB ^ k * x = BB ^ k * (2 * (x / 2)) + BB ^ k * (x % 2) := by rw [← Nat.mul_add]; congr 1; omega
    have e2 : 2 * (BB ^ k * d) = BB ^ k * (2 * (x / 2)) + BB ^ k * BB * (y % 2) := by
      rw [Nat.mul_assoc (BB ^ k) BB, ← Nat.mul_add, Nat.mul_left_comm]; congr 1; rw [hd, BB_eq]; omega
    rw [Nat.mul_add 2, e2, e1]
    omega

theorem or_half (x y : Nat) (hx : x < 4294967296) (hy : y < 4294967296) : bits .or .u32 ((x : Int) / 2) ((y : Int) * 2147483648 % 4294967296) = ((x / 2 + y % 2 * 2147483648 : Nat) : Int) := by
  have e1 : (x : Int) / 2 = ((x / 2 : Nat) : Int) := by omega
  have e2 : (y : Int) * 2147483648 % 4294967296 = ((y % 2 * 2147483648 : Nat) : Int) := by omega
  rw [e1, e2, u32_or_nat _ _ (by omega) (by omega), Nat.or_comm, nat_join 31 _ _ (by omega) (by omega), Nat.add_comm]

set_option maxHeartbeats 2000000 in
set_option maxRecDepth 100000 in
theorem rhalf_any (A : Option Addr) (n c : Nat) (ds : List Nat) (w : World) (h : Dgs w w.heap.size A n ds) (hc : n ≤ c) (hm : c ≤ maxLen) (hs : n ≤ 1000000) :
    Calls Try.prog 96 #[.slice A n c] w (RetF w (val ds / 2)) := by
  have hmk := run_make_row' (P := Try.prog) 22 69 (.int .u32 0) 4 Try.underlying22 u32_info rfl .i64 .i64 n (by omega) (by omega)
  have HL := Lib.hid h.len
  have H0 : HfI w (w.alloc (.cells (madeCells #[.int .u32 0] n) 69)) (w.alloc (.cells (madeCells #[.int .u32 0] n) 69)) n 0 ds [] := ⟨by simpa using Row.made w n, rfl, Dig.nil, by simp [val], Only.refl _ _⟩
  have hB0 := bnew w (.cells (madeCells #[.int .u32 0] n) 69)
  go_enter Try.func96, Try.ntmps96
  go_wp2
  clear hmk
  generalize (w.alloc (.cells (madeCells #[.int .u32 0] n) 69)) = W0 at H0 hB0 ⊢
  go_loopw [4] (fun i wr => ∃ (k : Nat) (xs : List Nat), k ≤ n ∧ i = .int .i64 k ∧ HfI w W0 wr n k ds xs) (fun i _ => n - (intOf i).toNat)
  case atStart => exact ⟨0, [], Nat.zero_le _, rfl, H0⟩
  case round =>
    clear H0
    obtain ⟨k, xs, hk, rfl, HI⟩ := hrel
    have hO := HI.2.2.2.2
    have hda := (h.below hB0).below (hO.below (Nat.le_refl _))
    by_cases hkn : k < n
    · obtain ⟨x, HX⟩ : ∃ x, Hid (x = ds.getD k 0) := ⟨_, rfl⟩
      have hxl := h.dig.getD k
      rw [← HX.out, BB_eq] at hxl
      obtain ⟨y, HY⟩ : ∃ y, Hid (y = ds.getD (k + 1) 0) := ⟨_, rfl⟩
      have hyl := h.dig.getD (k + 1)
      rw [← HY.out, BB_eq] at hyl
      have HD := Lib.hid hda
      obtain ⟨b, off, hA, hbl, hcell⟩ := hda.at_ (by omega)
      subst hA
      have hx := hcell k hkn
      rw [← HX.out] at hx
      have hst := HI.1.cell (j := k) (by have := HI.2.1; simp; omega)
      have hfr := HI.1.frozen k
      have hne : ¬ w.heap.size = b := by omega
      have hne' : ¬ b = w.heap.size := by omega
      have i0 : (0 : Int) ≤ (k : Int) := by omega
      have i1 : (k : Int) < (n : Int) := by omega
      have e1 : IntKind.i64.wrap ((k : Int) + 1) = (k : Int) + 1 := IntWalk.i64_in _ (by omega)
      have hkm : k + 1 ≤ maxLen := by unfold maxLen; omega
      have ek : ((k + 1 : Nat) : Int) = (k : Int) + 1 := by omega
      have hdg := fun w' (hw : Drew wr w') => digit_any (some ⟨b, off, none⟩) n c _ ds (k + 1) w' (hw.dgs HD.out) hc hm hkm
      rw [ek] at hdg
      clear ek
      obtain ⟨d, HDD⟩ : ∃ d, Hid (d = x / 2 + y % 2 * 2147483648) := ⟨_, rfl⟩
      have HOR : Hid (bits .or .u32 ((x : Int) / 2) ((y : Int) * 2147483648 % 4294967296) = (d : Int)) := by unfold Hid; rw [HDD.out]; exact or_half x y hxl hyl
      have HXL := Lib.hid hxl
      have hdw := hdg wr.drew ⟨1, rfl⟩
      clear hcell hda hO hdg
      go_wp2
      go_region_held3 (fun w' => w'.cell? ⟨b, off + k, none⟩ = some (.int .u32 x))
        (go_keep)
        (first
          | (go_at_call 106; (with_reducible refine hdw.mono ?_); rw [← HY.out]; rintro e w' ⟨rfl, rfl⟩)
          | fail)
      go_wp2
      go_roundw
      case rel => exact ⟨k + 1, _, by omega, by go_num, (hf_step HI hkn HX.out HY.out HXL.out HDD.out HOR.out).drewN 1⟩
      case measure => simp [intOf]; omega
    · obtain rfl : k = n := by omega
      obtain ⟨h1, h2, h3, h4, h5⟩ := HI
      have HV : Hid (val xs = val ds / 2) := by
        unfold Hid
        rw [List.take_of_length_le (by have := HL.out; omega), getD_beyond (ds := ds) (k := k) (by have := HL.out; omega)] at h4
        omega
      rw [Nat.sub_self, List.replicate_zero, List.append_nil] at h1
      have hd := h1.dgs h3
      rw [h2] at hd
      clear hda h4
      go_wp2_with (go_at_call 79; (with_reducible refine (rtrim_ret _ _ _ _ _ _ hd (Nat.le_refl _) (by unfold maxLen; omega)).mono ?_); rintro e w2 ⟨t, rfl, hd2, ht2, rfl⟩)
      go_ret
      rw [HV.out] at hd2
      exact RetF.mk_ hd2 ht2 (by unfold maxLen; omega) (hB0.trans (hO.below (Nat.le_refl _)))

set_option maxHeartbeats 1000000 in
set_option maxRecDepth 100000 in
theorem rsubDigitsF_any (A A' : Option Addr) (n n' c c' : Nat) (da db : List Nat) (w : World) (h : Dgs w w.heap.size A n da) (h' : Dgs w w.heap.size A' n' db) (hc : n ≤ c) (hm : c ≤ maxLen) (hc' : n' ≤ c') (hm' : c' ≤ maxLen) (hs : n ≤ 1000000) (hle : val db ≤ val da) :
    Calls Try.prog 95 #[.slice A n c, .slice A' n' c'] w (RetF w (val da - val db)) := by
  have hmk := run_make_row' (P := Try.prog) 22 69 (.int .u32 0) 4 Try.underlying22 u32_info rfl .i64 .i64 n (by omega) (by omega)
  have H0 : SubI w (w.alloc (.cells (madeCells #[.int .u32 0] n) 69)) n 0 0 (val (da.take 0)) (val (db.take 0)) [] := ⟨by simpa using Row.made w n, rfl, Dig.nil, rfl, bnew _ _⟩
  have HL := Lib.hid h.len
  have HLE := Lib.hid hle
  clear hle
  go_enter Try.func95, Try.ntmps95
  go_wp2
  clear hmk
  go_loopw [6, 7] (fun cv i wr => ∃ (k bo : Nat) (xs : List Nat), k ≤ n ∧ bo ≤ 1 ∧ i = .int .i64 k ∧ cv = .int .u64 bo ∧ SubI w wr n k bo (val (da.take k)) (val (db.take k)) xs) (fun _ i _ => n - (intOf i).toNat)
  case atStart => exact ⟨0, 0, [], Nat.zero_le _, Nat.zero_le _, rfl, rfl, H0⟩
  case round =>
    clear H0
    obtain ⟨k, bo, xs, hk, hbo, rfl, rfl, HI⟩ := hrel
    have h1 := HI.1
    have hB := HI.2.2.2.2
    have hda := h.below hB
    have hdb := h'.below hB
    by_cases hkn : k < n
    · have hlen : (xs ++ List.replicate (n - k) 0).length = n := by simp [HI.2.1]; omega
      have hstore := h1.cell (j := k) (by rw [hlen]; omega)
      have hfr := h1.frozen k
      have hxl := h.dig.getD k
      have hyl := h'.dig.getD k
      rw [BB_eq] at hxl hyl
      obtain ⟨x, HX⟩ : ∃ x, Hid (x = da.getD k 0) := ⟨_, rfl⟩
      obtain ⟨y, HY⟩ : ∃ y, Hid (y = db.getD k 0) := ⟨_, rfl⟩
      rw [← HX.out] at hxl
      rw [← HY.out] at hyl
      have i0 : (0 : Int) ≤ (k : Int) := by omega
      have i1 : (k : Int) < (n : Int) := by omega
      clear h1 hlen
      go_wp2_with (first
        | (go_at_call_of 106 (Value.slice A n c); (with_reducible refine (digit_any A n c _ da k _ hda hc hm (by unfold maxLen; omega)).mono ?_); rw [← HX.out]; rintro e w' ⟨rfl, rfl⟩)
        | (go_at_call_of 106 (Value.slice A' n' c'); (with_reducible refine (digit_any A' n' c' _ db k _ hdb hc' hm' (by unfold maxLen; omega)).mono ?_); rw [← HY.out]; rintro e w' ⟨rfl, rfl⟩)
        | fail)
      obtain ⟨d, bo', e1, e2, e3, e4, e5⟩ := rsub_digit x y bo hxl hyl hbo
      go_roundw
      case rel => exact ⟨k + 1, bo', _, by omega, e1, by go_num, int_val e5, sub_step HI hkn HX.out HY.out e2 e3 e4⟩
      case measure => simp [intOf]; omega
    · obtain rfl : k = n := by omega
      obtain ⟨f1, f2, f3⟩ := sub_last HI HL.out h.dig HLE.out
      have F2 := Lib.hid f2
      clear f2 hda hdb
      go_wp2_with (go_at_call 79; (with_reducible refine (rtrim_ret _ _ _ _ _ _ f1 (Nat.le_refl _) (by unfold maxLen; omega)).mono ?_); rintro e w2 ⟨t, rfl, hd2, ht2, rfl⟩)
      go_ret
      rw [F2.out] at hd2
      exact RetF.mk_ hd2 ht2 (by unfold maxLen; omega) f3
end Go.Proofs.Ytgjkgmlcfieodaa

