/-
  Leading zero bits.
  Long division.
  Long division: the loop.
  The long division does what it should, for every divisor.
  Quotient and remainder, handed from call to call; what Euclid's division asks of them.
-/
import Derived.Test.YtgjkgmlcfieodaaBase
import Derived.Shelf.Small.Bits
import Derived.Lib.ItoaNum
import Derived.Test.YtgjkgmlcfieodaaLongA
import Derived.Test.YtgjkgmlcfieodaaCmpC
import Derived.Test.YtgjkgmlcfieodaaZops
import Derived.Test.YtgjkgmlcfieodaaIops
set_option linter.unusedVariables false
set_option linter.unusedSimpArgs false
namespace Go.Proofs.Ytgjkgmlcfieodaa
open Go.RowKit

def bitsRen : Go.Shelf.Ren := ⟨fun n => if n = 128 then 107 else 98, fun t => if t = 3 then 3 else if t = 4 then 4 else if t = 5 then 5 else if t = 9 then 9 else if t = 46 then 72 else 69, fun g => g⟩
theorem bits_lays : Lays.n133 Try.prog bitsRen where
  mixed := by kernel_rfl
  f128 := Try.func107.trans (congrArg some (by kernel_rfl))
  f133 := Try.func98.trans (congrArg some (by kernel_rfl))
  t3 := by kernel_rfl
  a3 := fun _ => by kernel_rfl
  z3 := fun _ => by kernel_rfl
  v3 := fun _ => by kernel_rfl
  t4 := by kernel_rfl
  a4 := fun _ => by kernel_rfl
  z4 := fun _ => by kernel_rfl
  v4 := fun _ => by kernel_rfl
  t5 := by kernel_rfl
  a5 := fun _ => by kernel_rfl
  z5 := fun _ => by kernel_rfl
  v5 := fun _ => by kernel_rfl
  t9 := by kernel_rfl
  a9 := fun _ => by kernel_rfl
  z9 := fun _ => by kernel_rfl
  v9 := fun _ => by kernel_rfl
  t46 := by kernel_rfl
  a46 := fun _ => by kernel_rfl
  z46 := fun _ => by kernel_rfl
  v46 := fun _ => by kernel_rfl
  t51 := by kernel_rfl
  a51 := fun _ => by kernel_rfl
  z51 := fun _ => by kernel_rfl
  v51 := fun _ => by kernel_rfl

/-- How many zero bits a digit that is not 0 begins with: shifted by them it has its top bit set. -/
theorem leading_any (x : Nat) (h0 : 0 < x) (hx : x < 4294967296) :
    ∃ s : Nat, s ≤ 31 ∧ x * 2 ^ s < 4294967296 ∧ 2147483648 ≤ x * 2 ^ s ∧ ∀ w : World, Calls Try.prog 98 #[.int .u32 x] w fun e w' => e = .returned (.int .i64 s) ∧ w = w' := by
  have H := fun w => Any.bits_LeadingZeros32 bits_lays (x : Int) w (by omega) (by omega)
  have hB : 1 ≤ Lib.bitLen x ∧ 2 ^ (Lib.bitLen x - 1) ≤ x ∧ x < 2 ^ Lib.bitLen x := Lib.bitLenAux_bounds 64 x (by omega) (by omega)
  have hL := Lib.bitLen_le x 32 (by omega) (by omega)
  rw [Int.toNat_natCast] at H
  generalize Lib.bitLen x = L at hB hL H
  obtain ⟨b1, b2, b3⟩ := hB
  have p1 := Nat.mul_lt_mul_of_pos_right b3 (Nat.pow_pos (n := 32 - L) (show 0 < 2 by omega))
  have p2 := Nat.mul_le_mul_right (2 ^ (32 - L)) b2
  rw [← Nat.pow_add] at p1 p2
  rw [show L + (32 - L) = 32 by omega] at p1
  rw [show L - 1 + (32 - L) = 31 by omega] at p2
  have e : (32 : Int) - (L : Int) = ((32 - L : Nat) : Int) := by omega
  refine ⟨32 - L, by omega, p1, p2, fun w => (H w).mono fun e' w' ⟨h1, h2⟩ => ⟨by rw [h1, e], h2.symm⟩⟩

theorem shr_arith (S K B d dn V : Nat) (hB : B = S * K) (hS : 0 < S) (hd : d < B) (hn : V % B = dn) : (d + B * V) / S = (dn * B + d) / S % B + B * (V / S) := by
  have hB0 : 0 < B := by omega
  have hr : V % S = dn % S := by
    rw [← hn, hB, Nat.mod_mul_right_mod]
  obtain ⟨r, hr'⟩ : ∃ r, r = V % S := ⟨_, rfl⟩
  have h1 := Nat.div_add_mod V S
  have h2 := Nat.div_add_mod dn S
  rw [← hr] at h2
  rw [← hr'] at h1 h2
  have hrS : r < S := by rw [hr']; exact Nat.mod_lt _ hS
  have e1 : d + B * V = (B * r + d) + S * (B * (V / S)) := by
    have : B * V = B * (S * (V / S)) + B * r := by rw [← Nat.mul_add, h1]
    have e : B * (S * (V / S)) = S * (B * (V / S)) := Nat.mul_left_comm _ _ _
    omega
  have e2 : dn * B + d = (B * r + d) + S * (B * (dn / S)) := by
    have : dn * B = B * (S * (dn / S)) + B * r := by rw [← Nat.mul_add, h2, Nat.mul_comm]
    have e : B * (S * (dn / S)) = S * (B * (dn / S)) := Nat.mul_left_comm _ _ _
    omega
  have h3 : (B * r + d) / S < B := by
    rw [Nat.div_lt_iff_lt_mul hS]
    have : B * (r + 1) ≤ B * S := Nat.mul_le_mul_left _ hrS
    rw [Nat.mul_add, Nat.mul_one] at this
    omega
  rw [e1, e2, Nat.add_mul_div_left _ _ hS, Nat.add_mul_div_left _ _ hS, Nat.add_mul_mod_self_left, Nat.mod_eq_of_lt h3]

/-- Digits from above, k of them still to be shifted; av holds the last digit that was read. -/
def ShrI (w wr : World) (n k av S : Nat) (ds xs : List Nat) : Prop :=
  Row wr w.heap.size (List.replicate k 0 ++ xs) ∧ xs.length + k = n ∧ Dig xs ∧ val xs = val (ds.drop k) / S ∧ av % BB = ds.getD k 0 ∧ Below w.heap.size w wr

theorem val_drop (ds : List Nat) (k : Nat) : val (ds.drop k) = ds.getD k 0 + BB * val (ds.drop (k + 1)) := by
  by_cases h : k < ds.length
  · rw [List.drop_eq_getElem_cons h, val]; simp [List.getD, h]
  · rw [List.drop_of_length_le (by omega), List.drop_of_length_le (by omega), getD_beyond (by omega)]; simp [val]

theorem shr_step {w wr : World} {n k av S K x : Nat} {ds xs : List Nat} (h : ShrI w wr n (k + 1) av S ds xs) (hB : BB = S * K) (hS : 0 < S) (hd : Dig ds) (hx : x = ds.getD k 0) {v : Int} (hv : v = ((av % BB * BB + x) / S % BB : Nat)) :
    ShrI w (wr.setCell ⟨w.heap.size, k, none⟩ (.int .u32 v)) n k (av % BB * BB + x) S ds ((av % BB * BB + x) / S % BB :: xs) := by
  obtain ⟨h1, h2, h3, h4, h5, h6⟩ := h
  subst hv hx
  have hxl := hd.getD k
  refine ⟨?_, by simp only [List.length_cons]; omega, Dig.cons (Nat.mod_lt _ BB_pos) h3, ?_, ?_, h6.setCell (Nat.le_refl _) _⟩
  · have := h1.set k ((av % BB * BB + ds.getD k 0) / S % BB)
    have e : (List.replicate (k + 1) 0 ++ xs).set k ((av % BB * BB + ds.getD k 0) / S % BB) = List.replicate k 0 ++ ((av % BB * BB + ds.getD k 0) / S % BB :: xs) := by
      rw [List.replicate_succ', List.append_assoc, List.set_append_right _ _ (by simp), List.length_replicate, Nat.sub_self]
      rfl
    rwa [e] at this
  · rw [val_drop ds k, val, h4, h5]
    refine (shr_arith S K BB _ _ _ hB hS hxl ?_).symm
    rw [val_drop ds (k + 1), Nat.add_mul_mod_self_left, Nat.mod_eq_of_lt (hd.getD _)]
  · rw [Nat.mul_comm, Nat.mul_add_mod, Nat.mod_eq_of_lt hxl]

set_option maxHeartbeats 1000000 in
set_option maxRecDepth 100000 in
theorem shiftRight_any (A : Option Addr) (n c s : Nat) (ds : List Nat) (w : World) (h : Dgs w w.heap.size A n ds) (hs : n ≤ 1000000) (hs31 : s ≤ 31) :
    Calls Try.prog 103 #[.slice A n c, .int .i64 s] w (RetD w (val ds / 2 ^ s)) := by
  have hmk := run_make_row' (P := Try.prog) 22 69 (.int .u32 0) 4 Try.underlying22 u32_info rfl .i64 .i64 n (by omega) (by omega)
  obtain ⟨S, HS⟩ : ∃ S : Nat, Hid (S = 2 ^ s) := ⟨2 ^ s, rfl⟩
  rw [← HS.out]
  have HSK : Hid (BB = S * 2 ^ (32 - s)) := by unfold Hid; rw [HS.out, ← Nat.pow_add, show s + (32 - s) = 32 by omega]; rfl
  have HS0 : Hid (0 < S) := by unfold Hid; rw [HS.out]; exact Nat.pow_pos (by omega)
  have HL := Lib.hid h.len
  have H0 : ShrI w (w.alloc (.cells (madeCells #[.int .u32 0] n) 69)) n n 0 S ds [] := ⟨by simpa using Row.made w n, by simp, Dig.nil, by rw [List.drop_of_length_le (by rw [HL.out]; exact Nat.le_refl _)]; simp [val], by rw [getD_beyond (by rw [HL.out]; exact Nat.le_refl _)]; simp, bnew _ _⟩
  go_enter Try.func103, Try.ntmps103
  go_wp2
  clear hmk
  go_loopw [6, 7] (fun av i wr => ∃ (k a : Nat) (xs : List Nat), k ≤ n ∧ i = .int .i64 ((k : Int) - 1) ∧ av = .int .u64 a ∧ a < 18446744073709551616 ∧ ShrI w wr n k a S ds xs) (fun _ i _ => (intOf i + 1).toNat)
  case atStart => exact ⟨n, 0, [], Nat.le_refl _, rfl, rfl, by omega, H0⟩
  case round =>
    clear H0
    obtain ⟨k, a, xs, hk, rfl, rfl, hal, HI⟩ := hrel
    by_cases hk0 : k = 0
    · subst hk0
      obtain ⟨r1, r2, r3, r4, r5, r6⟩ := HI
      rw [List.replicate_zero, List.nil_append] at r1
      rw [List.drop_zero] at r4
      have hd := r1.dgs r3
      rw [show xs.length = n by omega] at hd
      have HV := Lib.hid r4
      clear r4
      go_wp2_with (go_at_call 69; (with_reducible refine (trim_ret _ _ _ _ _ _ hd (Nat.le_refl _) (by unfold maxLen; omega)).mono ?_); rintro e w2 ⟨t, rfl, hd2, ht2, rfl⟩)
      go_ret
      rw [HV.out] at hd2
      exact RetD.mk_ hd2 (Nat.le_refl _) (by unfold maxLen; omega) r6
    · obtain ⟨j, rfl⟩ : ∃ j, k = j + 1 := ⟨k - 1, by omega⟩
      have ej : (((j + 1 : Nat) : Int) - 1) = (j : Int) := by omega
      rw [ej]
      clear ej
      have hda := h.below HI.2.2.2.2.2
      obtain ⟨b, off, hA, _, hcell⟩ := hda.at_ (by omega)
      subst hA
      have hx := hcell j (by omega)
      have hxl := h.dig.getD j
      rw [BB_eq] at hxl
      obtain ⟨x, HX⟩ : ∃ x, Hid (x = ds.getD j 0) := ⟨_, rfl⟩
      rw [← HX.out] at hx hxl
      have hstore := HI.1.cell (j := j) (by simp; omega)
      have hfr := HI.1.frozen j
      have i0 : (0 : Int) ≤ (j : Int) := by omega
      have i1 : (j : Int) < (n : Int) := by omega
      obtain ⟨t, HT⟩ : ∃ t : Nat, Hid (t = a % BB * BB + x) := ⟨_, rfl⟩
      have htl : t < 18446744073709551616 := by rw [HT.out, BB_eq]; omega
      have hor : bits .or .u64 (IntKind.u64.wrap ((a : Int) * 4294967296)) (x : Int) = (t : Int) := by
        have e : IntKind.u64.wrap ((a : Int) * 4294967296) = ((a % BB * 4294967296 : Nat) : Int) := by rw [IntKind.wrap_u64, BB_eq]; omega
        rw [e, HT.out, or_halves _ _ (by rw [BB_eq]; omega) hxl]
        rfl
      have HV : Hid ((t : Int) / 2 ^ s % 4294967296 = ((t / S % BB : Nat) : Int)) := by
        unfold Hid
        rw [HS.out, Int.natCast_emod, Int.natCast_ediv, Int.natCast_pow]
        rfl
      clear hcell hda
      go_wp2
      rw [HV.out]
      go_roundw
      case rel =>
        refine ⟨j, t, (a % BB * BB + x) / S % BB :: xs, by omega, rfl, rfl, htl, ?_⟩
        rw [HT.out]
        exact shr_step HI HSK.out HS0.out h.dig HX.out rfl
      case measure => simp [intOf]

/-- What holds when k digits of the quotient are still to be found. -/
def LgI (w wr : World) (g1 g2 g3 n m N k V X : Nat) (vs xs qs : List Nat) : Prop :=
  Row wr g1 xs ∧ xs.length = n + 1 ∧ Dig xs ∧ Row wr g2 vs ∧ Row wr g3 (List.replicate k 0 ++ qs) ∧ qs.length + k = N ∧ Dig qs ∧ win xs 0 (k + (m + 2)) < V * BB ^ k ∧ V * BB ^ k * val qs + win xs 0 (k + (m + 2)) = X ∧ Below w.heap.size w wr

theorem top_le {m V P x1 x0 p v v1 u2 u1 : Nat} (hP : P = p + BB ^ (m + 1) * (u1 + BB * u2)) (hV : V = v + BB ^ (m + 1) * v1) (hv : v < BB ^ (m + 1)) (h : P < V * BB) (_ : x1 = x0) : u2 * 4294967296 + u1 ≤ v1 * BB + (BB - 1) := by
  have h1 : V < BB ^ (m + 1) * (v1 + 1) := by rw [Nat.mul_add, Nat.mul_one]; omega
  have h2 : V * BB ≤ BB ^ (m + 1) * (v1 + 1) * BB := Nat.mul_le_mul_right _ (Nat.le_of_lt h1)
  rw [Nat.mul_assoc] at h2
  have h3 : BB ^ (m + 1) * (u1 + BB * u2) < BB ^ (m + 1) * ((v1 + 1) * BB) := by omega
  have h4 := Nat.lt_of_mul_lt_mul_left h3
  rw [Nat.add_mul, Nat.one_mul] at h4
  rw [BB_eq] at h4 ⊢
  omega

theorem win_top3 (xs : List Nat) (j m : Nat) : win xs j (m + 3) = ((xs.getD (j + (m + 2)) 0 * 4294967296 + xs.getD (j + (m + 1)) 0) * BB + xs.getD (j + m) 0) * BB ^ m + win xs j m := by
  have p1 : BB ^ (m + 1) = BB ^ m * BB := Nat.pow_succ _ _
  have p2 : BB ^ (m + 2) = BB ^ m * BB * BB := by rw [← p1]; exact Nat.pow_succ _ _
  rw [win, win, win, p1, p2, ← BB_eq, Nat.add_mul, Nat.add_mul, Nat.add_mul]
  have e1 : xs.getD (j + (m + 2)) 0 * BB * BB * BB ^ m = BB ^ m * BB * BB * xs.getD (j + (m + 2)) 0 := by ac_rfl
  have e2 : xs.getD (j + (m + 1)) 0 * BB * BB ^ m = BB ^ m * BB * xs.getD (j + (m + 1)) 0 := by ac_rfl
  have e3 : xs.getD (j + m) 0 * BB ^ m = BB ^ m * xs.getD (j + m) 0 := by ac_rfl
  rw [e1, e2, e3]
  omega
theorem win_top2 (xs : List Nat) (m : Nat) : win xs 0 (m + 2) = (xs.getD (m + 1) 0 * BB + xs.getD m 0) * BB ^ m + win xs 0 m := by
  rw [win, win, Nat.pow_succ, Nat.zero_add, Nat.zero_add, Nat.add_mul]
  have e2 : xs.getD (m + 1) 0 * BB * BB ^ m = BB ^ m * BB * xs.getD (m + 1) 0 := by ac_rfl
  have e3 : xs.getD m 0 * BB ^ m = BB ^ m * xs.getD m 0 := by ac_rfl
  rw [e2, e3]
  omega

theorem guessOf_lt (t D : Nat) : guessOf t D < 4294967296 := Nat.lt_of_le_of_lt (Nat.min_le_right _ _) (by rw [BB_eq]; omega)

/-- All that a round computes. -/
theorem lg_guess {w wr : World} {g1 g2 g3 n m N j V X : Nat} {vs xs qs : List Nat} (h : LgI w wr g1 g2 g3 n m N (j + 1) V X vs xs qs) (hV : 0 < V) (hVw : V = win vs 0 (m + 2)) (hdv : Dig vs) (htop : 0 < vs.getD (m + 1) 0) :
    xs.getD (j + (m + 2)) 0 * 4294967296 + xs.getD (j + (m + 1)) 0 ≤ vs.getD (m + 1) 0 * BB + (BB - 1) ∧ win xs j (m + 3) / V < BB ∧
    (guessOf ((xs.getD (j + (m + 2)) 0 * 4294967296 + xs.getD (j + (m + 1)) 0) * BB + xs.getD (j + m) 0) (vs.getD (m + 1) 0 * BB + vs.getD m 0) = win xs j (m + 3) / V ∨
     guessOf ((xs.getD (j + (m + 2)) 0 * 4294967296 + xs.getD (j + (m + 1)) 0) * BB + xs.getD (j + m) 0) (vs.getD (m + 1) 0 * BB + vs.getD m 0) = win xs j (m + 3) / V + 1) ∧
    guessOf ((xs.getD (j + (m + 2)) 0 * 4294967296 + xs.getD (j + (m + 1)) 0) * BB + xs.getD (j + m) 0) (vs.getD (m + 1) 0 * BB + vs.getD m 0) < 4294967296 := by
  obtain ⟨r1, r2, r3, r4, r5, r6, r7, r8, r9, r10⟩ := h
  have hB := BB_pos
  have hP : win xs j (m + 3) < V * BB := by
    have e0 : j + 1 + (m + 2) = j + (m + 3) := by omega
    rw [e0, win_of_add] at r8
    have : BB ^ j * win xs j (m + 3) < BB ^ j * (V * BB) := by
      rw [Nat.pow_succ] at r8
      have e : BB ^ j * (V * BB) = V * (BB ^ j * BB) := by ac_rfl
      omega
    exact Nat.lt_of_mul_lt_mul_left this
  have hD : BB ≤ vs.getD (m + 1) 0 * BB + vs.getD m 0 := by
    have h1 := Nat.le_mul_of_pos_left BB htop
    exact Nat.le_trans h1 (Nat.le_add_right _ _)
  have hV2 := win_top2 vs m
  rw [← hVw] at hV2
  have p1 := win_lt r3 j m
  have p2 := win_lt hdv 0 m
  have g1' := guess_ge (win_top3 xs j m) hV2 p1 (by omega) hP
  have g2' := guess_le (win_top3 xs j m) hV2 p1 p2 hD
  refine ⟨?_, ?_, by omega, ?_⟩
  · refine top_le (m := m) (V := V) (P := win xs j (m + 3)) (x1 := 0) (x0 := 0) (p := win xs j (m + 1)) (v := win vs 0 (m + 1)) ?_ ?_ (win_lt hdv 0 _) hP rfl
    · rw [win, win, Nat.pow_succ _ (m + 1), Nat.mul_add, ← Nat.mul_assoc, Nat.add_assoc]
    · rw [hVw, win, Nat.zero_add]
  · rw [Nat.div_lt_iff_lt_mul hV, Nat.mul_comm]; exact hP
  · exact guessOf_lt _ _

/-- The top digit bounds the number. -/
theorem db_top {m : Nat} {db : List Nat} (hd : Dig db) (hl : db.length = m + 2) : db.getD (m + 1) 0 * BB ^ (m + 1) ≤ val db ∧ val db < (db.getD (m + 1) 0 + 1) * BB ^ (m + 1) := by
  have h1 := val_take_any db (m + 1)
  rw [List.take_of_length_le (by omega)] at h1
  have h2 := val_lt (hd.take (m + 1))
  rw [List.length_take, Nat.min_eq_left (by omega)] at h2
  rw [Nat.add_mul, Nat.one_mul, Nat.mul_comm, h1]
  omega

theorem norm_bounds {m b x s : Nat} (hs : s ≤ 31) (h1 : x * BB ^ (m + 1) ≤ b) (h2 : b < (x + 1) * BB ^ (m + 1)) (h3 : x * 2 ^ s < 4294967296) (h4 : 2147483648 ≤ x * 2 ^ s) : BB ^ (m + 2) ≤ b * 2 ^ s * 2 ∧ b * 2 ^ s < BB ^ (m + 2) := by
  have hp : BB ^ (m + 2) = BB * BB ^ (m + 1) := by rw [Nat.mul_comm]; exact Nat.pow_succ _ _
  have hK : 2 ^ s * 2 ^ (32 - s) = BB := by rw [← Nat.pow_add, show s + (32 - s) = 32 by omega]; rfl
  have hS : 0 < 2 ^ s := Nat.pow_pos (by omega)
  generalize 2 ^ s = S at *
  generalize 2 ^ (32 - s) = K at *
  rw [hp]
  constructor
  · have e1 : x * BB ^ (m + 1) * S ≤ b * S := Nat.mul_le_mul_right _ h1
    have e2 : x * BB ^ (m + 1) * S = x * S * BB ^ (m + 1) := by ac_rfl
    have e3 : 2147483648 * BB ^ (m + 1) ≤ x * S * BB ^ (m + 1) := Nat.mul_le_mul_right _ h4
    rw [BB_eq] at *
    omega
  · have e1 : b * S < (x + 1) * BB ^ (m + 1) * S := Nat.mul_lt_mul_of_pos_right h2 hS
    have e2 : (x + 1) * BB ^ (m + 1) * S = (x + 1) * S * BB ^ (m + 1) := by ac_rfl
    have h5 : x < K := by
      have : x * S < K * S := by rw [Nat.mul_comm K S, hK, BB_eq]; exact h3
      exact Nat.lt_of_mul_lt_mul_right this
    have e3 : (x + 1) * S ≤ BB := by rw [← hK, Nat.mul_comm S K]; exact Nat.mul_le_mul_right _ h5
    have e4 : (x + 1) * S * BB ^ (m + 1) ≤ BB * BB ^ (m + 1) := Nat.mul_le_mul_right _ e3
    omega

theorem lg_next {w wr wr' : World} {g1 g2 g3 n m N j V X q : Nat} {vs xs ys qs : List Nat} (h : LgI w wr g1 g2 g3 n m N (j + 1) V X vs xs qs) (hV : 0 < V) (hg13 : g3 ≠ g1) (hg23 : g2 ≠ g3) (hg12 : g2 ≠ g1) (hg1 : w.heap.size ≤ g1) (hg3 : w.heap.size ≤ g3) (ho : Only g1 wr wr') (hr : Row wr' g1 ys) (hl : ys.length = xs.length) (hd : Dig ys)
    (hout : ∀ i, i < j ∨ j + (m + 2) ≤ i → ys.getD i 0 = xs.getD i 0) (hq : q = win xs j (m + 3) / V) (hw : win ys j (m + 2) = win xs j (m + 3) % V) {v : Int} (hv : v = (q : Nat)) :
    LgI w (wr'.setCell ⟨g3, j, none⟩ (.int .u32 v)) g1 g2 g3 n m N j V X vs ys (q :: qs) := by
  obtain ⟨r1, r2, r3, r4, r5, r6, r7, r8, r9, r10⟩ := h
  subst hv
  obtain ⟨s1, s2, s3, s4⟩ := long_step (X := X) (val qs) r3 hV (n := m + 2) r8 r9 hq hw (win_congr fun i _ h2 => hout i (Or.inl (by omega)))
  refine ⟨hr.far (by simpa using Ne.symm hg13) _, by omega, hd, (r4.of_block (ho.block g2 hg12)).far (by simpa using hg23) _, ?_, by simp only [List.length_cons]; omega, Dig.cons s2 r7, s3, ?_, (r10.trans (ho.below hg1)).setCell hg3 _⟩
  · have := (r5.of_block (ho.block g3 hg13)).set j q
    have e : (List.replicate (j + 1) 0 ++ qs).set j q = List.replicate j 0 ++ (q :: qs) := by
      rw [List.replicate_succ', List.append_assoc, List.set_append_right _ _ (by simp), List.length_replicate, Nat.sub_self]
      rfl
    rwa [e] at this
  · rw [val]; exact s4

set_option maxHeartbeats 4000000 in
set_option maxRecDepth 100000 in
theorem divLong_any (A A' : Option Addr) (n m c c' : Nat) (da db : List Nat) (w : World) (h : Dgs w w.heap.size A n da) (h' : Dgs w w.heap.size A' (m + 2) db) (hs : n ≤ 1000000) (hmn : m + 2 ≤ n) (htop : 0 < db.getD (m + 1) 0) :
    Calls Try.prog 88 #[.slice A n c, .slice A' (m + 2) c'] w (RetQ w (val da / val db) (val da % val db)) := by
  obtain ⟨b, off, hA, _, hcell⟩ := h'.at_ (by omega)
  subst hA
  have hx := hcell (m + 1) (by omega)
  have hxl := h'.dig.getD (m + 1)
  rw [BB_eq] at hxl
  have hdiv := db_top h'.dig h'.len
  obtain ⟨x, HX⟩ : ∃ x, Hid (x = db.getD (m + 1) 0) := ⟨_, rfl⟩
  rw [← HX.out] at hx hxl htop hdiv
  obtain ⟨s, hs1, hs2, hs3, hlz⟩ := leading_any x htop hxl
  obtain ⟨S, HS⟩ : ∃ S : Nat, Hid (S = 2 ^ s) := ⟨2 ^ s, rfl⟩
  rw [← HS.out] at hs2 hs3
  have HS2 := Lib.hid hs2
  have HS3 := Lib.hid hs3
  have HDV := Lib.hid hdiv
  have HLa := Lib.hid h.len
  have HDa := Lib.hid h.dig
  have hdb0 : 0 < val db := by have h1 := hdiv.1; have h2 : 0 < x * BB ^ (m + 1) := Nat.mul_pos htop (Nat.pow_pos BB_pos); exact Nat.lt_of_lt_of_le h2 h1
  clear hs2 hs3 hcell hdiv
  obtain ⟨N, HN⟩ : ∃ N : Nat, Hid (n + 1 = N + (m + 2)) := ⟨n + 1 - (m + 2), by unfold Hid; omega⟩
  have hN1 : 0 < N := by have := HN.out; omega
  have hN2 : N ≤ 1000000 := by have := HN.out; omega
  have hmk := run_make_row' (P := Try.prog) 22 69 (.int .u32 0) 4 Try.underlying22 u32_info rfl .i64 .i64 N (by omega) (by omega)
  have ec : ((N : Nat) : Int) = (n : Int) - ((m : Int) + 2) + 1 := by have := HN.out; omega
  rw [ec] at hmk
  clear ec
  go_enter Try.func88, Try.ntmps88
  go_wp2_with (first
    | (go_at_call 98; (with_reducible refine (hlz _).mono ?_); rintro e w' ⟨rfl, rfl⟩)
    | (go_at_call_of 99 (Value.slice A n c); (with_reducible refine (shiftLeft_any A n c s da _ h hs hs1).mono ?_); rintro e w1 ⟨xs, rfl, r1, r2, r3, r4, hb1⟩; have h1' := (h'.below hb1).more hb1.size)
    | (go_at_call 99; (with_reducible refine (shiftLeft_any _ _ _ s db _ h1' (by omega) hs1).mono ?_); rintro e w2 ⟨vs, rfl, t1, t2, t3, t4, hb2⟩; have r5 := r1.below hb2)
    | fail)
  rw [← HS.out] at r4 t4
  have hq0 := Row.made w2 N
  have hl1 := r1.lt
  have hl2 := t1.lt
  have hz1 := hb1.size
  have hz2 := hb2.size
  have hbw := (bcall hb1 hb2).alloc (by omega) (.cells (madeCells #[.int .u32 0] N) 69)
  have r6 := r5.alloc (.cells (madeCells #[.int .u32 0] N) 69)
  have t6 := t1.alloc (.cells (madeCells #[.int .u32 0] N) 69)
  have HR4 := Lib.hid r4
  have HT4 := Lib.hid t4
  clear r4 t4 r5 r1 t1 hmk
  generalize w2.alloc (.cells (madeCells #[.int .u32 0] N) 69) = W at hq0 hbw r6 t6 ⊢
  have HS0 : Hid (0 < S) := by unfold Hid; rw [HS.out]; exact Nat.pow_pos (by omega)
  obtain ⟨V, HV⟩ : ∃ V : Nat, Hid (V = val db * S) := ⟨_, rfl⟩
  obtain ⟨X, HXX⟩ : ∃ X : Nat, Hid (X = val da * S) := ⟨_, rfl⟩
  have HV0 : Hid (0 < V) := by unfold Hid; rw [HV.out]; exact Nat.mul_pos hdb0 HS0.out
  have HVB : Hid (BB ^ (m + 2) ≤ V * 2 ∧ V < BB ^ (m + 2)) := by unfold Hid; rw [HV.out, HS.out]; exact norm_bounds hs1 HDV.out.1 HDV.out.2 (by rw [← HS.out]; exact HS2.out) (by rw [← HS.out]; exact HS3.out)
  have HVW : Hid (V = win vs 0 (m + 2)) := by
    unfold Hid
    have h1 := win_zero vs (m + 3)
    rw [List.take_of_length_le (by omega), HT4.out, ← HV.out, win] at h1
    have h2 := HVB.out.2
    rcases Nat.eq_zero_or_pos (vs.getD (0 + (m + 2)) 0) with h0 | h0
    · rw [h0] at h1; omega
    · have := Nat.le_mul_of_pos_right (BB ^ (m + 2)) h0
      omega
  have HVT : Hid (0 < vs.getD (m + 1) 0) := by
    unfold Hid
    rcases Nat.eq_zero_or_pos (vs.getD (m + 1) 0) with h0 | h0
    · have h1 := HVW.out
      rw [win, Nat.zero_add, h0, Nat.mul_zero, Nat.add_zero] at h1
      have h2 := win_lt t3 0 (m + 1)
      have h3 := HVB.out.1
      have h4 : BB ^ (m + 2) = BB ^ (m + 1) * BB := Nat.pow_succ _ _
      have h5 : BB ^ (m + 1) * 2 ≤ BB ^ (m + 1) * BB := Nat.mul_le_mul_left _ (by rw [BB_eq]; omega)
      omega
    · exact h0
  have H0 : LgI w W w.heap.size w1.heap.size w2.heap.size n m N N V X vs xs [] := by
    refine ⟨r6, r2, r3, t6, by simpa using hq0, by simp, Dig.nil, ?_, ?_, hbw⟩
    · rw [← HN.out, win_zero, List.take_of_length_le (by omega), HR4.out, HV.out]
      have h1 := val_lt HDa.out
      rw [HLa.out] at h1
      have h2 := long_start (n := m + 2) HS.out hs1 h1 (by rw [← HV.out]; exact HVB.out.1) hmn
      rwa [show n - (m + 2) + 1 = N by have := HN.out; omega] at h2
    · rw [← HN.out, win_zero, List.take_of_length_le (by omega), HR4.out, HXX.out]; simp [val]
  go_loopw [10] (fun i wr => ∃ (k : Nat) (ys qs : List Nat), k ≤ N ∧ i = .int .i64 ((k : Int) - 1) ∧ LgI w wr w.heap.size w1.heap.size w2.heap.size n m N k V X vs ys qs) (fun i _ => (intOf i + 1).toNat)
  case atStart => exact ⟨N, xs, [], Nat.le_refl _, rfl, H0⟩
  case round =>
    clear H0 hq0 r6 t6
    obtain ⟨k, ys, qs, hk, rfl, HI⟩ := hrel
    by_cases hk0 : k = 0
    · subst hk0
      obtain ⟨l1, l2, l3, l4, l5, l6, l7, l8, l9, l10⟩ := HI
      rw [List.replicate_zero, List.nil_append] at l5
      have hdq := l5.dgs l7
      rw [show qs.length = N by omega] at hdq
      have hdr := (l1.take (m + 2)).dgs (l3.take (m + 2))
      rw [List.length_take, Nat.min_eq_left (by omega)] at hdr
      rw [Nat.pow_zero, Nat.mul_one, Nat.zero_add, win_zero] at l8 l9
      have HEND := Lib.hid (long_end HV.out HXX.out HS0.out hdb0 l9 l8)
      have HNN := HN.out
      have hm6 : m + 2 ≤ 1000000 := by omega
      have im : (m : Int) + 2 ≤ (n : Int) + 1 := by omega
      clear l8 l9 HNN
      have hdqd : Dgs wr.drew wr.drew.heap.size (some ⟨w2.heap.size, 0, none⟩) N qs := hdq
      have hdrd : Dgs wr.drew wr.drew.heap.size (some ⟨w.heap.size, 0, none⟩) (m + 2) (ys.take (m + 2)) := hdr
      have hN5 : N ≤ maxLen := by unfold maxLen; omega
      go_wp2
      go_region_with (first
        | (go_at_call 69; refine (trim_ret _ _ _ _ _ _ hdqd (Nat.le_refl _) hN5).mono ?_; rintro e w5 ⟨t, rfl, hd5, ht5, rfl⟩)
        | (go_at_call 103; refine (shiftRight_any _ _ _ _ _ _ hdrd hm6 hs1).mono ?_; rintro e w6 ⟨A6, n6, c6, rfl, hd6, hn6, hc6, hb6⟩)
        | fail)
      all_goals go_wp2_with fail
      all_goals go_ret2
      all_goals (rw [HEND.out.1] at hd5; rw [← HS.out, HEND.out.2] at hd6)
      all_goals exact RetQ.mk_ ((hd5.below hb6).more hb6.size) (Nat.le_refl _) (Nat.le_trans ht5 hN5) hd6 hn6 hc6 (bcall l10.drew hb6)
    · obtain ⟨j, rfl⟩ : ∃ j, k = j + 1 := ⟨k - 1, by omega⟩
      have ej : (((j + 1 : Nat) : Int) - 1) = (j : Int) := by omega
      rw [ej]
      clear ej
      have HG := Lib.hid (lg_guess HI HV0.out HVW.out t3 HVT.out)
      have HNN := HN.out
      have hgt := HG.out.1
      have c2 := HI.1.cell (j := j + (m + 2)) (by have := HI.2.1; omega)
      have c1 := HI.1.cell (j := j + (m + 1)) (by have := HI.2.1; omega)
      have c0 := HI.1.cell (j := j + m) (by have := HI.2.1; omega)
      have d1 := HI.2.2.2.1.cell (j := m + 1) (by omega)
      have d0 := HI.2.2.2.1.cell (j := m) (by omega)
      have b2 := HI.2.2.1.getD (j + (m + 2))
      have b1 := HI.2.2.1.getD (j + (m + 1))
      have b0 := HI.2.2.1.getD (j + m)
      have a1 := t3.getD (m + 1)
      have a0 := t3.getD m
      have hvt := HVT.out
      rw [BB_eq] at b2 b1 b0 a1 a0
      have KG := fun c c' => guessDigit_any w.heap.size w1.heap.size j m c c' _ _ _ _ _ _ c2 c1 c0 d1 d0 (by omega) b2 b1 b0 a1 a0 hvt hgt
      clear c2 c1 c0 d1 d0 b2 b1 b0 a1 a0 hvt hgt
      have hgl := HG.out.2.2.2
      obtain ⟨g, HGG⟩ : ∃ g : Nat, Hid (g = guessOf ((ys.getD (j + (m + 2)) 0 * 4294967296 + ys.getD (j + (m + 1)) 0) * BB + ys.getD (j + m) 0) (vs.getD (m + 1) 0 * BB + vs.getD m 0)) := ⟨_, rfl⟩
      rw [← HGG.out] at KG hgl
      have i0 : (0 : Int) ≤ (j : Int) := by omega
      have i1 : (j : Int) + ((m : Int) + 2) + 1 ≤ (n : Int) + 1 := by omega
      have hL3 : j + (m + 2) + 1 - j = m + 3 := by omega
      have hgq := HG.out.2.2.1
      rw [← HGG.out] at hgq
      have n21 : w1.heap.size ≠ w.heap.size := by omega
      have n31 : w2.heap.size ≠ w.heap.size := by omega
      have n23 : w1.heap.size ≠ w2.heap.size := by omega
      have hyl := HI.2.1
      have hvl : m + 2 ≤ vs.length := by omega
      have hmN : m + 2 ≤ 1000001 := by omega
      have hjy : j + (m + 2) < ys.length := by omega
      have HJ := fun (w' : World) (zs : List Nat) (hw : Only w.heap.size wr w') => lg_next (wr' := w') (ys := zs) (q := win ys j (m + 3) / V) HI HV0.out n31 n23 n21 (Nat.le_refl _) (by omega) hw
      have hfr := fun w' (hw : Only w.heap.size wr w') => (HI.2.2.2.2.1.of_block (hw.block _ n31)).frozen j
      have hst := fun w' (hw : Only w.heap.size wr w') => (HI.2.2.2.2.1.of_block (hw.block _ n31)).cell (j := j) (by simp; omega)
      obtain ⟨Q, HQ⟩ : ∃ Q : Nat, Hid (Q = win ys j (m + 3) / V) := ⟨_, rfl⟩
      rw [← HQ.out] at hgq HJ
      have hwin : win ys j (m + 3) = win ys j (m + 2) + BB ^ (m + 2) * ys.getD (j + (m + 2)) 0 := rfl
      have HYL := Lib.hid hyl
      clear HNN hyl
      have hwl : ∀ zs : List Nat, Dig zs → win zs j (m + 2) < BB ^ (m + 2) := fun zs hz => win_lt hz j _
      rcases hgq with hgq | hgq
      · have HGQ := Lib.hid hgq
        clear hgq
        go_wp2_with (first
          | (go_at_call 100; rw [hL3]; (with_reducible refine (KG _ _).mono ?_); rintro e w4 ⟨rfl, ⟨qd, rfl⟩⟩)
          | (go_at_call 101; (try rw [hL3]); refine (subProduct_any w.heap.size w1.heap.size j (m + 2) _ _ g ys vs (wr.drewN qd) (HI.1.drewN qd) (HI.2.2.2.1.drewN qd) n21 hvl hjy HI.2.2.1 t3 hmN hgl).mono ?_; rintro e w5 ⟨zs, cb, rfl, z1, z2, z3, z4, z5, z6⟩; have ZR := rest_right (N := win zs j (m + 2)) (o := win ys j (m + 2)) (c := cb) (u := ys.getD (j + (m + 2)) 0) (V := V) (P := win ys j (m + 3)) (M := BB ^ (m + 2)) (by rw [← HQ.out, ← HGQ.out]; rw [HVW.out]; exact z5) hwin (hwl zs z3) HV0.out (Nat.le_of_lt HVB.out.2); rw [decide_eq_false ZR.1]; have ZO : Only w.heap.size wr w5 := ((Only.refl _ wr).drewN qd).trans z6; have hfr5 := hfr w5 ZO; have hst5 := hst w5 ZO)
          | fail)
        go_roundw
        case rel => exact ⟨j, zs, Q :: qs, by omega, rfl, HJ w5 zs ZO z1 z2 z3 z4 trivial ZR.2 (by rw [HGQ.out])⟩
        case measure => simp [intOf]
      · have HGQ := Lib.hid hgq
        have hg1 : (1 : Int) ≤ (g : Int) := by rw [hgq]; omega
        clear hgq
        go_wp2_with (first
          | (go_at_call 100; rw [hL3]; (with_reducible refine (KG _ _).mono ?_); rintro e w4 ⟨rfl, ⟨qd, rfl⟩⟩)
          | (go_at_call 101; (try rw [hL3]); refine (subProduct_any w.heap.size w1.heap.size j (m + 2) _ _ g ys vs (wr.drewN qd) (HI.1.drewN qd) (HI.2.2.2.1.drewN qd) n21 hvl hjy HI.2.2.1 t3 hmN hgl).mono ?_; rintro e w5 ⟨zs, cb, rfl, z1, z2, z3, z4, z5, z6⟩; have ZR := rest_back (N := win zs j (m + 2)) (o := win ys j (m + 2)) (c := cb) (u := ys.getD (j + (m + 2)) 0) (V := V) (P := win ys j (m + 3)) (M := BB ^ (m + 2)) (by rw [← HQ.out, ← HGQ.out]; rw [HVW.out]; exact z5) hwin (hwl zs z3) HV0.out (Nat.le_of_lt HVB.out.2); rw [decide_eq_true ZR.1]; have ZO : Only w.heap.size wr w5 := ((Only.refl _ wr).drewN qd).trans z6)
          | (go_at_call 102; (try rw [hL3]); refine (addBack_any w.heap.size w1.heap.size j (m + 2) _ _ zs vs w5 z1 (HI.2.2.2.1.of_block (ZO.block _ n21)) n21 hvl (by rw [z2]; exact hjy) z3 t3 hmN).mono ?_; rintro e w6 ⟨zz, cc, rfl, y1, y2, y3, y4, y5, y6⟩; have YO : Only w.heap.size wr w6 := ZO.trans y6; have hfr6 := hfr w6 YO; have hst6 := hst w6 YO)
          | fail)
        go_roundw
        case rel =>
          refine ⟨j, zz, Q :: qs, by omega, rfl, HJ w6 zz YO y1 (by rw [y2, z2]) y3 (fun i hi => by rw [y4 i hi, z4 i hi]) trivial ?_ (by rw [HGQ.out]; omega)⟩
          rw [← ZR.2, HVW.out, ← y5, Nat.add_mul_mod_self_left, Nat.mod_eq_of_lt (hwl zz y3)]
        case measure => simp [intOf]

theorem digs_top {y k : Nat} (h : (digs y).length = k + 1) : 0 < (digs y).getD k 0 := by
  rcases Nat.eq_zero_or_pos ((digs y).getD k 0) with h0 | h0
  · have h1 := val_take_any (digs y) k
    rw [List.take_of_length_le (by omega), val_digs, h0, Nat.mul_zero, Nat.add_zero] at h1
    have h2 := val_lt ((dig_digs y).take k)
    rw [List.length_take, Nat.min_eq_left (by omega), ← h1] at h2
    have := digs_length_le h2
    omega
  · exact h0

theorem longOk (y : Nat) : LongOk y := by
  intro A A' n n' c c' x w h1 h2 _ _ _ _ hs h3 hxy
  obtain ⟨m, rfl⟩ : ∃ m, n' = m + 2 := ⟨n' - 2, by omega⟩
  have hl : (digs y).length ≤ (digs x).length := by
    rcases Nat.lt_or_ge (digs x).length (digs y).length with h | h
    · have := digs_len_lt h
      omega
    · exact h
  rw [h1.len, h2.len] at hl
  have := divLong_any A A' n m c c' (digs x) (digs y) w h1 h2 hs hl (digs_top h2.len)
  rwa [val_digs, val_digs] at this

section
variable {w w' : World} {neg neg' : Bool} {A A' : Option Addr} {n c n' c' : Nat} {x y : Int}
theorem divMod_at (h : IntAt w neg A n c x) (h' : IntAt w neg' A' n' c' y) : Calls Try.prog 47 #[.agg #[.bool neg, .slice A n c], .agg #[.bool neg', .slice A' n' c']] w (RetM w (dmQ x y) (dmR x y) (dmE y)) := by
  obtain ⟨ds, h1, h2, h3, rfl, h5⟩ := h
  obtain ⟨ds', h1', h2', h3', rfl, h5'⟩ := h'
  exact divMod_any neg neg' A A' n n' c c' ds ds' w h1 h1' h2 h3 h2' h3' h5 h5' (longOk _)
end

theorem euclid_sum (x : Int) {y : Int} (hy : y ≠ 0) : dmQ x y * y + dmR x y = x := by
  unfold dmQ dmR
  by_cases hp : 0 < y
  · simp only [hy, hp, if_true, if_false]
    rw [Int.mul_comm]
    exact Int.mul_ediv_add_emod x y
  · simp only [hy, hp, if_false]
    have h := Int.mul_ediv_add_emod (-x) (-y)
    have e : -x / -y * y = -(-y * (-x / -y)) := by rw [Int.neg_mul, Int.neg_neg, Int.mul_comm]
    rw [e]
    omega

/-- The remainder is 0 or has the divisor's sign, and is smaller. -/
theorem euclid_rest (x : Int) {y : Int} (hy : y ≠ 0) : (dmR x y = 0 ∨ sgn (dmR x y) = sgn y) ∧ (dmR x y).natAbs < y.natAbs := by
  unfold dmR
  by_cases hp : 0 < y
  · simp only [hy, hp, if_true, if_false]
    have h1 := Int.emod_nonneg x hy
    have h2 := Int.emod_lt_of_pos x hp
    generalize x % y = r at h1 h2 ⊢
    refine ⟨?_, by omega⟩
    by_cases h0 : r = 0
    · exact Or.inl h0
    · exact Or.inr (by rw [sgn, sgn, cmpI_gt (show (0 : Int) < r by omega), cmpI_gt hp])
  · simp only [hy, hp, if_false]
    have hn : 0 < -y := by omega
    have h1 := Int.emod_nonneg (-x) (show -y ≠ 0 by omega)
    have h2 := Int.emod_lt_of_pos (-x) hn
    generalize -x % -y = r at h1 h2 ⊢
    refine ⟨?_, by omega⟩
    by_cases h0 : r = 0
    · exact Or.inl (by omega)
    · exact Or.inr (by rw [sgn, sgn, cmpI_lt (show -r < (0 : Int) by omega), cmpI_lt (show y < (0 : Int) by omega)])

theorem dmQ_sz {x y : Int} {k : Nat} (h : Sz x k) : Sz (dmQ x y) (k + 1) := by
  by_cases hy : y = 0
  · unfold Sz; rw [(dm_zero x hy).1]; exact Nat.pow_pos BB_pos
  · have h1 := euclid_sum x hy
    have h2 := (euclid_rest x hy).2
    unfold Sz at *
    have e : BB ^ (k + 1) = BB ^ k * 4294967296 := by rw [Nat.pow_succ, BB_eq]
    rw [e]
    have h3 : (dmQ x y).natAbs * y.natAbs ≤ x.natAbs + (dmR x y).natAbs := by
      rw [← Int.natAbs_mul, show dmQ x y * y = x - dmR x y by omega]
      omega
    have h4 : (dmQ x y).natAbs * y.natAbs < (x.natAbs + 1) * y.natAbs := by
      have : x.natAbs * 1 ≤ x.natAbs * y.natAbs := Nat.mul_le_mul_left _ (by omega)
      rw [Nat.add_mul, Nat.one_mul]
      omega
    have := Nat.lt_of_mul_lt_mul_right h4
    omega
theorem dmR_sz {x y : Int} {k : Nat} (h : Sz y k) (hy : y ≠ 0) : Sz (dmR x y) k := by
  have h2 := (euclid_rest x hy).2
  unfold Sz at *
  omega
end Go.Proofs.Ytgjkgmlcfieodaa

