/-
  Lehmer's method: bits of a number, the greatest common divisor of two words, the leading bits.
  Lehmer's method: the steps that leading bits foresee.
  Lehmer's method: a combination of two numbers, digit by digit.
-/
import Derived.Test.YtgjkgmlcfieodaaRsmall
import Derived.Test.YtgjkgmlcfieodaaLongB
import Derived.Test.YtgjkgmlcfieodaaEucl
import Derived.Test.YtgjkgmlcfieodaaSt
set_option linter.unusedVariables false
set_option linter.unusedSimpArgs false
namespace Go.Proofs.Ytgjkgmlcfieodaa
open Go.RowKit

theorem lib_bitLen (x : Nat) (h0 : 0 < x) (hx : x < 18446744073709551616) : Lib.bitLen x = bl x := by
  have hB : 1 ≤ Lib.bitLen x ∧ 2 ^ (Lib.bitLen x - 1) ≤ x ∧ x < 2 ^ Lib.bitLen x := Lib.bitLenAux_bounds 64 x (by omega) (by omega)
  exact (bl_unique (by omega) hB.2.1 hB.2.2).symm
theorem len32_any (x : Nat) (h0 : 0 < x) (hx : x < 4294967296) (w : World) : Calls Try.prog 107 #[.int .u32 x] w fun e w' => e = .returned (.int .i64 (bl x : Nat)) ∧ w = w' := by
  have H := Any.bits_Len32 { bits_lays with } (x : Int) w (by omega) (by omega)
  rw [Int.toNat_natCast, lib_bitLen x h0 (by omega)] at H
  exact H.mono fun e w' ⟨h1, h2⟩ => ⟨h1, h2.symm⟩

set_option maxHeartbeats 1000000 in
set_option maxRecDepth 100000 in
theorem pbitLen_any (A : Option Addr) (n c B V : Nat) (w : World) (h : Dgs w B A n (digs V)) (hs : n ≤ 1000000) :
    Calls Try.prog 104 #[.slice A n c] w fun e w' => e = .returned (.int .i64 (bl V : Nat)) ∧ w = w' := by
  by_cases hn : n = 0
  · have HB : Hid (bl V = 0) := by rw [digs_nil (h.len.trans hn)]; rfl
    subst hn
    go_enter Try.func104, Try.ntmps104
    go_wp2
    go_ret
    exact ⟨ret_i1 (by rw [HB.out]; rfl), rfl⟩
  · obtain ⟨L, rfl⟩ : ∃ L, n = L + 1 := ⟨n - 1, by omega⟩
    have HT := Lib.hid (digs_topbl h.len)
    obtain ⟨b, off, rfl, _, hcell⟩ := h.at_ (by omega)
    have hx := hcell L (by omega)
    have hxl := h.dig.getD L
    rw [BB_eq] at hxl
    obtain ⟨x, HX⟩ : ∃ x, Hid (x = (digs V).getD L 0) := ⟨_, rfl⟩
    rw [← HX.out] at hx hxl HT
    have hx0 : 0 < x := Nat.pos_of_ne_zero HT.out.1
    have hbx := bl_le_of (k := 32) hxl
    obtain ⟨y, HY⟩ : ∃ y, Hid (bl x = y) := ⟨_, rfl⟩
    rw [HY.out] at hbx
    have HS : Hid ((bl V : Int) = 32 * (L : Int) + (y : Int)) := by unfold Hid; have := HT.out.2; have := HY.out; omega
    clear hcell h hn
    have i0 : (0 : Int) ≤ (L : Int) := by omega
    have hL : (L : Int) ≤ 1000000 := by omega
    go_enter Try.func104, Try.ntmps104
    go_wp2_with (go_at_call 107; (with_reducible refine (len32_any x hx0 hxl _).mono ?_); rw [HY.out]; rintro e w' ⟨rfl, rfl⟩)
    go_ret
    exact ⟨ret_i1 HS.out.symm, rfl⟩

set_option maxHeartbeats 1000000 in
set_option maxRecDepth 100000 in
theorem gcdWords_any (a b : Nat) (ha : a < 18446744073709551616) (hb : b < 18446744073709551616) (w : World) :
    Calls Try.prog 92 #[.int .u64 a, .int .u64 b] w fun e w' => e = .returned (.int .u64 (Nat.gcd a b : Nat)) ∧ Drew w w' := by
  obtain ⟨G, HG⟩ : ∃ G, Hid (Nat.gcd a b = G) := ⟨_, rfl⟩
  rw [HG.out]
  go_enter Try.func92, Try.ntmps92
  go_wp2
  go_loopw [0, 1] (fun xv yv wr => ∃ x y q : Nat, xv = .int .u64 x ∧ yv = .int .u64 y ∧ x < 18446744073709551616 ∧ y < 18446744073709551616 ∧ Hid (Nat.gcd x y = G) ∧ wr = w.drewN q) (fun _ yv _ => (intOf yv).toNat)
  case atStart => exact ⟨a, b, 0, rfl, rfl, ha, hb, HG, rfl⟩
  case round =>
    obtain ⟨x, y, q, rfl, rfl, hx, hy, HH, rfl⟩ := hrel
    by_cases h0 : y = 0
    · have HE : Hid (x = G) := by unfold Hid; rw [← HH.out, h0, Nat.gcd_zero_right]
      subst h0
      go_wp2
      go_ret
      exact ⟨ret_i1 (by rw [HE.out]), ⟨q, rfl⟩⟩
    · have hp : 0 < y := by omega
      have HN : Hid (Nat.gcd y (x % y) = G ∧ x % y < y) := by
        refine ⟨?_, Nat.mod_lt _ hp⟩
        rw [← HH.out, Nat.gcd_comm x y]
        exact (Nat.gcd_rec y x ▸ Nat.gcd_comm _ _)
      go_wp2
      go_quiet (fail)
      go_wp2
      go_roundw
      case rel => exact ⟨y, x % y, _, rfl, by go_num, hy, by have := HN.out.2; omega, HN.out.1, World.drewN_drewN _ _ _⟩
      case measure => simp [intOf]; have := HN.out.2; omega

theorem ld_or (v d k : Nat) (hv : v < 2 ^ k) (hs : v + d * 2 ^ k < 4611686018427387904) : bits .or .u64 (v : Int) (IntKind.u64.wrap ((d : Int) * 2 ^ k)) = ((v + d * 2 ^ k : Nat) : Int) := by
  have e : (d : Int) * 2 ^ k = ((d * 2 ^ k : Nat) : Int) := by rw [Int.natCast_mul, Int.natCast_pow]; rfl
  have hm := Nat.mul_mod_left d (2 ^ k)
  rw [e, u64_in' _ (by omega)]
  generalize d * 2 ^ k = y at hm hs ⊢
  rw [u64_or_nat _ _ (by omega) (by omega), Nat.or_comm, nat_join k _ _ hm hv, Nat.add_comm]

/-- One more digit above what has been read. -/
theorem ld_step {W r j d : Nat} (hW : W < BB ^ j) (hr : r < 32) (hj : 0 < j) : (W + BB ^ j * d) / 2 ^ r = W / 2 ^ r + d * 2 ^ (32 * j - r) ∧ W / 2 ^ r < 2 ^ (32 * j - r) := by
  have e : BB ^ j = 2 ^ r * 2 ^ (32 * j - r) := by rw [BB_pow, ← Nat.pow_add]; congr 1; omega
  have hp : 0 < 2 ^ r := Nat.pow_pos (by omega)
  constructor
  · rw [e, Nat.mul_assoc, Nat.add_mul_div_left _ _ hp, Nat.mul_comm d]
  · rw [Nat.div_lt_iff_lt_mul hp, Nat.mul_comm, ← e]; exact hW

theorem val_drop_take (ds : List Nat) (low j : Nat) : val ((ds.drop low).take (j + 1)) = val ((ds.drop low).take j) + BB ^ j * ds.getD (low + j) 0 := by
  rw [val_take_any]
  congr 2
  simp [List.getD]

theorem val_cutat (ds : List Nat) (low : Nat) (h : low ≤ ds.length) : val ds = val (ds.take low) + BB ^ low * val (ds.drop low) := by
  conv => lhs; rw [← List.take_append_drop low ds]
  rw [val_append, List.length_take, Nat.min_eq_left h]
theorem val_div_low {ds : List Nat} (hd : Dig ds) (low r : Nat) (h : low ≤ ds.length) : val ds / 2 ^ (32 * low + r) = val (ds.drop low) / 2 ^ r := by
  rw [Nat.pow_add, ← BB_pow, ← Nat.div_div_eq_div_mul, val_cutat ds low h, Nat.add_mul_div_left _ _ (Nat.pow_pos BB_pos), Nat.div_eq_of_lt (val_take_lt hd low h), Nat.zero_add]

set_option maxHeartbeats 2000000 in
set_option maxRecDepth 100000 in
theorem leading_bits (A : Option Addr) (n c B V drop : Nat) (w : World) (h : Dgs w B A n (digs V)) (hs : n ≤ 1000000) (hd : drop ≤ 40000000) (hV : V / 2 ^ drop < 4611686018427387904) :
    Calls Try.prog 105 #[.slice A n c, .int .i64 drop] w fun e w' => e = .returned (.int .i64 (V / 2 ^ drop : Nat)) ∧ w = w' := by
  obtain ⟨low, Hl⟩ : ∃ low, low = drop / 32 := ⟨_, rfl⟩
  obtain ⟨r, Hr⟩ : ∃ r, r = drop % 32 := ⟨_, rfl⟩
  have el : (drop : Int) / 32 = (low : Int) := by omega
  have er : (drop : Int) % 32 = (r : Int) := by omega
  have hr31 : r < 32 := by omega
  have hlow : low ≤ 1250000 := by omega
  have HDR : Hid (drop = 32 * low + r) := by unfold Hid; omega
  have HL := Lib.hid h.len
  clear Hl Hr
  by_cases hln : n ≤ low
  · have HZ : Hid (V / 2 ^ drop = 0) := by
      apply Nat.div_eq_of_lt
      have h1 := lt_pow_digs V
      rw [HL.out] at h1
      refine Nat.lt_of_lt_of_le h1 ?_
      rw [BB_pow]
      exact Nat.pow_le_pow_right (by omega) (by have := HDR.out; omega)
    have hi : (n : Int) ≤ (low : Int) := by omega
    go_enter Try.func105, Try.ntmps105
    go_wp2
    go_ret
    exact ⟨ret_i1 (by rw [HZ.out]; rfl), rfl⟩
  · obtain ⟨b, off, rfl, _, hcell⟩ := h.at_ (by omega)
    have HD := Lib.hid h.dig
    have HVD : Hid (V / 2 ^ drop = val ((digs V).drop low) / 2 ^ r) := by
      have := val_div_low (dig_digs V) low r (by have := HL.out; omega)
      rw [val_digs, ← HDR.out] at this
      exact this
    have HVL := Lib.hid hV
    have HTOP : Hid (32 * (n - 1) < drop + 62) := by
      unfold Hid
      rcases Nat.lt_or_ge (32 * (n - 1)) (drop + 62) with h1 | h1
      · exact h1
      · have h2 : ¬ V < BB ^ (n - 1) := fun h3 => by
          have := digs_length_le h3
          rw [HL.out] at this
          omega
        have h3 : 2 ^ (drop + 62) ≤ BB ^ (n - 1) := by rw [BB_pow]; exact Nat.pow_le_pow_right (by omega) h1
        have h4 : 4611686018427387904 ≤ V / 2 ^ drop := by
          rw [Nat.le_div_iff_mul_le (Nat.pow_pos (by omega)), show 4611686018427387904 = 2 ^ 62 from rfl, ← Nat.pow_add, Nat.add_comm]
          omega
        omega
    have hx := hcell low (by omega)
    have hxl := h.dig.getD low
    rw [BB_eq] at hxl
    obtain ⟨x, HX⟩ : ∃ x, Hid (x = (digs V).getD low 0) := ⟨_, rfl⟩
    rw [← HX.out] at hx hxl
    have i0 : (0 : Int) ≤ (low : Int) := by omega
    have i1 : (low : Int) < (n : Int) := by omega
    have HC := Lib.hid hcell
    clear hcell h hV hln
    go_enter Try.func105, Try.ntmps105
    go_wp2
    have HX0 : Hid (x / 2 ^ r = val (((digs V).drop low).take 1) / 2 ^ r) := by
      unfold Hid
      have := val_drop_take (digs V) low 0
      have e : (digs V).getD (low + 0) 0 = x := by rw [Nat.add_zero]; exact HX.out.symm
      rw [e, Nat.pow_zero, Nat.one_mul] at this
      rw [this]; simp [val]
    go_loop [7, 8] (fun v i => ∃ j u : Nat, 0 < j ∧ low + j ≤ n ∧ i = .int .i64 ((low : Int) + (j : Int)) ∧ v = .int .u64 u ∧ Hid (u = val (((digs V).drop low).take j) / 2 ^ r)) (fun _ i => n - (intOf i).toNat)
    case atStart => exact ⟨1, x / 2 ^ r, by omega, by omega, rfl, by go_num, HX0⟩
    case round =>
      clear HX0
      obtain ⟨j, u, hj, hjn, rfl, rfl, HU⟩ := hrel
      by_cases hlt : low + j < n
      · have hy := HC.out (low + j) hlt
        have hyl := HD.out.getD (low + j)
        rw [BB_eq] at hyl
        obtain ⟨y, HY⟩ : ∃ y, Hid (y = (digs V).getD (low + j) 0) := ⟨_, rfl⟩
        rw [← HY.out] at hy hyl
        have hlen : ((digs V).drop low).length = n - low := by rw [List.length_drop, HL.out]
        have HST := Lib.hid (ld_step (W := val (((digs V).drop low).take j)) (r := r) (j := j) (d := y) (val_take_lt (HD.out.drop low) j (by omega)) hr31 hj)
        have hle : val (((digs V).drop low).take (j + 1)) ≤ val ((digs V).drop low) := by
          have := val_cutat ((digs V).drop low) (j + 1) (by omega)
          omega
        have HNX : Hid (u + y * 2 ^ (32 * j - r) = val (((digs V).drop low).take (j + 1)) / 2 ^ r) := by
          unfold Hid
          rw [val_drop_take, ← HY.out, HST.out.1, HU.out]
        have hsum : u + y * 2 ^ (32 * j - r) < 4611686018427387904 := by
          rw [HNX.out]
          have := Nat.div_le_div_right (c := 2 ^ r) hle
          have := HVL.out
          rw [HVD.out] at this
          omega
        have HOR := Lib.hid (ld_or u y (32 * j - r) (by rw [HU.out]; exact HST.out.2) hsum)
        obtain ⟨t, HT⟩ : ∃ t, Hid (u + y * 2 ^ (32 * j - r) = t) := ⟨_, rfl⟩
        rw [HT.out] at hsum HOR HNX
        clear hlen hle
        obtain ⟨k, hk⟩ : ∃ k, k = 32 * j - r := ⟨_, rfl⟩
        rw [← hk] at HOR
        have ek : 32 * (j : Int) - (r : Int) = (k : Int) := by omega
        have ea : (low : Int) + (j : Int) - (low : Int) = (j : Int) := by omega
        have i2 : (low : Int) + (j : Int) < (n : Int) := by omega
        have hk5 : k ≤ 100000000 := by omega
        have hmin : min k 64 = k := Nat.min_eq_left (by have := HTOP.out; have := HDR.out; omega)
        have i3 : (j : Int) ≤ 1000000 := by omega
        clear hk

        go_wp2
        go_round
        case rel => exact ⟨j + 1, t, by omega, by omega, by go_num, int_val HOR.out, HNX⟩
        case measure => simp [intOf]; omega
      · have HE : Hid (V / 2 ^ drop = u) := by
          unfold Hid
          rw [HVD.out, HU.out, List.take_of_length_le (by rw [List.length_drop, HL.out]; omega)]
        have hul : u < 4611686018427387904 := by rw [← HE.out]; exact HVL.out
        have i2 : ¬ (low : Int) + (j : Int) < (n : Int) := by omega
        go_wp2
        go_ret
        exact ⟨ret_i1 (congrArg Nat.cast HE.out.symm), rfl⟩

/-- What foreseen steps are worth. -/
def FoP (A B a b c d : Int) : Prop :=
  ((0 ≤ a ∧ b ≤ 0 ∧ c ≤ 0 ∧ 0 ≤ d) ∨ (a ≤ 0 ∧ 0 ≤ b ∧ 0 ≤ c ∧ d ≤ 0)) ∧
    (-2147483648 < a ∧ a < 2147483648 ∧ -2147483648 < b ∧ b < 2147483648 ∧ -2147483648 < c ∧ c < 2147483648 ∧ -2147483648 < d ∧ d < 2147483648) ∧
    (0 ≤ c * A + d * B ∧ c * A + d * B ≤ a * A + b * B ∧ a * A + b * B ≤ A ∧ c * A + d * B ≤ B ∧ (b ≠ 0 → c * A + d * B < B) ∧ Int.gcd (a * A + b * B) (c * A + d * B) = Int.gcd A B)
theorem FoI.p {A B X Y x y a b c d : Int} (h : FoI A B X Y x y a b c d) : FoP A B a b c d := by
  obtain ⟨_, _, h3, h4, _, h6⟩ := h
  exact ⟨by omega, h4, h6⟩
def RetFo (w : World) (A B : Int) (e : Ending) (w' : World) : Prop :=
  ∃ a b c d : Int, e = .returned (.agg #[.int .i64 a, .int .i64 b, .int .i64 c, .int .i64 d]) ∧ FoP A B a b c d ∧ Below w.heap.size w w'

/-- The head of the loop. -/
def FoW (w wr : World) (A B X Y x y a b c d : Int) : Prop :=
  FoI A B X Y x y a b c d ∧ OwnL wr (w.heap.size + 1) 87 [.int .i64 a, .int .i64 b, .int .i64 c, .int .i64 d] ∧ OwnL wr w.heap.size 87 [.int .i64 0, .int .i64 0, .int .i64 0, .int .i64 0] ∧ Below w.heap.size w wr

set_option maxHeartbeats 4000000 in
set_option maxRecDepth 100000 in
theorem foresee_any (A A' : Option Addr) (n n' c c' V U : Nat) (w : World) (h : Dgs w w.heap.size A n (digs V)) (h' : Dgs w w.heap.size A' n' (digs U)) (hs : n ≤ 1000000) (hs' : n' ≤ 1000000) (hn : 3 ≤ n) (hUV : U ≤ V) :
    Calls Try.prog 90 #[.slice A n c, .slice A' n' c'] w (RetFo w V U) := by
  obtain ⟨ba, HBA⟩ : ∃ v, Hid (bl V = v) := ⟨_, rfl⟩
  have hV0 : V ≠ 0 := by intro h0; have := h.len; rw [h0, digs_zero] at this; simp at this; omega
  have hba : 65 ≤ ba := by
    rw [← HBA.out]
    obtain ⟨L, rfl⟩ : ∃ L, n = L + 1 := ⟨n - 1, by omega⟩
    have := (digs_topbl h.len).2
    have := bl_pos (digs_topbl h.len).1
    omega
  have hbb : ba ≤ 32000000 := by
    rw [← HBA.out]
    have h1 := lt_pow_digs V
    rw [h.len, BB_pow] at h1
    exact Nat.le_trans (bl_le_of h1) (by omega)
  obtain ⟨drop, Hd⟩ : ∃ d, d = ba - 62 := ⟨_, rfl⟩
  have ed : (ba : Int) - 62 = (drop : Int) := by omega
  have hdr : drop ≤ 40000000 := by omega
  have hX : V / 2 ^ drop < 4611686018427387904 ∧ 2305843009213693952 ≤ V / 2 ^ drop := by
    have h1 := lt_bl V
    have h2 := bl_le hV0
    rw [HBA.out] at h1 h2
    constructor
    · rw [Nat.div_lt_iff_lt_mul (Nat.pow_pos (by omega)), show 4611686018427387904 = 2 ^ 62 from rfl, ← Nat.pow_add, show 62 + drop = ba by omega]; exact h1
    · rw [Nat.le_div_iff_mul_le (Nat.pow_pos (by omega)), show 2305843009213693952 = 2 ^ 61 from rfl, ← Nat.pow_add, show 61 + drop = ba - 1 by omega]; exact h2
  have hY : U / 2 ^ drop ≤ V / 2 ^ drop := Nat.div_le_div_right hUV
  have HVM := Lib.hid (Nat.div_add_mod V (2 ^ drop))
  have HUM := Lib.hid (Nat.div_add_mod U (2 ^ drop))
  have HVL := Lib.hid (Nat.mod_lt V (Nat.pow_pos (n := drop) (show 0 < 2 by omega)))
  have HUL := Lib.hid (Nat.mod_lt U (Nat.pow_pos (n := drop) (show 0 < 2 by omega)))
  have HD := Lib.hid (Nat.pow_pos (n := drop) (show 0 < 2 by omega))
  have hblV := fun w' hd => pbitLen_any A n c w'.heap.size V w' hd hs
  rw [HBA.out] at hblV
  have hl1 := fun w' hd => leading_bits A n c w'.heap.size V drop w' hd hs hdr hX.1
  have hl2 := fun w' hd => leading_bits A' n' c' w'.heap.size U drop w' hd hs' hdr (by omega)
  obtain ⟨X, HX⟩ : ∃ v, Hid (V / 2 ^ drop = v) := ⟨_, rfl⟩
  obtain ⟨Y, HY⟩ : ∃ v, Hid (U / 2 ^ drop = v) := ⟨_, rfl⟩
  obtain ⟨D, HDD⟩ : ∃ v : Nat, Hid (v = 2 ^ drop) := ⟨2 ^ drop, rfl⟩
  rw [HX.out] at hX hY hl1
  rw [HY.out] at hY hl2
  rw [HX.out, ← HDD.out] at HVM
  rw [HY.out, ← HDD.out] at HUM
  rw [← HDD.out] at HVL HUL HD
  have hb0 := bnew w (.cells #[.int .i64 0, .int .i64 0, .int .i64 0, .int .i64 0] 87)
  have hda := (h.below hb0).more hb0.size
  have hdb := (h'.below hb0).more hb0.size
  have HI0 : FoW w ((w.alloc (.cells #[.int .i64 0, .int .i64 0, .int .i64 0, .int .i64 0] 87)).alloc (.cells #[.int .i64 1, .int .i64 0, .int .i64 0, .int .i64 1] 87)) V U X Y X Y 1 0 0 1 := by
    refine ⟨FoI.start (by omega) (by omega) (by omega) (by omega) (by omega) (by omega), ?_, (OwnL.new _ _ _).alloc _, bnew2 _ _ _⟩
    have := OwnL.new (w.alloc (.cells #[.int .i64 0, .int .i64 0, .int .i64 0, .int .i64 0] 87)) 87 [.int .i64 1, .int .i64 0, .int .i64 0, .int .i64 1]
    rwa [World.size_alloc] at this
  have HI := Lib.hid HI0
  have HXX := Lib.hid hX
  have HYX := Lib.hid hY
  clear Hd HI0 h h' hV0 hba hbb hX hY hb0
  go_enter Try.func90, Try.ntmps90
  go_wp2_with (first
    | (go_at_call 104; (with_reducible refine (hblV _ hda).mono ?_); rintro e w' ⟨rfl, rfl⟩)
    | (go_at_call_of 105 (Value.slice A n c); (with_reducible refine (hl1 _ hda).mono ?_); rintro e w' ⟨rfl, rfl⟩)
    | (go_at_call_of 105 (Value.slice A' n' c'); (with_reducible refine (hl2 _ hdb).mono ?_); rintro e w' ⟨rfl, rfl⟩)
    | fail)
  clear hblV hl1 hl2 hda hdb
  go_loopw [6, 7] (fun xv yv wr => ∃ x y a b c d : Int, xv = .int .i64 x ∧ yv = .int .i64 y ∧ FoW w wr V U X Y x y a b c d) (fun _ yv _ => (intOf yv).toNat)
  case atStart => exact ⟨X, Y, 1, 0, 0, 1, rfl, rfl, HI.out⟩
  case round =>
    clear HI
    obtain ⟨x, y, a, b, c0, d, rfl, rfl, hF, hO, hZ, hB⟩ := hrel
    have HP := Lib.hid hF.p
    have HF := Lib.hid hF
    obtain ⟨-, -, hpat, ⟨b1, b2, b3, b4, b5, b6, b7, b8⟩, ⟨k1, k2, k3, k4, k5, k6, k7, k8⟩, -⟩ := hF
    obtain ⟨q0, q1, q2, q3⟩ := hO.cells
    obtain ⟨f0, f1, f2, f3⟩ := hO.free
    obtain ⟨r0, r1, r2, r3⟩ := hZ.cells
    obtain ⟨g0, g1, g2, g3⟩ := hZ.free
    have hend : ∀ w' : World, OwnL w' w.heap.size 87 [.int .i64 a, .int .i64 b, .int .i64 c0, .int .i64 d] → Below w.heap.size w w' → RetFo w V U (.returned (.agg #[.int .i64 a, .int .i64 b, .int .i64 c0, .int .i64 d])) w' := fun w' _ hb => ⟨a, b, c0, d, rfl, HP.out, hb⟩
    have HZE := Lib.hid ((((hZ.set 0 (.int .i64 a)).set 1 (.int .i64 b)).set 2 (.int .i64 c0)).set 3 (.int .i64 d))
    have HBE := Lib.hid ((((hB.setCell (p := ⟨w.heap.size, 0, none⟩) (Nat.le_refl _) (.int .i64 a)).setCell (p := ⟨w.heap.size, 1, none⟩) (Nat.le_refl _) (.int .i64 b)).setCell (p := ⟨w.heap.size, 2, none⟩) (Nat.le_refl _) (.int .i64 c0)).setCell (p := ⟨w.heap.size, 3, none⟩) (Nat.le_refl _) (.int .i64 d))
    by_cases h1 : y + c0 = 0
    · clear hpat
      go_wp2
      have HZ2 := HZE.out
      have HB2 := HBE.out
      simp only [List.set] at HZ2
      generalize (((wr.setCell ⟨w.heap.size, 0, none⟩ (.int .i64 a)).setCell ⟨w.heap.size, 1, none⟩ (.int .i64 b)).setCell ⟨w.heap.size, 2, none⟩ (.int .i64 c0)).setCell ⟨w.heap.size, 3, none⟩ (.int .i64 d) = W9 at HZ2 HB2 ⊢
      obtain ⟨t0, t1, t2, t3⟩ := HZ2.cells
      exact bodyPost_ret (v := .agg #[.int .i64 a, .int .i64 b, .int .i64 c0, .int .i64 d]) (by simp [results, Try.results90, go_sem, t0, t1, t2, t3]) rfl (hend _ HZ2 HB2)
    · by_cases h2 : y + d = 0
      · clear hpat
        go_wp2
        have HZ2 := HZE.out
        have HB2 := HBE.out
        simp only [List.set] at HZ2
        generalize (((wr.setCell ⟨w.heap.size, 0, none⟩ (.int .i64 a)).setCell ⟨w.heap.size, 1, none⟩ (.int .i64 b)).setCell ⟨w.heap.size, 2, none⟩ (.int .i64 c0)).setCell ⟨w.heap.size, 3, none⟩ (.int .i64 d) = W9 at HZ2 HB2 ⊢
        obtain ⟨t0, t1, t2, t3⟩ := HZ2.cells
        exact bodyPost_ret (v := .agg #[.int .i64 a, .int .i64 b, .int .i64 c0, .int .i64 d]) (by simp [results, Try.results90, go_sem, t0, t1, t2, t3]) rfl (hend _ HZ2 HB2)
      · have k9 : 0 < y + c0 := by omega
        have k10 : 0 < y + d := by omega
        have hb1 : (y + c0 != 0) = true := by simpa using h1
        have hb2 : (y + d != 0) = true := by simpa using h2
        obtain ⟨q, hq⟩ : ∃ v, (x + a) / (y + c0) = v := ⟨_, rfl⟩
        obtain ⟨p, hq2⟩ : ∃ v, (x + b) / (y + d) = v := ⟨_, rfl⟩
        by_cases hqq : q = p
        · have HST : Hid (FoI V U X Y y (x - q * y) c0 d (a - q * c0) (b - q * d) ∧ x - q * y < y ∧ 0 ≤ q ∧ q ≤ x + a ∧ 0 ≤ q * y ∧ q * y ≤ x ∧ -4294967296 < q * c0 ∧ q * c0 < 4294967296 ∧ -4294967296 < q * d ∧ q * d < 4294967296) := by
            have hA : (V : Int) = (D : Int) * (X : Int) + ((V % D : Nat) : Int) := by have := HVM.out; exact_mod_cast this.symm
            have hB : (U : Int) = (D : Int) * (Y : Int) + ((U % D : Nat) : Int) := by have := HUM.out; exact_mod_cast this.symm
            have h3 := HVL.out
            have h4 := HUL.out
            have h5 := HD.out
            have h6 := HXX.out
            have h7 := HYX.out
            exact HF.out.step hA hB (by omega) (by omega) (by omega) (by omega) (by omega) (by omega) (by omega) h1 h2 hq (by rw [hq2, hqq])
          subst hqq
          obtain ⟨pc, hpc⟩ : ∃ v, q * c0 = v := ⟨_, rfl⟩
          obtain ⟨pd, hpd⟩ : ∃ v, q * d = v := ⟨_, rfl⟩
          obtain ⟨py, hpy⟩ : ∃ v, q * y = v := ⟨_, rfl⟩
          rw [hpc, hpd, hpy] at HST
          obtain ⟨l1, l2, l3, l4, l5, l6, l7, l8, l9⟩ := HST.out.2
          have HNB := HST.out.1
          have hNP := HNB.2.2.2.2.1.2.2.2.2.2.2.1
          have HNB := Lib.hid HNB
          have HN1 := Lib.hid l1
          have HN2 := Lib.hid hNP
          have hO2 := Lib.hid (((((hO.alloc (.cells #[.int .i64 (a - pc), .int .i64 (b - pd)] 85)).set 0 (.int .i64 c0)).set 1 (.int .i64 d)).set 2 (.int .i64 (a - pc))).set 3 (.int .i64 (b - pd)))
          have hZ2 := Lib.hid (((((hZ.alloc (.cells #[.int .i64 (a - pc), .int .i64 (b - pd)] 85)).far (p := ⟨w.heap.size + 1, 0, none⟩) (by simp) (.int .i64 c0)).far (p := ⟨w.heap.size + 1, 1, none⟩) (by simp) (.int .i64 d)).far (p := ⟨w.heap.size + 1, 2, none⟩) (by simp) (.int .i64 (a - pc))).far (p := ⟨w.heap.size + 1, 3, none⟩) (by simp) (.int .i64 (b - pd)))
          have hBN := Lib.hid (((((hB.alloc hB.size (.cells #[.int .i64 (a - pc), .int .i64 (b - pd)] 85)).setCell (p := ⟨w.heap.size + 1, 0, none⟩) (by simp) (.int .i64 c0)).setCell (p := ⟨w.heap.size + 1, 1, none⟩) (by simp) (.int .i64 d)).setCell (p := ⟨w.heap.size + 1, 2, none⟩) (by simp) (.int .i64 (a - pc))).setCell (p := ⟨w.heap.size + 1, 3, none⟩) (by simp) (.int .i64 (b - pd)))
          obtain ⟨q4, q5, q6, q7⟩ := (hO.alloc (.cells #[.int .i64 (a - pc), .int .i64 (b - pd)] 85)).cells
          obtain ⟨f4, f5, f6, f7⟩ := (hO.alloc (.cells #[.int .i64 (a - pc), .int .i64 (b - pd)] 85)).free
          clear hpat HST HF HZE HBE hend hNP g0 g1 g2 g3 r0 r1 r2 r3
          go_wp2
          go_roundw
          case rel => exact ⟨y, x - py, c0, d, a - pc, b - pd, rfl, rfl, HNB.out, by simpa using hO2.out, hZ2.out, hBN.out⟩
          case measure => (simp [intOf]; have := HN1.out; have := HN2.out; omega)
        · have hqb : (q != p) = true := by simpa using hqq
          clear hpat
          go_wp2
          have HZ2 := HZE.out
          have HB2 := HBE.out
          simp only [List.set] at HZ2
          generalize (((wr.setCell ⟨w.heap.size, 0, none⟩ (.int .i64 a)).setCell ⟨w.heap.size, 1, none⟩ (.int .i64 b)).setCell ⟨w.heap.size, 2, none⟩ (.int .i64 c0)).setCell ⟨w.heap.size, 3, none⟩ (.int .i64 d) = W9 at HZ2 HB2 ⊢
          obtain ⟨t0, t1, t2, t3⟩ := HZ2.cells
          exact bodyPost_ret (v := .agg #[.int .i64 a, .int .i64 b, .int .i64 c0, .int .i64 d]) (by simp [results, Try.results90, go_sem, t0, t1, t2, t3]) rfl (hend _ HZ2 HB2)

/-- What holds of the row that is being filled. -/
def CbI (w wr : World) (n k : Nat) (a b cy : Int) (va vb : Nat) (xs : List Nat) : Prop :=
  Row wr (w.heap.size + 1) (xs ++ List.replicate (n - k) 0) ∧ xs.length = k ∧ Dig xs ∧ (val xs : Int) + (BB ^ k : Nat) * cy = a * va + b * vb ∧ OwnL wr w.heap.size 85 [.int .i64 a, .int .i64 b] ∧ Below w.heap.size w wr
theorem CbI.drewN {w wr : World} {n k : Nat} {a b cy : Int} {va vb : Nat} {xs : List Nat} (h : CbI w wr n k a b cy va vb xs) (q : Nat) : CbI w (wr.drewN q) n k a b cy va vb xs := ⟨h.1.drewN q, h.2.1, h.2.2.1, h.2.2.2.1, h.2.2.2.2.1, bdrewN h.2.2.2.2.2 q⟩

theorem cb_arith (p s cy a b : Int) (d v x y va vb B : Int) (h : v + p * cy = a * va + b * vb) (hs : s = cy + a * x + b * y) (hd : d = s % B) :
    v + p * d + p * B * (s / B) = a * (va + p * x) + b * (vb + p * y) := by
  have h1 : p * d + p * B * (s / B) = p * s := by
    rw [Int.mul_assoc, ← Int.mul_add, hd, Int.emod_add_mul_ediv]
  have h2 : p * s = p * cy + a * (p * x) + b * (p * y) := by
    rw [hs, Int.mul_add, Int.mul_add, show p * (a * x) = a * (p * x) by rw [← Int.mul_assoc, Int.mul_comm p, Int.mul_assoc], show p * (b * y) = b * (p * y) by rw [← Int.mul_assoc, Int.mul_comm p, Int.mul_assoc]]
  rw [Int.mul_add, Int.mul_add]
  omega

theorem cb_step {w wr : World} {n k x y : Nat} {a b cy s : Int} {xa xb xs : List Nat} (h : CbI w wr n k a b cy (val (xa.take k)) (val (xb.take k)) xs) (hk : k < n) (hx : x = xa.getD k 0) (hy : y = xb.getD k 0) (hs : s = cy + a * x + b * y) {v : Int} (hv : v = s % 4294967296) :
    CbI w (wr.setCell ⟨w.heap.size + 1, k, none⟩ (.int .u32 v)) n (k + 1) a b (s / 4294967296) (val (xa.take (k + 1))) (val (xb.take (k + 1))) (xs ++ [(s % 4294967296).toNat]) := by
  obtain ⟨h1, h2, h3, h4, h6, h5⟩ := h
  have hm0 := Int.emod_nonneg s (show (4294967296 : Int) ≠ 0 by omega)
  have hm1 := Int.emod_lt_of_pos s (show (0 : Int) < 4294967296 by omega)
  have hvv : v = (((s % 4294967296).toNat : Nat) : Int) := by rw [hv]; omega
  rw [hvv]
  refine ⟨?_, by simp [h2], h3.append (Dig.cons (by rw [BB_eq]; omega) Dig.nil), ?_, h6.far (by simp) _, h5.setCell (p := ⟨w.heap.size + 1, k, none⟩) (by simp) _⟩
  · have e : n - k = (n - (k + 1)) + 1 := by omega
    rw [e] at h1
    have := h1.set k (s % 4294967296).toNat
    rwa [← h2, set_zeros, h2] at this
  · rw [val_snoc, h2, val_take_any, val_take_any, ← hx, ← hy, Nat.pow_succ]
    have := cb_arith ((BB ^ k : Nat) : Int) s cy a b ((s % 4294967296).toNat : Int) (val xs : Int) x y (val (xa.take k)) (val (xb.take k)) 4294967296 h4 hs (by omega)
    rw [Int.natCast_add, Int.natCast_mul, Int.natCast_add, Int.natCast_mul, Int.natCast_add, Int.natCast_mul, Int.natCast_mul, show ((BB : Nat) : Int) = 4294967296 from rfl]
    exact this

/-- Bounds of a product of a factor and a digit. -/
theorem cb_mul {a : Int} {x : Nat} (h1 : -2147483648 < a) (h2 : a < 2147483648) (hx : x < 4294967296) :
    -9223372030412324865 ≤ a * x ∧ a * x ≤ 9223372030412324865 ∧ (0 ≤ a → 0 ≤ a * x) ∧ (a ≤ 0 → a * x ≤ 0) := by
  have hxn : (0 : Int) ≤ (x : Int) := by omega
  refine ⟨?_, ?_, fun h => Int.mul_nonneg h hxn, fun h => Int.mul_nonpos_of_nonpos_of_nonneg h hxn⟩
  · have h3 : (-2147483647) * (x : Int) ≤ a * x := Int.mul_le_mul_of_nonneg_right (by omega) hxn
    omega
  · have h3 : a * (x : Int) ≤ 2147483647 * x := Int.mul_le_mul_of_nonneg_right (by omega) hxn
    omega

theorem cb_last {n : Nat} {a b cy : Int} {V U : Nat} {xs : List Nat} (hl : xs.length = n) (hd : Dig xs) (h : (val xs : Int) + (BB ^ n : Nat) * cy = a * V + b * U) (h0 : 0 ≤ a * (V : Int) + b * U) (h1 : a * (V : Int) + b * U ≤ V) (hV : V < BB ^ n) :
    ((val xs : Nat) : Int) = a * V + b * U := by
  have hx := val_lt hd
  rw [hl] at hx
  have hp : 0 < ((BB ^ n : Nat) : Int) := by have := Nat.pow_pos (n := n) BB_pos; omega
  generalize BB ^ n = P at *
  rcases Int.lt_trichotomy cy 0 with hc | hc | hc
  · have : (P : Int) * cy ≤ P * (-1) := Int.mul_le_mul_of_nonneg_left (by omega) (by omega)
    omega
  · subst hc; omega
  · have : (P : Int) * 1 ≤ P * cy := Int.mul_le_mul_of_nonneg_left (by omega) (by omega)
    omega

set_option maxHeartbeats 4000000 in
set_option maxRecDepth 100000 in
theorem combine_any (A A' : Option Addr) (n n' c c' V U : Nat) (a b R : Int) (w : World) (h : Dgs w w.heap.size A n (digs V)) (h' : Dgs w w.heap.size A' n' (digs U)) (hs : n ≤ 1000000) (hs' : n' ≤ 1000000) (hUV : U ≤ V)
    (ha1 : -2147483648 < a) (ha2 : a < 2147483648) (hb1 : -2147483648 < b) (hb2 : b < 2147483648) (hsg : (0 ≤ a ∧ b ≤ 0) ∨ (a ≤ 0 ∧ 0 ≤ b)) (hR : R = a * V + b * U) (hR0 : 0 ≤ R) (hRV : R ≤ V) :
    Calls Try.prog 91 #[.agg #[.int .i64 a, .int .i64 b], .slice A n c, .slice A' n' c'] w (RetD w R.toNat) := by
  have hmk := run_make_row' (P := Try.prog) 22 69 (.int .u32 0) 4 Try.underlying22 u32_info rfl .i64 .i64 n (by omega) (by omega)
  have HL := Lib.hid h.len
  have HL' := Lib.hid h'.len
  have hnn : n' ≤ n := by
    have h1 := digs_mono hUV
    rw [h.len, h'.len] at h1
    exact h1
  have HR := Lib.hid hR
  have HR0 := Lib.hid hR0
  have HRV := Lib.hid hRV
  have hb0 := bnew w (.cells #[.int .i64 a, .int .i64 b] 85)
  have hO : OwnL (w.alloc (.cells #[.int .i64 a, .int .i64 b] 85)) w.heap.size 85 [.int .i64 a, .int .i64 b] := OwnL.new _ _ _
  clear hR hR0 hRV
  go_enter Try.func91, Try.ntmps91
  go_wp2
  clear hmk
  have H0 : CbI w ((w.alloc (.cells #[.int .i64 a, .int .i64 b] 85)).alloc (.cells (madeCells #[.int .u32 0] n) 69)) n 0 a b 0 (val ((digs V).take 0)) (val ((digs U).take 0)) [] := by
    refine ⟨?_, rfl, Dig.nil, by simp [val], hO.alloc _, bnew2 _ _ _⟩
    have := Row.made (w.alloc (.cells #[.int .i64 a, .int .i64 b] 85)) n
    simpa using this
  clear hO hb0
  go_loopw [8, 16] (fun cv i wr => ∃ (k : Nat) (cy : Int) (xs : List Nat), k ≤ n ∧ -2147483648 ≤ cy ∧ cy < 2147483648 ∧ i = .int .i64 k ∧ cv = .int .i64 cy ∧ CbI w wr n k a b cy (val ((digs V).take k)) (val ((digs U).take k)) xs) (fun _ i _ => n - (intOf i).toNat)
  case atStart => exact ⟨0, 0, [], Nat.zero_le _, by omega, by omega, rfl, rfl, H0⟩
  case round =>
    clear H0
    obtain ⟨k, cy, xs, hk, hc1, hc2, rfl, rfl, HI⟩ := hrel
    have hB := HI.2.2.2.2.2
    have hO := HI.2.2.2.2.1
    obtain ⟨q0, q1⟩ := hO.cells
    have hda := h.below hB
    have hdb := h'.below hB
    by_cases hkn : k < n
    · have hlen : (xs ++ List.replicate (n - k) 0).length = n := by simp [HI.2.1]; omega
      have hstore := HI.1.cell (j := k) (by rw [hlen]; omega)
      have hfr := HI.1.frozen k
      obtain ⟨b0, off, hA, _, hcell⟩ := hda.at_ (by omega)
      subst hA
      have hx := hcell k hkn
      have hxl := h.dig.getD k
      rw [BB_eq] at hxl
      obtain ⟨x, HX⟩ : ∃ x, Hid (x = (digs V).getD k 0) := ⟨_, rfl⟩
      rw [← HX.out] at hx hxl
      have i0 : (0 : Int) ≤ (k : Int) := by omega
      have i1 : (k : Int) < (n : Int) := by omega
      have hma := cb_mul ha1 ha2 hxl
      obtain ⟨pa, hpa⟩ : ∃ v, a * (x : Int) = v := ⟨_, rfl⟩
      rw [hpa] at hma
      obtain ⟨m1, m2, m3, m4⟩ := hma
      clear hcell hda hlen hB hO
      by_cases hkm : k < n'
      · obtain ⟨b', off', hA, _, hcell⟩ := hdb.at_ (by omega)
        subst hA
        have hy := hcell k hkm
        have hyl := h'.dig.getD k
        rw [BB_eq] at hyl
        obtain ⟨y, HY⟩ : ∃ y, Hid (y = (digs U).getD k 0) := ⟨_, rfl⟩
        rw [← HY.out] at hy hyl
        have i3 : (k : Int) < (n' : Int) := by omega
        have hmb := cb_mul hb1 hb2 hyl
        obtain ⟨pb, hpb⟩ : ∃ v, b * (y : Int) = v := ⟨_, rfl⟩
        rw [hpb] at hmb
        obtain ⟨m5, m6, m7, m8⟩ := hmb
        have r1 : -9223372034707292161 ≤ cy + pa + pb ∧ cy + pa + pb ≤ 9223372034707292160 := by
          rcases hsg with ⟨s1, s2⟩ | ⟨s1, s2⟩
          · have := m3 s1; have := m8 s2; omega
          · have := m4 s1; have := m7 s2; omega
        obtain ⟨s, hs⟩ : ∃ s, cy + pa + pb = s := ⟨_, rfl⟩
        rw [hs] at r1
        obtain ⟨r2, r3⟩ := r1
        have w1 : IntKind.i64.wrap (b * (y : Int)) = pb := by rw [hpb]; exact IntWalk.i64_in _ (by omega)
        have w2 : IntKind.i64.wrap (cy + pa + pb) = s := by rw [hs]; exact IntWalk.i64_in _ (by omega)
        have HSS : Hid (s = cy + a * x + b * y) := by unfold Hid; rw [hpa, hpb, hs]
        clear hcell hdb m3 m4 m7 m8 hsg
        have HId := fun q => HI.drewN q
        go_wp2
        go_quiet (fail)
        clear w1 w2
        go_wp2
        go_roundw
        case rel => exact ⟨k + 1, s / 4294967296, _, by omega, by omega, by omega, by go_num, rfl, cb_step (HId _) hkn HX.out HY.out HSS.out rfl⟩
        case measure => simp [intOf]; omega
      · have HY : Hid (0 = (digs U).getD k 0) := (getD_beyond (by rw [HL'.out]; omega)).symm
        have r1 : -9223372034707292161 ≤ cy + pa ∧ cy + pa ≤ 9223372034707292160 := by omega
        obtain ⟨s, hs⟩ : ∃ s, cy + pa = s := ⟨_, rfl⟩
        rw [hs] at r1
        obtain ⟨r2, r3⟩ := r1
        have HSS : Hid (s = cy + a * x + b * ((0 : Nat) : Int)) := by unfold Hid; rw [hpa]; simp; omega
        clear hdb m3 m4 hsg
        go_wp2
        go_roundw
        case rel => exact ⟨k + 1, s / 4294967296, _, by omega, by omega, by omega, by go_num, rfl, cb_step HI hkn HX.out HY.out HSS.out rfl⟩
        case measure => simp [intOf]; omega
    · obtain rfl : k = n := by omega
      obtain ⟨f1, f2, f3, f4, f5, f6⟩ := HI
      rw [List.take_of_length_le (by rw [HL.out]; omega), List.take_of_length_le (by rw [HL'.out]; omega), val_digs, val_digs] at f4
      have hVB := lt_pow_digs V
      rw [HL.out] at hVB
      have hfin := cb_last f2 f3 f4 (by rw [← HR.out]; exact HR0.out) (by rw [← HR.out]; exact HRV.out) hVB
      rw [← HR.out] at hfin
      have HV : Hid (val xs = R.toNat) := by unfold Hid; omega
      rw [Nat.sub_self, List.replicate_zero, List.append_nil] at f1
      have hd := f1.dgs f3
      rw [f2] at hd
      clear hda hdb f4 hfin hVB hsg q0 q1 hO
      go_wp2_with (go_at_call 69; (with_reducible refine (trim_ret _ _ _ _ _ _ hd (Nat.le_refl _) (by unfold maxLen; omega)).mono ?_); rintro e w2 ⟨t, rfl, hd2, ht2, rfl⟩)
      go_ret
      rw [HV.out] at hd2
      exact RetD.mk_ hd2 (Nat.le_refl _) (by unfold maxLen; omega) hB
end Go.Proofs.Ytgjkgmlcfieodaa

