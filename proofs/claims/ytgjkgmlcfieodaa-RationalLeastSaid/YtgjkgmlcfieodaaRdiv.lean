/-
  The reference's division of digits, bit by bit.
-/
import Derived.Test.YtgjkgmlcfieodaaRsmall
import Derived.Test.YtgjkgmlcfieodaaLongB
set_option linter.unusedVariables false
set_option linter.unusedSimpArgs false
namespace Go.Proofs.Ytgjkgmlcfieodaa
open Go.RowKit

/-- Digits that lie outside of block g. -/
def DgA (w : World) (g : Nat) (A : Option Addr) (n : Nat) (ds : List Nat) : Prop := Dgs w w.heap.size A n ds ∧ (0 < n → ∀ a, A = some a → a.block ≠ g)
section
variable {w w' : World} {g n : Nat} {A : Option Addr} {ds : List Nat}
theorem DgA.call (h : DgA w g A n ds) (hb : Below w.heap.size w w') : DgA w' g A n ds := ⟨(h.1.below hb).more hb.size, h.2⟩
theorem DgA.only (h : DgA w g A n ds) (ho : Only g w w') : DgA w' g A n ds := by
  refine ⟨⟨h.1.1, h.1.2.1, fun hn => ?_⟩, h.2⟩
  obtain ⟨b, off, e, hb, hc⟩ := h.1.2.2 hn
  refine ⟨b, off, e, by rw [ho.size]; exact hb, fun j hj => ?_⟩
  rw [ho.cell (by have := h.2 hn _ e; exact this)]
  exact hc j hj
theorem DgA.new {b : Nat} (h : Dgs w w.heap.size (some ⟨b, 0, none⟩) n ds) (hb : b ≠ g) : DgA w g (some ⟨b, 0, none⟩) n ds :=
  ⟨h, fun _ a e => by cases e; exact hb⟩
end

/-- The numbers of the loop, k rounds being left. -/
def DvN (X Y k Q R D : Nat) : Prop := X = Q * Y + R ∧ R < Y * 2 ^ k ∧ 2 ^ k ∣ Q ∧ D = Y * 2 ^ k / 2

theorem DvN.start {X Y : Nat} (hY : Y ≠ 0) (h : bl Y ≤ bl X) : DvN X Y (bl X - bl Y + 1) 0 X (Y * 2 ^ (bl X - bl Y)) := by
  refine ⟨by omega, ?_, Nat.dvd_zero _, ?_⟩
  · have h1 := lt_bl X
    have h2 := bl_le hY
    have h3 := bl_pos hY
    have h4 : 2 ^ bl X = 2 ^ (bl Y - 1) * 2 ^ (bl X - bl Y + 1) := by rw [← Nat.pow_add]; congr 1; omega
    have := Nat.mul_le_mul_right (2 ^ (bl X - bl Y + 1)) h2
    omega
  · rw [Nat.pow_succ, ← Nat.mul_assoc, Nat.mul_div_cancel _ (by omega)]
theorem DvN.yes {X Y j Q R D : Nat} (h : DvN X Y (j + 1) Q R D) (hD : D ≤ R) : DvN X Y j (Q + 2 ^ j) (R - D) (D / 2) := by
  obtain ⟨h1, h2, h3, h4⟩ := h
  have e : D = Y * 2 ^ j := by rw [h4, Nat.pow_succ, ← Nat.mul_assoc, Nat.mul_div_cancel _ (by omega)]
  rw [Nat.pow_succ, ← Nat.mul_assoc, ← e] at h2
  refine ⟨?_, by rw [← e]; omega, ?_, by rw [e]⟩
  · rw [Nat.add_mul, Nat.mul_comm (2 ^ j), ← e]; omega
  · exact Nat.dvd_add (Nat.dvd_trans (Nat.pow_dvd_pow 2 (by omega)) h3) (Nat.dvd_refl _)
theorem DvN.no {X Y j Q R D : Nat} (h : DvN X Y (j + 1) Q R D) (hD : R < D) : DvN X Y j Q R (D / 2) := by
  obtain ⟨h1, h2, h3, h4⟩ := h
  have e : D = Y * 2 ^ j := by rw [h4, Nat.pow_succ, ← Nat.mul_assoc, Nat.mul_div_cancel _ (by omega)]
  exact ⟨h1, by rw [← e]; exact hD, Nat.dvd_trans (Nat.pow_dvd_pow 2 (by omega)) h3, by rw [e]⟩
theorem DvN.last {X Y Q R D : Nat} (h : DvN X Y 0 Q R D) : X / Y = Q ∧ X % Y = R := by
  obtain ⟨h1, h2, _, _⟩ := h
  rw [Nat.pow_zero, Nat.mul_one] at h2
  have hY : 0 < Y := by omega
  rw [h1]
  constructor
  · rw [Nat.add_comm, Nat.mul_comm, Nat.add_mul_div_left _ _ hY, Nat.div_eq_of_lt h2]; omega
  · rw [Nat.add_comm, Nat.mul_comm, Nat.add_mul_mod_self_left, Nat.mod_eq_of_lt h2]
theorem DvN.dle {X Y N k Q R D : Nat} (h : DvN X Y k Q R D) (hk : k ≤ N + 1) : D ≤ Y * 2 ^ N := by
  have h4 := h.2.2.2
  have h5 : Y * 2 ^ k ≤ Y * 2 ^ (N + 1) := Nat.mul_le_mul_left Y (Nat.pow_le_pow_right (by omega) hk)
  rw [Nat.pow_succ, ← Nat.mul_assoc] at h5
  omega
theorem DvN.le {X Y k Q R D : Nat} (h : DvN X Y k Q R D) : R ≤ X := by have := h.1; have := Nat.zero_le (Q * Y); omega
/-- The digit that is to be changed. -/
theorem dv_digit {Q j m s z : Nat} {zs : List Nat} (hQ : val zs = Q) (hz : z = zs.getD m 0) (hd : Dig zs) (hm : m < zs.length) (hj : j = 32 * m + s) (hs : s < 32) (h : 2 ^ (j + 1) ∣ Q) :
    2 ^ (s + 1) ∣ z ∧ z + 2 ^ s < BB ∧ BB ^ m * 2 ^ s = 2 ^ j := by
  have e1 : 2 ^ (j + 1) = BB ^ m * 2 ^ (s + 1) := by rw [BB_pow, ← Nat.pow_add]; congr 1; omega
  have hzl := hd.getD m
  rw [← hz] at hzl
  have h1 : val zs = val (zs.take m) + BB ^ m * val (zs.drop m) := by
    conv => lhs; rw [← List.take_append_drop m zs]
    rw [val_append, List.length_take, Nat.min_eq_left (by omega)]
  have h2 := val_drop zs m
  rw [← hz] at h2
  have hlt := val_take_lt hd m (by omega)
  obtain ⟨a, ha⟩ := h
  rw [e1] at ha
  have h0 : val (zs.take m) = 0 := by
    have : BB ^ m ∣ val (zs.take m) := by
      have e : val (zs.take m) = Q - BB ^ m * val (zs.drop m) := by omega
      rw [e, ha]
      exact Nat.dvd_sub (by rw [Nat.mul_assoc]; exact Nat.dvd_mul_right _ _) (Nat.dvd_mul_right _ _)
    exact Nat.eq_zero_of_dvd_of_lt this hlt
  have hp : 0 < BB ^ m := Nat.pow_pos BB_pos
  have h3 : val (zs.drop m) = 2 ^ (s + 1) * a := by
    apply Nat.eq_of_mul_eq_mul_left hp
    rw [← Nat.mul_assoc, ← ha]; omega
  have hB : BB = 2 ^ (s + 1) * 2 ^ (31 - s) := by rw [← Nat.pow_add, show s + 1 + (31 - s) = 32 by omega]; rfl
  have h4 : 2 ^ (s + 1) ∣ z := by
    have e : z = val (zs.drop m) - BB * val (zs.drop (m + 1)) := by omega
    rw [e, h3]
    refine Nat.dvd_sub (Nat.dvd_mul_right _ _) ?_
    rw [hB, Nat.mul_assoc]; exact Nat.dvd_mul_right _ _
  refine ⟨h4, ?_, by rw [BB_pow, ← Nat.pow_add]; congr 1; omega⟩
  obtain ⟨q, hq⟩ := h4
  rw [hq] at hzl ⊢
  rw [hB] at hzl ⊢
  have h5 : q < 2 ^ (31 - s) := Nat.lt_of_mul_lt_mul_left hzl
  have h6 : 2 ^ (s + 1) * (q + 1) ≤ 2 ^ (s + 1) * 2 ^ (31 - s) := Nat.mul_le_mul_left (2 ^ (s + 1)) h5
  rw [Nat.mul_add] at h6
  have : 2 ^ (s + 1) = 2 ^ s * 2 := Nat.pow_succ _ _
  have := Nat.pow_pos (n := s) (show 0 < 2 by omega)
  omega

/-- Nothing is appended to nil. -/
theorem run_append_nothing {P : Program} {w : World} (t ty e : TypeId) (i : TypeInfo) (ht : P.underlying t = some (.slice e)) (hi : P.info? e = some i) (A : Option Addr) (c : Nat) :
    (Builtin.append_ #[t, t] ty #[.slice none 0 0, .slice A 0 c]).run P w = .ok (.slice none 0 0) w := by
  cases A <;> simp [Builtin.append_, run_underlying ht, sizeOf, typeInfo, hi, Builtin.lenOf, Builtin.firstCells, loadCells, loadCellsFrom]
theorem wpList_append_nothing {P : Program} {w : World} {ops : Array Oper} {rest : List Oper} {o : Oper} {a : Act} {Q : Exit → Act → World → Prop} (hgd : o.guard = none) (s x : Operand) (t : TypeId)
    (ho : o.op = .call { callee := .builtin .append, args := #[s, x], argTypes := #[t, t] }) (e : TypeId) (i : TypeInfo) (ht : P.underlying t = some (.slice e)) (hi : P.info? e = some i)
    (A : Option Addr) (c : Nat) (hs : a.eval s = .slice none 0 0) (hx : a.eval x = .slice A 0 c)
    (h : wpList P ops Q rest (a.put o.dst (.slice none 0 0)) w) : wpList P ops Q (o :: rest) a w := by
  refine wpList_plain hgd fun K hK => ?_
  have hrun := run_append_nothing (P := P) (w := w) t o.type e i ht hi A c
  unfold Oper.wp
  simp [execOp, ho, resolve, invoke, builtin, hs, hx, hrun, Result.andThen]
  exact hK _ _ h

theorem dgsN {w : World} {B n : Nat} {A : Option Addr} {ds : List Nat} (h : Dgs w B A n ds) {k : Nat} (hk : val ds < BB ^ k) (hd : ds = digs (val ds)) : n ≤ k := by
  rw [← h.len, hd]; exact digs_length_le hk

/-- The head of the loop, k rounds being left. -/
def DvI (w wr : World) (gq X Y N k : Nat) (Ar : Option Addr) (nr cr : Nat) (Ad : Option Addr) (nd cd : Nat) : Prop :=
  ∃ Q R D zs, DvN X Y k Q R D ∧ Row wr gq zs ∧ zs.length = N / 32 + 1 ∧ Dig zs ∧ val zs = Q ∧ DgA wr gq Ar nr (digs R) ∧ DgA wr gq Ad nd (digs D) ∧ nr ≤ cr ∧ cr ≤ maxLen ∧ nd ≤ cd ∧ cd ≤ maxLen ∧ w.heap.size ≤ gq ∧ Below w.heap.size w wr

set_option maxHeartbeats 4000000 in
set_option maxRecDepth 100000 in
theorem rdivDigits_any (A A' : Option Addr) (n n' c c' : Nat) (da db : List Nat) (w : World) (h : Dgs w w.heap.size A n da) (h' : Dgs w w.heap.size A' n' db) (hc : n ≤ c) (hm : c ≤ maxLen) (hc' : n' ≤ c') (hm' : c' ≤ maxLen) (hs : n ≤ 100000) (hs' : n' ≤ 100000) (hy : val db ≠ 0) :
    Calls Try.prog 80 #[.slice A n c, .slice A' n' c'] w (RetQ w (val da / val db) (val da % val db)) := by
  obtain ⟨i0, hi, hz0, hz1, hz2⟩ := info_parts u32_info
  have hXn : val da < BB ^ n := by rw [← h.len]; exact val_lt h.dig
  obtain ⟨X, HX⟩ : ∃ X, Hid (X = val da) := ⟨_, rfl⟩
  obtain ⟨Y, HY⟩ : ∃ Y, Hid (Y = val db) := ⟨_, rfl⟩
  have hbla := fun w' hd => rbitLen_any A n c w'.heap.size da w' hd hc hm (by omega)
  have hblb := fun w' hd => rbitLen_any A' n' c' w'.heap.size db w' hd hc' hm' (by omega)
  rw [← HX.out] at hbla hXn
  rw [← HY.out] at hblb hy
  rw [← HX.out, ← HY.out]
  have HXn := Lib.hid hXn
  have HYY := Lib.hid hy
  obtain ⟨ba, HBA⟩ : ∃ v, Hid (bl X = v) := ⟨_, rfl⟩
  obtain ⟨bb, HBB⟩ : ∃ v, Hid (bl Y = v) := ⟨_, rfl⟩
  rw [HBA.out] at hbla
  rw [HBB.out] at hblb
  have hba : ba ≤ 3200000 := by rw [← HBA.out]; exact Nat.le_trans (bl_le_of (k := 32 * n) (by rw [← BB_pow]; exact hXn)) (by omega)
  have hbb0 : 0 < bb := by rw [← HBB.out]; exact bl_pos hy
  have hbb : bb ≤ 3200000 := by
    have hYn : Y < BB ^ n' := by rw [HY.out, ← h'.len]; exact val_lt h'.dig
    rw [← HBB.out]; exact Nat.le_trans (bl_le_of (k := 32 * n') (by rw [← BB_pow]; exact hYn)) (by omega)
  clear hXn hy
  by_cases hX0 : X = 0
  · have HX0 := Lib.hid hX0
    have hba0 : ba = 0 := by rw [← HBA.out, hX0]; rfl
    subst hba0
    clear hX0
    go_enter Try.func80, Try.ntmps80
    go_wp2_with (first
      | (go_at_call 79; (with_reducible refine (rtrim_ret A n c _ da _ h hc hm).mono ?_); rintro e w1 ⟨t, rfl, hd, ht, rfl⟩; rw [← HX.out, HX0.out, digs_zero] at hd; obtain rfl : t = 0 := hd.len.symm)
      | (at_builtin; refine wpList_append_nothing rfl _ _ 22 rfl 69 i0 Try.underlying22 hi A c (by rfl) (by rfl) ?_)
      | (go_at_call_of 93 (Value.slice A n c); (with_reducible refine (hbla _ h).mono ?_); rintro e w1 ⟨rfl, rfl⟩)
      | (go_at_call_of 93 (Value.slice A' n' c'); (with_reducible refine (hblb _ h').mono ?_); rintro e w1 ⟨rfl, rfl⟩)
      | fail)
    go_ret2
    rw [HX0.out, Nat.zero_div, Nat.zero_mod]
    exact RetQ.mk_ (by rw [digs_zero]; exact Dgs.none_) (Nat.le_refl _) (Nat.zero_le _) (by rw [digs_zero]; exact Dgs.none_) (Nat.le_refl _) (Nat.zero_le _) (Below.refl _ _)
  · have HP := digs_pos_len hX0
    have HX0 := Lib.hid hX0
    clear hX0
    by_cases hlt : ba < bb
    · have HE : Hid (X / Y = 0 ∧ X % Y = X) := by
        have h1 := lt_bl X
        have h2 := bl_le HYY.out
        rw [HBA.out] at h1
        rw [HBB.out] at h2
        have h3 : 2 ^ ba ≤ 2 ^ (bb - 1) := Nat.pow_le_pow_right (by omega) (by omega)
        have h4 : X < Y := by omega
        exact ⟨Nat.div_eq_of_lt h4, Nat.mod_eq_of_lt h4⟩
      have i1 : (ba : Int) - (bb : Int) < 0 := by omega
      go_enter Try.func80, Try.ntmps80
      go_wp2_with (first
        | (go_at_call 79; (with_reducible refine (rtrim_ret A n c _ da _ h hc hm).mono ?_); rintro e w0 ⟨t, rfl, hd, ht, rfl⟩; rw [← HX.out] at hd; obtain ⟨k, rfl⟩ : ∃ k, t = k + 1 := ⟨t - 1, by have := hd.len; omega⟩; obtain ⟨b, off, rfl, hbb1, hcell⟩ := hd.at_ (Nat.succ_pos _); clear hcell)
        | (at_builtin; refine wpList_append_lies _ rfl _ _ 22 rfl w.heap.size 69 i0 (.int .u32 0) 1 4 Try.underlying22 hi hz0 hz1 hz2 rfl (by omega) (.slice none 0 0) 0 [] (by rfl) (World.ownsRow_nil _ _ _ _) ⟨b, off, none⟩ (k + 1) c (dcells (digs X)) (by rfl) (by rw [dcells_length, hd.len]; omega) hd.news (dcells_one _) (Nat.succ_pos _) (by unfold maxLen; omega) (by omega) (Nat.le_refl _) _ rfl ?_; intro g cap w1 hown hg hat hlt1; simp only [Nat.zero_add, List.nil_append] at hown; have hB1 : Below w.heap.size w w1 := (Below.refl _ _).grown hg (Nat.le_refl _) (fun k hk => by simp [Value.ownBlock] at hk))
        | (go_at_call_of 93 (Value.slice (some ⟨b, off, none⟩) n c); (with_reducible refine (hbla _ ((h.below hB1).more hB1.size)).mono ?_); rintro e w2 ⟨rfl, rfl⟩)
        | (go_at_call_of 93 (Value.slice A' n' c'); (with_reducible refine (hblb _ ((h'.below hB1).more hB1.size)).mono ?_); rintro e w3 ⟨rfl, rfl⟩)
        | fail)
      go_ret2
      have hd1 := Dgs.of_own hown hd.dig
      rw [HE.out.1, HE.out.2]
      exact RetQ.mk_ (by rw [digs_zero]; exact Dgs.none_) (Nat.le_refl _) (Nat.zero_le _) hd1 (World.ownsRow.le hown).1 (World.ownsRow.le hown).2 hB1
    · obtain ⟨N, HN⟩ : ∃ N, N = ba - bb := ⟨_, rfl⟩
      have en : (ba : Int) - (bb : Int) = (N : Int) := by omega
      have HNN := Lib.hid HN
      obtain ⟨M, hM⟩ : ∃ M, M = N / 32 := ⟨_, rfl⟩
      have em : (N : Int) / 32 = (M : Int) := by omega
      have HMM := Lib.hid hM
      have hN5 : N ≤ 3200000 := by omega
      have hM5 : M ≤ 100000 := by omega
      have HLE : Hid (bb ≤ ba) := by unfold Hid; omega
      clear HN hM hlt
      have hmk := run_make_row' (P := Try.prog) 22 69 (.int .u32 0) 4 Try.underlying22 u32_info rfl .i64 .i64 (M + 1) (by omega) (by omega)
      have ec : ((M + 1 : Nat) : Int) = (M : Int) + 1 := by omega
      rw [ec] at hmk
      clear ec
      go_enter Try.func80, Try.ntmps80
      go_wp2_with (first
        | (go_at_call 79; (with_reducible refine (rtrim_ret A n c _ da _ h hc hm).mono ?_); rintro e w0 ⟨t, rfl, hd, ht, rfl⟩; rw [← HX.out] at hd; obtain ⟨k, rfl⟩ : ∃ k, t = k + 1 := ⟨t - 1, by have := hd.len; omega⟩; obtain ⟨b, off, rfl, hbb1, hcell⟩ := hd.at_ (Nat.succ_pos _); clear hcell)
        | (at_builtin; refine wpList_append_lies _ rfl _ _ 22 rfl w.heap.size 69 i0 (.int .u32 0) 1 4 Try.underlying22 hi hz0 hz1 hz2 rfl (by omega) (.slice none 0 0) 0 [] (by rfl) (World.ownsRow_nil _ _ _ _) ⟨b, off, none⟩ (k + 1) c (dcells (digs X)) (by rfl) (by rw [dcells_length, hd.len]; omega) hd.news (dcells_one _) (Nat.succ_pos _) (by unfold maxLen; omega) (by omega) (Nat.le_refl _) _ rfl ?_; intro g cap w1 hown hg hat hlt1; simp only [Nat.zero_add, List.nil_append] at hown; have hB1 : Below w.heap.size w w1 := (Below.refl _ _).grown hg (Nat.le_refl _) (fun k hk => by simp [Value.ownBlock] at hk))
        | (go_at_call_of 93 (Value.slice (some ⟨b, off, none⟩) n c); (with_reducible refine (hbla _ ((h.below hB1).more hB1.size)).mono ?_); rintro e w2 ⟨rfl, rfl⟩)
        | (go_at_call_of 93 (Value.slice A' n' c'); (with_reducible refine (hblb _ ((h'.below hB1).more hB1.size)).mono ?_); rintro e w3 ⟨rfl, rfl⟩; have hB2 : Below w.heap.size w (w1.alloc (.cells (madeCells #[.int .u32 0] (M + 1)) 69)) := hB1.alloc hB1.size _; have hd2 := (h'.below hB2).more hB2.size)
        | (go_at_call 94; (with_reducible refine (rshift_any A' n' c' N db _ hd2 hs' hN5).mono ?_); rw [← HY.out]; rintro e w4 ⟨nd, cd, rfl, hdd, hnd, hcd, hB4⟩)
        | fail)
      have H0 : DvI w w4 w1.heap.size X Y N (N + 1) (some ⟨g, 0, none⟩) (k + 1) cap (some ⟨w1.heap.size + 1, 0, none⟩) nd cd := by
        have hb14 : Below w1.heap.size w1 w4 := bcall (bnew w1 _) hB4
        refine ⟨0, X, Y * 2 ^ N, List.replicate (M + 1) 0, ?_, (Row.made w1 (M + 1)).below hB4, by rw [List.length_replicate, HMM.out], dig_zeros _, val_zeros _, DgA.call (DgA.new (Dgs.of_own hown hd.dig) (Nat.ne_of_lt hlt1)) hb14, DgA.new (by simpa using hdd) (by omega), (World.ownsRow.le hown).1, (World.ownsRow.le hown).2, hnd, hcd, hB1.size, bcall hB1 hb14⟩
        have := DvN.start (X := X) HYY.out (by rw [HBA.out, HBB.out]; exact HLE.out)
        rwa [HBA.out, HBB.out, ← HNN.out] at this
      have HDn : Hid (∀ D, D ≤ Y * 2 ^ N → (digs D).length ≤ 100000) := by
        intro D hD
        refine Nat.le_trans (digs_length_le (k := n) ?_) hs
        have h1 := lt_bl Y
        rw [HBB.out] at h1
        have h2 : Y * 2 ^ N < 2 ^ bb * 2 ^ N := Nat.mul_lt_mul_of_pos_right h1 (Nat.pow_pos (by omega))
        rw [← Nat.pow_add, show bb + N = ba by have := HNN.out; have := HLE.out; omega] at h2
        have h3 : 2 ^ ba ≤ BB ^ n := by
          rw [BB_pow]; refine Nat.pow_le_pow_right (by omega) ?_
          rw [← HBA.out]; exact bl_le_of (by rw [← BB_pow]; exact HXn.out)
        omega
      have HRn : Hid (∀ R, R ≤ X → (digs R).length ≤ 100000) := by
        intro R hR
        exact Nat.le_trans (digs_length_le (k := n) (Nat.lt_of_le_of_lt hR HXn.out)) hs
      clear hmk hd hdd hown hg hat hlt1 hB1 hB2 hd2 hB4 h hbla hblb hbb1 HP h'
      generalize w1.heap.size = gq at H0 ⊢
      go_loopw [6, 9, 10] (fun rv dv iv wr => ∃ (k : Nat) (Ar : Option Addr) (nr cr : Nat) (Ad : Option Addr) (nd cd : Nat), k ≤ N + 1 ∧ iv = .int .i64 ((k : Int) - 1) ∧ rv = .slice Ar nr cr ∧ dv = .slice Ad nd cd ∧ DvI w wr gq X Y N k Ar nr cr Ad nd cd) (fun _ _ iv _ => (intOf iv + 1).toNat)
      case atStart => exact ⟨N + 1, _, _, _, _, _, _, Nat.le_refl _, int_val (by omega), rfl, rfl, H0⟩
      case round =>
        clear H0
        obtain ⟨k, Ar, nr, cr, Ad, nd, cd, hk, rfl, rfl, rfl, Q, R, D, zs, hv, hrow, hlen, hdig, hval, hr, hd, l1, l2, l3, l4, hgq, hB⟩ := hrel
        by_cases hk0 : k = 0
        · subst hk0
          have HE := Lib.hid hv.last
          have hdq := hrow.dgs hdig
          rw [hlen, ← HMM.out] at hdq
          have HV := Lib.hid hval
          clear hv hrow hdig hval hd hlen
          go_wp2_with (first
            | (go_at_call 79; (with_reducible refine (rtrim_ret _ _ _ _ _ _ hdq (Nat.le_refl _) (by unfold maxLen; omega)).mono ?_); rintro e w5 ⟨t, rfl, hd5, ht5, rfl⟩)
            | fail)
          go_ret2
          rw [HV.out, ← HE.out.1] at hd5
          have hr1 := hr.1
          rw [← HE.out.2] at hr1
          exact RetQ.mk_ hd5 ht5 (by unfold maxLen; omega) hr1 l1 l2 hB
        · obtain ⟨j, rfl⟩ : ∃ j, k = j + 1 := ⟨k - 1, by omega⟩
          have ej : (((j + 1 : Nat) : Int) - 1) = (j : Int) := by omega
          rw [ej]
          clear ej hk0
          have hnr : nr ≤ 1000000 := by rw [← hr.1.len]; exact Nat.le_trans (HRn.out R hv.le) (by omega)
          have hnd : nd ≤ 1000000 := by rw [← hd.1.len]; exact Nat.le_trans (HDn.out D (hv.dle hk)) (by omega)
          have hcmp := rcompareDigits_any Ar Ad nr nd cr cd _ _ (digs R) (digs D) wr hr.1 hd.1 l1 l2 l3 l4
          rw [val_digs, val_digs] at hcmp
          have hr1 := hr.1
          have hd1 := hd.1
          have j0 : (0 : Int) ≤ (j : Int) := by omega
          obtain ⟨m, Hm⟩ : ∃ m, m = j / 32 := ⟨_, rfl⟩
          obtain ⟨s, Hs⟩ : ∃ s, s = j % 32 := ⟨_, rfl⟩
          have em2 : (j : Int) / 32 = (m : Int) := by omega
          have es2 : (j : Int) % 32 = (s : Int) := by omega
          have hs31 : s ≤ 31 := by omega
          have hmM : m < M + 1 := by have := HMM.out; omega
          by_cases hDR : D ≤ R
          · have HV : Hid (0 ≤ cmpI (R : Int) D) := by unfold Hid cmpI; split <;> (try split) <;> omega
            obtain ⟨v, HVV⟩ : ∃ v, Hid (cmpI (R : Int) D = v) := ⟨_, rfl⟩
            have hv0 : 0 ≤ v := by rw [← HVV.out]; exact HV.out
            rw [HVV.out] at hcmp
            obtain ⟨z, HZ⟩ : ∃ z, Hid (z = zs.getD m 0) := ⟨_, rfl⟩
            have HDV := Lib.hid hv
            have HDR := Lib.hid hDR
            have HVAL := Lib.hid hval
            have HLEN := Lib.hid hlen
            have i1 : (m : Int) < (M : Int) + 1 := by omega
            have hmz : m < zs.length := by rw [hlen, ← HMM.out]; exact hmM
            have HJ : Hid (j = 32 * m + s) := by unfold Hid; omega
            clear hv hDR hval hlen Hm Hs
            go_upto_region 13 with (first
              | (go_at_call 83; (with_reducible refine hcmp.mono ?_); rintro e w5 ⟨rfl, hw5⟩)
              | (go_at_call 95; (with_reducible refine (rsubDigitsF_any Ar Ad nr nd cr cd (digs R) (digs D) w5 (hw5.dgs' hr1) (hw5.dgs' hd1) l1 l2 l3 l4 hnr (by rw [val_digs, val_digs]; exact HDR.out)).mono ?_); rw [val_digs, val_digs]; rintro e w6 ⟨nr', cr', rfl, hd6, u6, v6, hb6⟩; have hbb6 := bcall (hw5.below _) hb6; have hrow6 := hrow.below hbb6; have hz := hrow6.cell hmz; rw [← HZ.out] at hz; have hfr := hrow6.frozen m)
              | fail)
            have HDG := Lib.hid (dv_digit HVAL.out HZ.out hdig hmz HJ.out (by omega) HDV.out.2.2.1)
            have HOR : Hid (bits .or .u32 (z : Int) (2 ^ s % 4294967296) = ((z + 2 ^ s : Nat) : Int)) := by
              have h1 : 2 ^ s ≤ 2147483648 := Nat.le_trans (Nat.pow_le_pow_right (by omega) hs31) (by decide)
              have h2 := HDG.out.2.1
              rw [BB_eq] at h2
              have e : (2 ^ s % 4294967296 : Int) = ((2 ^ s : Nat) : Int) := by
                have e1 : (2 ^ s : Int) = ((2 ^ s : Nat) : Int) := by rw [Int.natCast_pow]; rfl
                rw [e1]
                exact Int.emod_eq_of_lt (Int.natCast_nonneg _) (Int.ofNat_lt.2 (Nat.lt_of_le_of_lt h1 (by decide)))
              unfold Hid
              rw [e, u32_or_nat _ _ (by omega) (by omega), nat_join (s + 1) _ _ (Nat.mod_eq_zero_of_dvd HDG.out.1) (Nat.pow_lt_pow_right (by omega) (by omega))]
            rw [HOR.out]
            have hrow7 := hrow6.set m (z + 2 ^ s)
            have hO7 : Only gq w6 (w6.setCell ⟨gq, m, none⟩ (.int .u32 ((z + 2 ^ s : Nat) : Int))) := (Only.refl _ _).setCell _ _
            have hgl := hrow.lt
            have hsz := hw5.size
            have hr7 := (DgA.new (g := gq) hd6 (by omega)).only hO7
            have hd7 := (hd.call hbb6).only hO7
            have hB7 : Below w.heap.size w (w6.setCell ⟨gq, m, none⟩ (.int .u32 ((z + 2 ^ s : Nat) : Int))) := (bcall hB hbb6).setCell (p := ⟨gq, m, none⟩) hgq _
            clear hz hfr hrow6 hd6 hr hd hr1 hd1 hbb6 hb6 hO7 hrow
            generalize w6.setCell ⟨gq, m, none⟩ (.int .u32 ((z + 2 ^ s : Nat) : Int)) = w7 at hrow7 hr7 hd7 hB7 ⊢
            have hd8 := hd7.1
            clear hsz
            go_wp2_with (first
              | (go_at_call 96; (with_reducible refine (rhalf_any Ad nd cd (digs D) w7 hd8 l3 l4 hnd).mono ?_); rw [val_digs]; rintro e w8 ⟨nd', cd', rfl, hd9, u9, v9, hb9⟩)
              | fail)
            go_roundw
            case rel =>
              have hgl := hrow7.lt
              refine ⟨j, _, nr', cr', _, nd', cd', by omega, rfl, rfl, rfl, Q + 2 ^ j, R - D, D / 2, zs.set m (z + 2 ^ s), HDV.out.yes HDR.out, hrow7.below hb9, by rw [List.length_set]; exact HLEN.out, dig_set hdig HDG.out.2.1, ?_, hr7.call hb9, DgA.new hd9 (by omega), u6, v6, u9, v9, hgq, bcall hB7 hb9⟩
              have := val_set (xs := zs) (z + 2 ^ s) hmz
              rw [← HZ.out, Nat.mul_add, HDG.out.2.2, HVAL.out] at this
              omega
            case measure => simp [intOf]
          · have HV : Hid (cmpI (R : Int) D = -1) := cmpI_lt (by omega)
            rw [HV.out] at hcmp
            have HDV := Lib.hid (hv.no (by omega))
            have HVAL := Lib.hid hval
            have HLEN := Lib.hid hlen
            clear hv hDR hval hlen Hm Hs
            go_wp2_with (first
              | (go_at_call 83; (with_reducible refine hcmp.mono ?_); rintro e w5 ⟨rfl, hw5⟩)
              | (go_at_call 96; (with_reducible refine (rhalf_any Ad nd cd (digs D) w5 (hw5.dgs' hd1) l3 l4 hnd).mono ?_); rw [val_digs]; rintro e w6 ⟨nd', cd', rfl, hd6, u6, v6, hb6⟩)
              | fail)
            go_roundw
            case rel =>
              have hbb6 := bcall (hw5.below _) hb6
              have hgl := hrow.lt
              have hsz := hw5.size
              exact ⟨j, Ar, nr, cr, _, nd', cd', by omega, rfl, rfl, rfl, Q, R, D / 2, zs, HDV.out, hrow.below hbb6, HLEN.out, hdig, HVAL.out, hr.call hbb6, DgA.new hd6 (by omega), l1, l2, u6, v6, hgq, bcall hB hbb6⟩
            case measure => simp [intOf]
end Go.Proofs.Ytgjkgmlcfieodaa

