/-
  Comparing numbers and digits.
  A copy of digits.
  Division by one digit.
  Quotient and remainder of digits, the long division taken as a premise.
  Division rounded down: the numbers.
-/
import Derived.Test.YtgjkgmlcfieodaaRows2
import Derived.WalkSpells
import Derived.Maps.AppendAt
import Derived.Test.YtgjkgmlcfieodaaBase
set_option linter.unusedVariables false
set_option linter.unusedSimpArgs false
namespace Go.Proofs.Ytgjkgmlcfieodaa
open Go.RowKit

/-- -1, 0 or 1. -/
def cmpI (a b : Int) : Int := if a < b then -1 else if b < a then 1 else 0

theorem ret_i {k : IntKind} {a b : Int} (h : a = b) : Ending.returned (.int k a) = .returned (.int k b) := by rw [h]

set_option maxRecDepth 100000 in
theorem cmpInt_any (a b : Int) (w : World) : Calls Try.prog 67 #[.int .i64 a, .int .i64 b] w fun e w' => e = .returned (.int .i64 (cmpI a b)) ∧ w' = w := by
  by_cases h1 : a < b
  · have H := Lib.hid (show cmpI a b = -1 by simp [cmpI, h1])
    go_enter Try.func67, Try.ntmps67
    go_wp2
    go_ret
    exact ⟨by rw [H.out]; rfl, rfl⟩
  · by_cases h2 : b < a
    · have H := Lib.hid (show cmpI a b = 1 by simp [cmpI, h1, h2])
      go_enter Try.func67, Try.ntmps67
      go_wp2
      go_ret
      exact ⟨by rw [H.out]; rfl, rfl⟩
    · have H := Lib.hid (show cmpI a b = 0 by simp [cmpI, h1, h2])
      go_enter Try.func67, Try.ntmps67
      go_wp2
      go_ret
      exact ⟨by rw [H.out]; rfl, rfl⟩

set_option maxRecDepth 100000 in
theorem cmpU32_any (a b : Int) (w : World) : Calls Try.prog 68 #[.int .u32 a, .int .u32 b] w fun e w' => e = .returned (.int .i64 (cmpI a b)) ∧ w' = w := by
  by_cases h1 : a < b
  · have H := Lib.hid (show cmpI a b = -1 by simp [cmpI, h1])
    go_enter Try.func68, Try.ntmps68
    go_wp2
    go_ret
    exact ⟨by rw [H.out]; rfl, rfl⟩
  · by_cases h2 : b < a
    · have H := Lib.hid (show cmpI a b = 1 by simp [cmpI, h1, h2])
      go_enter Try.func68, Try.ntmps68
      go_wp2
      go_ret
      exact ⟨by rw [H.out]; rfl, rfl⟩
    · have H := Lib.hid (show cmpI a b = 0 by simp [cmpI, h1, h2])
      go_enter Try.func68, Try.ntmps68
      go_wp2
      go_ret
      exact ⟨by rw [H.out]; rfl, rfl⟩

theorem cmpI_lt {a b : Int} (h : a < b) : cmpI a b = -1 := by simp [cmpI, h]
theorem cmpI_gt {a b : Int} (h : b < a) : cmpI a b = 1 := by simp [cmpI, h]; omega
theorem cmpI_eq {a b : Int} (h : a = b) : cmpI a b = 0 := by subst h; simp [cmpI]
theorem cmpI_congr {a b a' b' : Int} (h1 : a < b → a' < b') (h2 : b < a → b' < a') (h3 : a = b → a' = b') : cmpI a b = cmpI a' b' := by
  rcases Int.lt_trichotomy a b with h | h | h
  · rw [cmpI_lt h, cmpI_lt (h1 h)]
  · rw [cmpI_eq h, cmpI_eq (h3 h)]
  · rw [cmpI_gt h, cmpI_gt (h2 h)]

theorem digs_ge {y k : Nat} (h : k < (digs y).length) : BB ^ k ≤ y := by
  rcases Nat.lt_or_ge y (BB ^ k) with h1 | h1
  · have := digs_length_le h1; omega
  · exact h1
theorem digs_len_lt {x y : Nat} (h : (digs x).length < (digs y).length) : x < y := by
  have h1 := lt_pow_digs x
  have h2 := digs_ge h
  omega

theorem val_split (ds : List Nat) (k : Nat) (h : k < ds.length) : val ds = val (ds.take k) + BB ^ k * (ds.getD k 0 + BB * val (ds.drop (k + 1))) := by
  have e := val_append (ds.take k) (ds.drop k)
  rw [List.take_append_drop, List.length_take, Nat.min_eq_left (by omega)] at e
  rw [e]
  congr 1
  rw [List.drop_eq_getElem_cons h, val]
  simp [List.getD, h]

theorem val_lt_of_digit {da db : List Nat} (ha : Dig da) (k : Nat) (h1 : k < da.length) (h2 : k < db.length) (he : da.drop (k + 1) = db.drop (k + 1)) (hlt : da.getD k 0 < db.getD k 0) : val da < val db := by
  rw [val_split da k h1, val_split db k h2, he]
  have h3 := val_lt (ha.take k)
  rw [List.length_take, Nat.min_eq_left (by omega)] at h3
  have h4 : BB ^ k * (da.getD k 0 + BB * val (db.drop (k + 1)) + 1) ≤ BB ^ k * (db.getD k 0 + BB * val (db.drop (k + 1))) := Nat.mul_le_mul_left _ (by omega)
  rw [Nat.mul_add, Nat.mul_one] at h4
  omega

theorem drop_eq_cons {da db : List Nat} {k : Nat} (h1 : k < da.length) (h2 : k < db.length) (he : da.drop (k + 1) = db.drop (k + 1)) (hx : da.getD k 0 = db.getD k 0) : da.drop k = db.drop k := by
  rw [List.drop_eq_getElem_cons h1, List.drop_eq_getElem_cons h2, he]
  simp [List.getD, h1, h2] at hx
  rw [hx]

/-- A call that leaves the world alone, inside a region behind another one. -/
theorem quiet_again {P : Program} {f : FuncId} {args : Array Value} {w : World} {a n : Nat} {v : Value} (h : ∀ W : World, Calls P f args W fun e w' => e = .returned v ∧ w' = W) :
    Calls P f args (w.drewN (a + n)) fun e w' => e = .returned v ∧ ∃ m, w' = w.drewN (a + m) :=
  (h _).mono fun _ _ ⟨h1, h2⟩ => ⟨h1, n, h2⟩

/-- The order of two numbers from their digits. -/
def Drew (w w' : World) : Prop := ∃ m, w' = w.drewN m
theorem Drew.below {w w' : World} (h : Drew w w') (B : Nat) : Below B w w' := by obtain ⟨m, rfl⟩ := h; exact bdrewN (Below.refl _ _) m
theorem Drew.dgs {w w' : World} {B n : Nat} {A : Option Addr} {ds : List Nat} (h : Drew w w') (hd : Dgs w B A n ds) : Dgs w' B A n ds := by obtain ⟨m, rfl⟩ := h; exact hd
theorem Drew.dgs' {w w' : World} {n : Nat} {A : Option Addr} {ds : List Nat} (h : Drew w w') (hd : Dgs w w.heap.size A n ds) : Dgs w' w'.heap.size A n ds := by obtain ⟨m, rfl⟩ := h; exact hd
theorem Drew.size {w w' : World} (h : Drew w w') : w'.heap.size = w.heap.size := by obtain ⟨m, rfl⟩ := h; rfl
def RetC (w : World) (v : Int) (e : Ending) (w' : World) : Prop := e = .returned (.int .i64 v) ∧ Drew w w'

set_option maxHeartbeats 1000000 in
set_option maxRecDepth 100000 in
theorem compareDigits_any (A A' : Option Addr) (n n' c c' B B' x y : Nat) (w : World) (h : Dgs w B A n (digs x)) (h' : Dgs w B' A' n' (digs y)) (hs : n ≤ maxLen) (hs' : n' ≤ maxLen) :
    Calls Try.prog 36 #[.slice A n c, .slice A' n' c'] w (RetC w (cmpI x y)) := by
  unfold maxLen at hs hs'
  by_cases hn : n = n'
  · subst hn
    have HL := Lib.hid h.len
    have HL' := Lib.hid h'.len
    go_enter Try.func36, Try.ntmps36
    go_wp2
    go_loopw [5] (fun i wr => ∃ k m : Nat, k ≤ n ∧ i = .int .i64 ((k : Int) - 1) ∧ (digs x).drop k = (digs y).drop k ∧ wr = w.drewN m) (fun i _ => (intOf i + 1).toNat)
    case atStart => exact ⟨n, 0, Nat.le_refl _, rfl, by rw [List.drop_of_length_le (by rw [HL.out]; omega), List.drop_of_length_le (by rw [HL'.out]; omega)], rfl⟩
    case round =>
      obtain ⟨k, m, hk, rfl, hd, rfl⟩ := hrel
      have HD := Lib.hid hd
      clear hd
      by_cases hk0 : k = 0
      · subst hk0
        have HE := Lib.hid (show cmpI x y = 0 from cmpI_eq (by have := HD.out; simp only [List.drop_zero] at this; rw [digs_inj this]))
        go_wp2
        go_ret
        exact ⟨by rw [HE.out]; rfl, _, rfl⟩
      · obtain ⟨j, rfl⟩ : ∃ j, k = j + 1 := ⟨k - 1, by omega⟩
        have ej : (((j + 1 : Nat) : Int) - 1) = (j : Int) := by omega
        rw [ej]
        clear ej
        obtain ⟨b, off, hA, _, hcell⟩ := h.at_ (by omega)
        subst hA
        obtain ⟨b', off', hA, _, hcell'⟩ := h'.at_ (by omega)
        subst hA
        have hx := hcell j (by omega)
        have hy := hcell' j (by omega)
        obtain ⟨a, HX⟩ : ∃ a, Hid (a = (digs x).getD j 0) := ⟨_, rfl⟩
        obtain ⟨d, HY⟩ : ∃ d, Hid (d = (digs y).getD j 0) := ⟨_, rfl⟩
        rw [← HX.out] at hx
        rw [← HY.out] at hy
        have i0 : (0 : Int) ≤ (j : Int) := by omega
        have i1 : (j : Int) < (n : Int) := by omega
        clear hcell hcell'
        by_cases had : a = d
        · subst had
          go_wp2
          go_quiet (fail)
          go_wp2
          go_roundw
          case rel => exact ⟨j, m + nq, by omega, rfl, drop_eq_cons (by rw [HL.out]; omega) (by rw [HL'.out]; omega) HD.out (by rw [← HX.out, ← HY.out]), rfl⟩
          case measure => simp [intOf]
        · have HC : Hid (cmpI (a : Int) (d : Int) = cmpI x y) := cmpI_congr
            (fun hlt => by
              have := val_lt_of_digit (dig_digs x) j (by rw [HL.out]; omega) (by rw [HL'.out]; omega) HD.out (by rw [← HX.out, ← HY.out]; omega)
              rw [val_digs, val_digs] at this; omega)
            (fun hlt => by
              have := val_lt_of_digit (dig_digs y) j (by rw [HL'.out]; omega) (by rw [HL.out]; omega) HD.out.symm (by rw [← HX.out, ← HY.out]; omega)
              rw [val_digs, val_digs] at this; omega)
            (fun e => absurd e (by omega))
          go_wp2
          go_quiet (fail)
          go_wp2
          go_quiet ((go_at_call 68; exact quiet_again (cmpU32_any _ _)))
          go_wp2
          go_ret
          exact ⟨by rw [← HC.out]; rfl, _, by rw [World.drewN_drewN, World.drewN_drewN]⟩
  · have HC := Lib.hid (show cmpI n n' = cmpI x y from cmpI_congr (fun hlt => by have := @digs_len_lt x y (by rw [h.len, h'.len]; omega); omega) (fun hlt => by have := @digs_len_lt y x (by rw [h.len, h'.len]; omega); omega) (fun e => by omega))
    go_enter Try.func36, Try.ntmps36
    go_wp2_with (go_at_call 67; refine (cmpInt_any _ _ _).mono ?_; rintro e w' ⟨rfl, rfl⟩)
    go_ret
    exact ⟨by rw [← HC.out]; rfl, 0, rfl⟩

/-- The same digits in a slice that the call hands back. -/
def RetL (w : World) (ds : List Nat) (e : Ending) (w' : World) : Prop :=
  ∃ A n c, e = .returned (.slice A n c) ∧ Dgs w' w'.heap.size A n ds ∧ n ≤ c ∧ c ≤ maxLen ∧ Below w.heap.size w w'

theorem RetL.mk_ {w w' : World} {ds : List Nat} {A : Option Addr} {n c : Nat} (hd : Dgs w' w'.heap.size A n ds) (hc : n ≤ c) (hm : c ≤ maxLen) (hb : Below w.heap.size w w') :
    RetL w ds (.returned (.slice A n c)) w' := ⟨A, n, c, rfl, hd, hc, hm, hb⟩

theorem RetL.of_own {w w' : World} {ds : List Nat} {base n : Nat} {v : Value} (h : World.ownsRow w' base 69 1 v n (dcells ds)) (hd : Dig ds) (hb : Below w.heap.size w w') : RetL w ds (.returned v) w' := by
  have hv : ∃ A c, v = .slice A n c := by
    rcases h.2 with ⟨rfl, rfl⟩ | ⟨g, cap, cur, rfl, _⟩
    · exact ⟨none, 0, rfl⟩
    · exact ⟨_, _, rfl⟩
  obtain ⟨A, c, rfl⟩ := hv
  exact RetL.mk_ (Dgs.of_own h hd) (World.ownsRow.le h).1 (World.ownsRow.le h).2 hb

theorem Row.of_own {w : World} {base g n cap : Nat} {ds : List Nat} (h : World.ownsRow w base 69 1 (.slice (some ⟨g, 0, none⟩) n cap) n (dcells ds)) : Row w g ds ∧ base ≤ g := by
  rcases h.2 with ⟨hv, _⟩ | ⟨g', cap', cur, hv, hb, hh, _, _, hsz, ht⟩
  · cases hv
  · injection hv with h1 h2 h3
    injection h1 with h1
    injection h1 with h1
    subst h1
    refine ⟨⟨cur.toList.drop (n * 1), ?_⟩, hb⟩
    have e : (ds.map dcell) = dcells ds := rfl
    rw [e, ← ht, List.take_append_drop]
    exact hh

theorem own_empty (w : World) : (w.alloc (.cells #[] 69)).ownsRow w.heap.size 69 1 (.slice (some ⟨w.heap.size, 0, none⟩) 0 0) 0 [] := by
  refine ⟨rfl, .inr ⟨w.heap.size, 0, #[], rfl, Nat.le_refl _, Go.Deep.blk_alloc_new _ _, Nat.le_refl _, by unfold maxLen; omega, rfl, rfl⟩⟩

set_option maxHeartbeats 1000000 in
set_option maxRecDepth 100000 in
theorem clone_any (A : Option Addr) (n c : Nat) (ds : List Nat) (w : World) (h : Dgs w w.heap.size A n ds) (hc : n ≤ c) (hm : c ≤ maxLen) (hs : n ≤ 1000000) :
    Calls Try.prog 70 #[.slice A n c] w (RetL w ds) := by
  obtain ⟨i0, hi, hz0, hz1, hz2⟩ := info_parts u32_info
  have hnil := fun W => Lib.run_eql_slice_nil (P := Try.prog) W 22 69 A n c 0 0 Try.underlying22
  rcases A with _ | ⟨b, off, z⟩
  · have hn : n = 0 := by
      rcases Nat.eq_zero_or_pos n with h0 | h0
      · exact h0
      · obtain ⟨_, _, e, _⟩ := h.at_ h0; cases e
    subst hn
    have hds : ds = [] := List.eq_nil_of_length_eq_zero h.len
    subst hds
    clear h
    go_enter Try.func70, Try.ntmps70
    go_wp2
    go_ret
    exact RetL.mk_ Dgs.none_ (Nat.le_refl _) (by unfold maxLen; omega) (Below.refl _ _)
  · by_cases hn : n = 0
    · subst hn
      have hds : ds = [] := List.eq_nil_of_length_eq_zero h.len
      subst hds
      go_enter Try.func70, Try.ntmps70
      go_wp2_with (at_builtin; refine wpList_append_own_at _ rfl _ _ 22 rfl w.heap.size 69 i0 (.int .u32 0) 1 4 Try.underlying22 hi hz0 hz1 hz2 rfl (by omega) (.slice (some ⟨w.heap.size, 0, none⟩) 0 0) 0 [] (by rfl) (own_empty w) ⟨b, off, z⟩ 0 c [] (by rfl) (by rfl) (by simp) (by simp) (by unfold maxLen; omega) (by omega) (by simp) ?_; intro v1 w1 hown hg hnn hat)
      go_ret
      exact RetL.of_own (n := 0) (ds := []) hown Dig.nil ((bnew _ _).grown hg (by simp) (fun k hk => by simp [Value.ownBlock] at hk; omega))
    · obtain ⟨b1, off1, e, hb, hcell⟩ := h.at_ (by omega)
      injection e with e
      injection e with e1 e2 e3
      subst e1 e2 e3
      clear hcell
      have h' := h.alloc (Nat.le_refl _) (.cells #[] 69)
      have HL := Lib.hid h.len
      go_enter Try.func70, Try.ntmps70
      go_wp2_with (at_builtin; refine wpList_append_lies _ rfl _ _ 22 rfl w.heap.size 69 i0 (.int .u32 0) 1 4 Try.underlying22 hi hz0 hz1 hz2 rfl (by omega) (.slice (some ⟨w.heap.size, 0, none⟩) 0 0) 0 [] (by rfl) (own_empty w) ⟨b, off, none⟩ n c (dcells ds) (by rfl) (by rw [dcells_length, HL.out]; omega) h'.news (dcells_one _) (by omega) (by unfold maxLen; omega) (by omega) (by simp) _ rfl ?_; intro g cap w1 hown hg hat hlt; simp only [Nat.zero_add, List.nil_append] at hown)
      go_ret
      exact RetL.of_own hown h.dig ((bnew _ _).grown hg (by simp) (fun k hk => by simp [Value.ownBlock] at hk; omega))
/-- A copy of digits lies in a row of its own. -/
def RetRow (w : World) (ds : List Nat) (n : Nat) (e : Ending) (w' : World) : Prop :=
  ∃ g c', e = .returned (.slice (some ⟨g, 0, none⟩) n c') ∧ Row w' g ds ∧ w.heap.size ≤ g ∧ n ≤ c' ∧ c' ≤ maxLen ∧ Below w.heap.size w w'

set_option maxHeartbeats 1000000 in
set_option maxRecDepth 100000 in
theorem clone_row (b off : Nat) (n c : Nat) (ds : List Nat) (w : World) (h : Dgs w w.heap.size (some ⟨b, off, none⟩) n ds) (hc : n ≤ c) (hm : c ≤ maxLen) (hs : n ≤ 1000000) (hn : 0 < n) :
    Calls Try.prog 70 #[.slice (some ⟨b, off, none⟩) n c] w (RetRow w ds n) := by
  obtain ⟨i0, hi, hz0, hz1, hz2⟩ := info_parts u32_info
  have hnil := fun W => Lib.run_eql_slice_nil (P := Try.prog) W 22 69 (some ⟨b, off, none⟩) n c 0 0 Try.underlying22
  have h' := h.alloc (Nat.le_refl _) (.cells #[] 69)
  have HL := Lib.hid h.len
  go_enter Try.func70, Try.ntmps70
  go_wp2_with (at_builtin; refine wpList_append_lies _ rfl _ _ 22 rfl w.heap.size 69 i0 (.int .u32 0) 1 4 Try.underlying22 hi hz0 hz1 hz2 rfl (by omega) (.slice (some ⟨w.heap.size, 0, none⟩) 0 0) 0 [] (by rfl) (own_empty w) ⟨b, off, none⟩ n c (dcells ds) (by rfl) (by rw [dcells_length, HL.out]; omega) h'.news (dcells_one _) (by omega) (by unfold maxLen; omega) (by omega) (by simp) _ rfl ?_; intro g cap w1 hown hg hat hlt; simp only [Nat.zero_add, List.nil_append] at hown)
  go_ret
  exact ⟨g, cap, rfl, (Row.of_own hown).1, (Row.of_own hown).2, (World.ownsRow.le hown).1, (World.ownsRow.le hown).2, (bnew _ _).grown hg (by simp) (fun k hk => by simp [Value.ownBlock] at hk; omega)⟩

theorem quo_small (r x d : Nat) (hr : r < d) (hx : x < 4294967296) : (r * 4294967296 + x) / d < 4294967296 := by
  rw [Nat.div_lt_iff_lt_mul (by omega)]
  have : (r + 1) * 4294967296 ≤ d * 4294967296 := Nat.mul_le_mul_right _ hr
  rw [Nat.add_mul] at this
  rw [Nat.mul_comm 4294967296 d]
  omega

/-- What holds when the digits from k on are divided: in xs stand k digits of whatever kind and above them the quotient's. -/
def DivI (w wr : World) (g k r d : Nat) (da xs qs : List Nat) : Prop :=
  Row wr g (xs.take k ++ qs) ∧ xs.length = da.length ∧ qs.length + k = da.length ∧ Dig qs ∧ r < d ∧ val (da.drop k) = val qs * d + r

theorem div_step {w wr : World} {g k r d x : Nat} {da xs qs : List Nat} (h : DivI w wr g (k + 1) r d da xs qs) (hx : x = da.getD k 0) (hxl : x < 4294967296) (hd : d ≤ 4294967296) {v : Int} (hv : v = ((r * 4294967296 + x) / d : Nat)) :
    DivI w (wr.setCell ⟨g, k, none⟩ (.int .u32 v)) g k ((r * 4294967296 + x) % d) d da xs ((r * 4294967296 + x) / d :: qs) := by
  obtain ⟨h1, h2, h3, h4, h5, h6⟩ := h
  subst hv hx
  have hk : k < da.length := by omega
  refine ⟨?_, h2, by simp only [List.length_cons]; omega, Dig.cons (by rw [BB_eq]; exact quo_small _ _ _ h5 hxl) h4, Nat.mod_lt _ (by omega), ?_⟩
  · have := h1.set k ((r * 4294967296 + da.getD k 0) / d)
    have e : (xs.take (k + 1) ++ qs).set k ((r * 4294967296 + da.getD k 0) / d) = xs.take k ++ ((r * 4294967296 + da.getD k 0) / d :: qs) := by
      rw [List.take_succ_eq_append_getElem (by omega), List.append_assoc, List.set_append_right _ _ (by simp; omega), List.length_take, Nat.min_eq_left (by omega), Nat.sub_self]
      rfl
    rwa [e] at this
  · have e : val (da.drop k) = da.getD k 0 + BB * val (da.drop (k + 1)) := by
      rw [List.drop_eq_getElem_cons hk, val]; simp [List.getD, hk]
    rw [e, h6, val, BB_eq]
    have h7 := Nat.div_add_mod (r * 4294967296 + da.getD k 0) d
    rw [Nat.mul_comm] at h7
    rw [Nat.add_mul, Nat.mul_add]
    rw [Nat.mul_assoc 4294967296]
    omega

theorem DivI.read {w wr : World} {g k r d n b off : Nat} {da xs qs : List Nat} (h : DivI w wr g (k + 1) r d da xs qs) (ho : Only g w wr) (hr : Row w g xs) (hl : da.length = n)
    (hc : ∀ j, j < n → w.cell? ⟨b, off + j, none⟩ = some (.int .u32 (da.getD j 0 : Nat))) (hbg : b = g → off = 0) : wr.cell? ⟨b, off + k, none⟩ = some (.int .u32 (da.getD k 0 : Nat)) := by
  obtain ⟨h1, h2, h3, _⟩ := h
  have hk : k < n := by omega
  by_cases hb : b = g
  · subst hb
    obtain rfl := hbg rfl
    have e1 := hc k hk
    rw [Nat.zero_add, hr.cell (by omega)] at e1
    rw [Nat.zero_add, h1.cell (by simp; omega), ← e1]
    congr 3
    simp [List.getD, List.getElem?_append, show k < xs.length by omega]
    rw [if_pos (by omega)]
    rfl
  · rw [ho.cell (p := ⟨b, off + k, none⟩) hb]
    exact hc k hk

set_option maxHeartbeats 1000000 in
set_option maxRecDepth 100000 in
/-- Into a row of its own, from whatever digits: also from the row itself. -/
theorem divSmall_any (A : Option Addr) (g n c c' d : Nat) (da xs : List Nat) (w : World) (hr : Row w g xs) (hxn : xs.length = n) (hd0 : 0 < d) (hd : d < 4294967296) (hs : n ≤ 1000000) (hda : Dig da) (hl : da.length = n)
    (hA : 0 < n → ∃ b off, A = some ⟨b, off, none⟩ ∧ (∀ j, j < n → w.cell? ⟨b, off + j, none⟩ = some (.int .u32 (da.getD j 0 : Nat))) ∧ (b = g → off = 0)) :
    Calls Try.prog 87 #[.slice (some ⟨g, 0, none⟩) n c, .slice A n c', .int .u32 d] w fun e w' =>
      ∃ qs, e = .returned (.int .u32 (val da % d : Nat)) ∧ Row w' g qs ∧ qs.length = n ∧ Dig qs ∧ val qs = val da / d ∧ Only g w w' := by
  have H0 : DivI w w g n 0 d da xs [] ∧ Only g w w :=
    ⟨⟨by rw [List.take_of_length_le (by omega), List.append_nil]; exact hr, by omega, by simp; omega, Dig.nil, hd0, by rw [List.drop_of_length_le (by omega)]; simp [val]⟩, Only.refl _ _⟩
  have HL := Lib.hid hl
  have HX := Lib.hid hxn
  clear hl hxn
  go_enter Try.func87, Try.ntmps87
  go_wp2
  go_loopw [7, 8] (fun rv i wr => ∃ (k r : Nat) (qs : List Nat), k ≤ n ∧ i = .int .i64 ((k : Int) - 1) ∧ rv = .int .u64 r ∧ DivI w wr g k r d da xs qs ∧ Only g w wr) (fun _ i _ => (intOf i + 1).toNat)
  case atStart => exact ⟨n, 0, [], Nat.le_refl _, rfl, rfl, H0.1, H0.2⟩
  case round =>
    clear H0
    obtain ⟨k, r, qs, hk, rfl, rfl, HI, HO⟩ := hrel
    have hrd := HI.2.2.2.2.1
    by_cases hk0 : k = 0
    · subst hk0
      have HV := Lib.hid HI.2.2.2.2.2
      go_wp2
      go_ret
      have hv := HV.out
      rw [List.drop_zero] at hv
      have h7 := HI.1
      rw [List.take_zero, List.nil_append] at h7
      refine ⟨qs, ret_i ?_, h7, by have := HI.2.2.1; have := HL.out; omega, HI.2.2.2.1, ?_, HO⟩
      · rw [hv, Nat.mul_add_mod_self_right, Nat.mod_eq_of_lt hrd]
      · rw [hv, Nat.mul_comm, Nat.mul_add_div hd0, Nat.div_eq_of_lt hrd, Nat.add_zero]
    · obtain ⟨j, rfl⟩ : ∃ j, k = j + 1 := ⟨k - 1, by omega⟩
      have ej : (((j + 1 : Nat) : Int) - 1) = (j : Int) := by omega
      rw [ej]
      clear ej
      obtain ⟨b, off, hA', hcell, hbg⟩ := hA (by omega)
      subst hA'
      have hx := HI.read HO hr HL.out hcell hbg
      have hxl := hda.getD j
      rw [BB_eq] at hxl
      obtain ⟨x, HXX⟩ : ∃ x, Hid (x = da.getD j 0) := ⟨_, rfl⟩
      rw [← HXX.out] at hx hxl
      clear hcell hA
      have hstore := HI.1.cell (j := j) (by have := HI.2.1; have := HX.out; have := HI.2.2.1; simp; omega)
      have hfr := HI.1.frozen j
      have i0 : (0 : Int) ≤ (j : Int) := by omega
      have i1 : (j : Int) < (n : Int) := by omega
      have hq0 := quo_small r x d hrd hxl
      obtain ⟨t, HT⟩ : ∃ t, Hid (t = r * 4294967296 + x) := ⟨_, rfl⟩
      have htb : t < 18446744073709551616 := by rw [HT.out]; omega
      have hor : bits .or .u64 ((r : Int) * 4294967296) (x : Int) = (t : Int) := by
        rw [HT.out]
        exact or_halves r x (by omega) hxl
      rw [← HT.out] at hq0
      have hq : (t : Int) / (d : Int) ≤ 4294967295 := by
        have : ((t / d : Nat) : Int) ≤ 4294967295 := by omega
        rwa [Int.natCast_ediv] at this
      have hq' : 0 ≤ (t : Int) / (d : Int) := Int.ediv_nonneg (by omega) (by omega)
      go_wp2
      go_roundw
      case rel =>
        refine ⟨j, t % d, t / d :: qs, by omega, rfl, int_val (Int.natCast_emod t d).symm, ?_, HO.setCell _ _⟩
        have := div_step HI HXX.out hxl (by omega) (v := (t : Int) / (d : Int)) (by rw [← HT.out]; exact (Int.natCast_ediv t d).symm)
        rw [← HT.out] at this
        exact this
      case measure => simp [intOf]

/-- Quotient and remainder are handed back; what was there is as it was. -/
def RetQ (w : World) (q r : Nat) (e : Ending) (w' : World) : Prop :=
  ∃ A n c A' n' c', e = .returned (.tuple #[.slice A n c, .slice A' n' c']) ∧ Dgs w' w'.heap.size A n (digs q) ∧ n ≤ c ∧ c ≤ maxLen ∧ Dgs w' w'.heap.size A' n' (digs r) ∧ n' ≤ c' ∧ c' ≤ maxLen ∧ Below w.heap.size w w'

theorem RetQ.mk_ {w w' : World} {q r : Nat} {A A' : Option Addr} {n c n' c' : Nat} (hd : Dgs w' w'.heap.size A n (digs q)) (hc : n ≤ c) (hm : c ≤ maxLen) (hd' : Dgs w' w'.heap.size A' n' (digs r)) (hc' : n' ≤ c') (hm' : c' ≤ maxLen) (hb : Below w.heap.size w w') :
    RetQ w q r (.returned (.tuple #[.slice A n c, .slice A' n' c'])) w' := ⟨A, n, c, A', n', c', rfl, hd, hc, hm, hd', hc', hm', hb⟩

/-- The long division does what it should on these. -/
def LongOk (y : Nat) : Prop :=
  ∀ (A A' : Option Addr) (n n' c c' x : Nat) (w : World), Dgs w w.heap.size A n (digs x) → Dgs w w.heap.size A' n' (digs y) → n ≤ c → c ≤ maxLen → n' ≤ c' → c' ≤ maxLen → n ≤ 1000000 → 2 ≤ n' → y ≤ x →
    Calls Try.prog 88 #[.slice A n c, .slice A' n' c'] w (RetQ w (x / y) (x % y))

theorem longOk_small {y : Nat} (h : y < 4294967296) : LongOk y := by
  intro A A' n n' c c' x w h1 h2 _ _ _ _ _ h3 _
  have := @digs_length_le y 1 (by rw [Nat.pow_one, BB_eq]; exact h)
  have := h2.len
  omega

theorem digs_one {y : Nat} (h : (digs y).length = 1) : y < 4294967296 ∧ (digs y).getD 0 0 = y ∧ 0 < y := by
  have h1 := lt_pow_digs y
  rw [h, Nat.pow_one, BB_eq] at h1
  refine ⟨h1, by rw [digs_lo, BB_eq, Nat.mod_eq_of_lt h1], ?_⟩
  rcases Nat.eq_zero_or_pos y with h0 | h0
  · subst h0; rw [digs_zero] at h; simp at h
  · exact h0

set_option maxHeartbeats 1000000 in
set_option maxRecDepth 100000 in
theorem divDigits_any (A A' : Option Addr) (n n' c c' x y : Nat) (w : World) (h : Dgs w w.heap.size A n (digs x)) (h' : Dgs w w.heap.size A' n' (digs y)) (hc : n ≤ c) (hm : c ≤ maxLen) (hc' : n' ≤ c') (hm' : c' ≤ maxLen) (hs : n ≤ 1000000) (hy : y ≠ 0) (hL : LongOk y) :
    Calls Try.prog 74 #[.slice A n c, .slice A' n' c'] w (RetQ w (x / y) (x % y)) := by
  unfold LongOk at hL
  have hcmp := fun w' k k' => compareDigits_any A A' n n' c c' w'.heap.size w'.heap.size x y w' k k' (by omega) (by omega)
  by_cases hxy : x < y
  · have HC : Hid (cmpI (x : Int) y = -1) := cmpI_lt (by omega)
    have HQ := Lib.hid (Nat.div_eq_of_lt hxy)
    have HR := Lib.hid (Nat.mod_eq_of_lt hxy)
    clear hxy
    go_enter Try.func74, Try.ntmps74
    go_wp2_with (first
      | (go_at_call 36; (with_reducible refine (hcmp w h h').mono ?_); rw [HC.out]; rintro e w1 ⟨rfl, hw1⟩)
      | (go_at_call 70; (with_reducible refine (clone_any A n c (digs x) _ (hw1.dgs' h) hc hm hs).mono ?_); rintro e w2 ⟨A2, n2, c2, rfl, hd2, hn2, hc2, hb2⟩))
    go_ret2
    rw [HQ.out, HR.out]
    exact RetQ.mk_ (by rw [digs_zero]; exact Dgs.none_) (Nat.le_refl _) (Nat.zero_le _) hd2 hn2 hc2 (bcall (hw1.below _) hb2)
  · have HC : Hid (¬ cmpI (x : Int) y < 0) := by
      unfold Hid cmpI
      split
      · omega
      · split <;> omega
    obtain ⟨v, HV⟩ : ∃ v, Hid (v = cmpI (x : Int) y) := ⟨_, rfl⟩
    have hv : ¬ v < 0 := by rw [HV.out]; exact HC.out
    by_cases hn1 : n' = 1
    · subst hn1
      have HL' := Lib.hid h'.len
      obtain ⟨hy1, hy2, hy3⟩ := digs_one h'.len
      obtain ⟨b, off, hA, hb, hcell⟩ := h'.at_ (by omega)
      subst hA
      have hy0 : w.cell? ⟨b, off, none⟩ = some (.int .u32 (y : Nat)) := by have := hcell 0 (by omega); rwa [hy2] at this
      clear hcell hy2
      have HL := Lib.hid h.len
      obtain ⟨r, HR⟩ : ∃ r, Hid (r = x % y) := ⟨_, rfl⟩
      have hrl : r < 4294967296 := by rw [HR.out]; have := Nat.mod_lt x hy3; omega
      have hmk := run_make_row' (P := Try.prog) 22 69 (.int .u32 0) 4 Try.underlying22 u32_info rfl .i64 .i64 n (by omega) (by omega)
      go_enter Try.func74, Try.ntmps74
      go_wp2_with (first
        | (go_at_call 36; (with_reducible refine (hcmp w h h').mono ?_); rw [← HV.out]; rintro e w1 ⟨rfl, hw1⟩; have hd1 := (hw1.dgs' h).alloc (Nat.le_refl _) (.cells (madeCells #[.int .u32 0] n) 69); have hr1 := Row.made w1 n; have hy1' : (w1.alloc (.cells (madeCells #[.int .u32 0] n) 69)).cell? ⟨b, off, none⟩ = some (.int .u32 (y : Nat)) := by (rw [World.cell?_alloc_lt _ _ _ (by have := hw1.size; show b < _; omega)]; rw [(hw1.below w.heap.size).cell (p := ⟨b, off, none⟩) hb]; exact hy0))
        | (go_at_call 87; (with_reducible refine (divSmall_any A w1.heap.size n n c y (digs x) (List.replicate n 0) _ hr1 (by simp) hy3 hy1 hs (dig_digs x) HL.out ?_).mono ?_); exact (fun hn => by obtain ⟨b2, off2, e2, hb2, hc2⟩ := hd1.at_ hn; exact ⟨b2, off2, e2, hc2, fun e => by omega⟩); rw [val_digs, ← HR.out]; rintro e w2 ⟨qs, rfl, hr2, hq2, hq3, hq4, ho2⟩; have hd2 := hr2.dgs hq3; rw [hq2] at hd2)
        | (go_at_call 69; (with_reducible refine (trim_ret _ _ _ _ _ _ hd2 (Nat.le_refl _) (by unfold maxLen; omega)).mono ?_); rw [hq4]; rintro e w3 ⟨t, rfl, hd3, ht3, rfl⟩)
        | (go_at_call 38; (with_reducible refine (fromWord_any r (by omega) _).mono ?_); rintro e w4 ⟨A4, n4, c4, rfl, hd4, hn4, hc4, hb4⟩))
      go_ret2
      rw [← HR.out]
      exact RetQ.mk_ ((hd3.below hb4).more hb4.size) (Nat.le_refl _) (by unfold maxLen; omega) hd4 hn4 hc4 (bcall (((hw1.below _).alloc (by rw [hw1.size]; exact Nat.le_refl _) _).trans (ho2.below (by rw [hw1.size]; exact Nat.le_refl _))) hb4)
    · have hn2 : 2 ≤ n' := by
        have h1 := h'.len
        have h2 := digs_pos_len hy
        omega
      go_enter Try.func74, Try.ntmps74
      go_wp2_with (first
        | (go_at_call 36; (with_reducible refine (hcmp w h h').mono ?_); rw [← HV.out]; rintro e w1 ⟨rfl, hw1⟩)
        | (go_at_call 88; (with_reducible refine (hL A A' n n' c c' x _ (hw1.dgs' h) (hw1.dgs' h') hc hm hc' hm' hs hn2 (by omega)).mono ?_); rintro e w2 ⟨A2, n2, c2, A3, n3, c3, rfl, hd2, hn2, hc2, hd3, hn3, hc3, hb2⟩))
      go_ret2
      exact RetQ.mk_ hd2 hn2 hc2 hd3 hn3 hc3 (bcall (hw1.below _) hb2)

/-- Rounded down, what is left, and the error. -/
def dmQ (x y : Int) : Int := if y = 0 then 0 else if 0 < y then x / y else (-x) / (-y)
def dmR (x y : Int) : Int := if y = 0 then 0 else if 0 < y then x % y else -((-x) % (-y))
def dmE (y : Int) : Int := if y = 0 then 11 else 0

theorem zOf_abs (z : Int) : z = zOf (decide (z < 0)) z.natAbs := by unfold zOf; by_cases h : z < 0 <;> simp [h] <;> omega
theorem dm_zero (x : Int) {y : Int} (h : y = 0) : dmQ x y = 0 ∧ dmR x y = 0 ∧ dmE y = 11 := by simp [dmQ, dmR, dmE, h]
theorem dm_err {y : Int} (h : y ≠ 0) : dmE y = 0 := by simp [dmE, h]

theorem dm_unique {x y q r : Int} (h : x = q * y + r) (hr : (0 ≤ r ∧ r < y) ∨ (y < r ∧ r ≤ 0)) : dmQ x y = q ∧ dmR x y = r := by
  unfold dmQ dmR
  rcases hr with hr | hr
  · have hy : 0 < y := by omega
    have hy0 : ¬ y = 0 := by omega
    simp only [if_neg hy0, if_pos hy]
    exact (Int.ediv_emod_unique hy).2 ⟨by rw [h, Int.mul_comm]; omega, hr.1, hr.2⟩
  · have hy : 0 < -y := by omega
    have hy0 : ¬ y = 0 := by omega
    have hy1 : ¬ 0 < y := by omega
    simp only [if_neg hy0, if_neg hy1]
    have := (Int.ediv_emod_unique (a := -x) (b := -y) (q := q) (r := -r) hy).2 ⟨by rw [h, Int.neg_mul, Int.mul_comm]; omega, by omega, by omega⟩
    exact ⟨this.1, by rw [this.2]; omega⟩

section
variable (x y : Int)
theorem dm_nat (hy : y ≠ 0) : ((x.natAbs : Nat) : Int) = ((x.natAbs / y.natAbs : Nat) : Int) * (y.natAbs : Nat) + ((x.natAbs % y.natAbs : Nat) : Int) ∧ x.natAbs % y.natAbs < y.natAbs := by
  refine ⟨?_, Nat.mod_lt _ (by omega)⟩
  have := Nat.div_add_mod x.natAbs y.natAbs
  rw [Nat.mul_comm] at this
  exact_mod_cast this.symm
theorem dm_same (hy : y ≠ 0) (hs : decide (x < 0) = decide (y < 0)) : dmQ x y = ((x.natAbs / y.natAbs : Nat) : Int) ∧ dmR x y = zOf (decide (y < 0)) (x.natAbs % y.natAbs) := by
  obtain ⟨h1, h2⟩ := dm_nat x y hy
  generalize x.natAbs / y.natAbs = Q at *
  generalize x.natAbs % y.natAbs = R at *
  have hs' : x < 0 ↔ y < 0 := by simpa using hs
  by_cases h : y < 0
  · have hx := hs'.2 h
    have e1 : ((x.natAbs : Nat) : Int) = -x := by omega
    have e2 : ((y.natAbs : Nat) : Int) = -y := by omega
    rw [e1, e2, Int.mul_neg] at h1
    simp only [h, decide_true, zOf, if_true]
    exact dm_unique (by omega) (Or.inr ⟨by omega, by omega⟩)
  · have hx : ¬ x < 0 := fun hx => h (hs'.1 hx)
    have e1 : ((x.natAbs : Nat) : Int) = x := by omega
    have e2 : ((y.natAbs : Nat) : Int) = y := by omega
    rw [e1, e2] at h1
    simp only [h, decide_false, zOf, Bool.false_eq_true, if_false]
    exact dm_unique (by omega) (Or.inl ⟨by omega, by omega⟩)
theorem dm_diff0 (hy : y ≠ 0) (hs : decide (x < 0) ≠ decide (y < 0)) (hr : x.natAbs % y.natAbs = 0) : dmQ x y = -((x.natAbs / y.natAbs : Nat) : Int) ∧ dmR x y = 0 := by
  obtain ⟨h1, h2⟩ := dm_nat x y hy
  rw [hr] at h1
  generalize x.natAbs / y.natAbs = Q at *
  have hs' : ¬ (x < 0 ↔ y < 0) := by simpa using hs
  by_cases h : y < 0
  · have hx : ¬ x < 0 := fun hx => hs' ⟨fun _ => h, fun _ => hx⟩
    have e1 : ((x.natAbs : Nat) : Int) = x := by omega
    have e2 : ((y.natAbs : Nat) : Int) = -y := by omega
    rw [e1, e2, Int.mul_neg] at h1
    exact dm_unique (by rw [Int.neg_mul]; omega) (Or.inr ⟨by omega, by omega⟩)
  · have hx : x < 0 := by
      rcases Int.lt_or_le x 0 with h3 | h3
      · exact h3
      · exact absurd ⟨fun h4 => absurd h4 (by omega), fun h4 => absurd h4 h⟩ hs'
    have e1 : ((x.natAbs : Nat) : Int) = -x := by omega
    have e2 : ((y.natAbs : Nat) : Int) = y := by omega
    rw [e1, e2] at h1
    exact dm_unique (by rw [Int.neg_mul]; omega) (Or.inl ⟨by omega, by omega⟩)
theorem dm_diff1 (hy : y ≠ 0) (hs : decide (x < 0) ≠ decide (y < 0)) (hr : x.natAbs % y.natAbs ≠ 0) : dmQ x y = -((x.natAbs / y.natAbs + 1 : Nat) : Int) ∧ dmR x y = zOf (decide (y < 0)) (y.natAbs - x.natAbs % y.natAbs) := by
  obtain ⟨h1, h2⟩ := dm_nat x y hy
  generalize x.natAbs / y.natAbs = Q at *
  generalize x.natAbs % y.natAbs = R at *
  have hs' : ¬ (x < 0 ↔ y < 0) := by simpa using hs
  have e0 : ((Q + 1 : Nat) : Int) = (Q : Int) + 1 := by omega
  rw [e0]
  by_cases h : y < 0
  · have hx : ¬ x < 0 := fun hx => hs' ⟨fun _ => h, fun _ => hx⟩
    have e1 : ((x.natAbs : Nat) : Int) = x := by omega
    have e2 : ((y.natAbs : Nat) : Int) = -y := by omega
    rw [e1, e2, Int.mul_neg] at h1
    simp only [h, decide_true, zOf, if_true]
    exact dm_unique (by rw [Int.neg_mul, Int.add_mul]; omega) (Or.inr ⟨by omega, by omega⟩)
  · have hx : x < 0 := by
      rcases Int.lt_or_le x 0 with h3 | h3
      · exact h3
      · exact absurd ⟨fun h4 => absurd h4 (by omega), fun h4 => absurd h4 h⟩ hs'
    have e1 : ((x.natAbs : Nat) : Int) = -x := by omega
    have e2 : ((y.natAbs : Nat) : Int) = y := by omega
    rw [e1, e2] at h1
    simp only [h, decide_false, zOf, Bool.false_eq_true, if_false]
    exact dm_unique (by rw [Int.neg_mul, Int.add_mul]; omega) (Or.inl ⟨by omega, by omega⟩)
end
end Go.Proofs.Ytgjkgmlcfieodaa

