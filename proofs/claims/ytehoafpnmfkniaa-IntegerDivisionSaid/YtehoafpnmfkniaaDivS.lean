/-
  Division by one digit.
-/
import Derived.Test.YtehoafpnmfkniaaCmp
import Derived.Test.YtehoafpnmfkniaaClone
set_option linter.unusedVariables false
set_option linter.unusedSimpArgs false
namespace Go.Proofs.Ytehoafpnmfkniaa
open Go.RowKit

theorem quo_small (r x d : Nat) (hr : r < d) (hx : x < 4294967296) : (r * 4294967296 + x) / d < 4294967296 := by
  rw [Nat.div_lt_iff_lt_mul (by omega)]
  have : (r + 1) * 4294967296 ≤ d * 4294967296 := Nat.mul_le_mul_right _ hr
  rw [Nat.add_mul] at this
  rw [Nat.mul_comm 4294967296 d]
  omega

/-- What holds when the digits from k on are divided: in xs stand k digits of whatever kind and above them the quotient's. -/
def DivI (w wr : World) (g k r d : Nat) (da xs qs : List Nat) : Prop :=
  Row wr g (xs.take k ++ qs) ∧ xs.length = da.length ∧ qs.length + k = da.length ∧ Dig qs ∧ r < d ∧ val (da.drop k) = val qs * d + r

theorem div_step {w wr : World} {g k r d x : Nat} {da xs qs : List Nat} (h : DivI w wr g (k + 1) r d da xs qs) (hx : x = da.getD k 0) (hxl : x < 4294967296) (hd : d ≤ 4294967296) {v : Int} (hv : v = ((r * 4294967296 + x) / d : Nat)) :
    DivI w (wr.setCell ⟨g, k, none⟩ (.int .u32 v)) g k ((r * 4294967296 + x) % d) d da xs ((r * 4294967296 + x) / d :: qs) := by
  obtain ⟨h1, h2, h3, h4, h5, h6⟩ := h
  subst hv hx
  have hk : k < da.length := by omega
  refine ⟨?_, h2, by simp only [List.length_cons]; omega, Dig.cons (by rw [BB_eq]; exact quo_small _ _ _ h5 hxl) h4, Nat.mod_lt _ (by omega), ?_⟩
  · have := h1.set k ((r * 4294967296 + da.getD k 0) / d)
    have e : (xs.take (k + 1) ++ qs).set k ((r * 4294967296 + da.getD k 0) / d) = xs.take k ++ ((r * 4294967296 + da.getD k 0) / d :: qs) := by
      rw [List.take_succ_eq_append_getElem (by omega), List.append_assoc, List.set_append_right _ _ (by simp; omega), List.length_take, Nat.min_eq_left (by omega), Nat.sub_self]
      rfl
    rwa [e] at this
  · have e : val (da.drop k) = da.getD k 0 + BB * val (da.drop (k + 1)) := by
      rw [List.drop_eq_getElem_cons hk, val]; simp [List.getD, hk]
    rw [e, h6, val, BB_eq]
    have h7 := Nat.div_add_mod (r * 4294967296 + da.getD k 0) d
    rw [Nat.mul_comm] at h7
    rw [Nat.add_mul, Nat.mul_add]
    rw [Nat.mul_assoc 4294967296]
    omega

theorem DivI.read {w wr : World} {g k r d n b off : Nat} {da xs qs : List Nat} (h : DivI w wr g (k + 1) r d da xs qs) (ho : Only g w wr) (hr : Row w g xs) (hl : da.length = n)
    (hc : ∀ j, j < n → w.cell? ⟨b, off + j, none⟩ = some (.int .u32 (da.getD j 0 : Nat))) (hbg : b = g → off = 0) : wr.cell? ⟨b, off + k, none⟩ = some (.int .u32 (da.getD k 0 : Nat)) := by
  obtain ⟨h1, h2, h3, _⟩ := h
  have hk : k < n := by omega
  by_cases hb : b = g
  · subst hb
    obtain rfl := hbg rfl
    have e1 := hc k hk
    rw [Nat.zero_add, hr.cell (by omega)] at e1
    rw [Nat.zero_add, h1.cell (by simp; omega), ← e1]
    congr 3
    simp [List.getD, List.getElem?_append, show k < xs.length by omega]
    rw [if_pos (by omega)]
    rfl
  · rw [ho.cell (p := ⟨b, off + k, none⟩) hb]
    exact hc k hk

set_option maxHeartbeats 1000000 in
set_option maxRecDepth 100000 in
/-- Into a row of its own, from whatever digits: also from the row itself. -/
theorem divSmall_any (A : Option Addr) (g n c c' d : Nat) (da xs : List Nat) (w : World) (hr : Row w g xs) (hxn : xs.length = n) (hd0 : 0 < d) (hd : d < 4294967296) (hs : n ≤ 1000000) (hda : Dig da) (hl : da.length = n)
    (hA : 0 < n → ∃ b off, A = some ⟨b, off, none⟩ ∧ (∀ j, j < n → w.cell? ⟨b, off + j, none⟩ = some (.int .u32 (da.getD j 0 : Nat))) ∧ (b = g → off = 0)) :
    Calls Try.prog 130 #[.slice (some ⟨g, 0, none⟩) n c, .slice A n c', .int .u32 d] w fun e w' =>
      ∃ qs, e = .returned (.int .u32 (val da % d : Nat)) ∧ Row w' g qs ∧ qs.length = n ∧ Dig qs ∧ val qs = val da / d ∧ Only g w w' := by
  have H0 : DivI w w g n 0 d da xs [] ∧ Only g w w :=
    ⟨⟨by rw [List.take_of_length_le (by omega), List.append_nil]; exact hr, by omega, by simp; omega, Dig.nil, hd0, by rw [List.drop_of_length_le (by omega)]; simp [val]⟩, Only.refl _ _⟩
  have HL := Lib.hid hl
  have HX := Lib.hid hxn
  clear hl hxn
  go_enter Try.func130, Try.ntmps130
  go_wp2
  go_loopw [7, 8] (fun rv i wr => ∃ (k r : Nat) (qs : List Nat), k ≤ n ∧ i = .int .i64 ((k : Int) - 1) ∧ rv = .int .u64 r ∧ DivI w wr g k r d da xs qs ∧ Only g w wr) (fun _ i _ => (intOf i + 1).toNat)
  case atStart => exact ⟨n, 0, [], Nat.le_refl _, rfl, rfl, H0.1, H0.2⟩
  case round =>
    clear H0
    obtain ⟨k, r, qs, hk, rfl, rfl, HI, HO⟩ := hrel
    have hrd := HI.2.2.2.2.1
    by_cases hk0 : k = 0
    · subst hk0
      have HV := Lib.hid HI.2.2.2.2.2
      go_wp2
      go_ret
      have hv := HV.out
      rw [List.drop_zero] at hv
      have h7 := HI.1
      rw [List.take_zero, List.nil_append] at h7
      refine ⟨qs, ret_i ?_, h7, by have := HI.2.2.1; have := HL.out; omega, HI.2.2.2.1, ?_, HO⟩
      · rw [hv, Nat.mul_add_mod_self_right, Nat.mod_eq_of_lt hrd]
      · rw [hv, Nat.mul_comm, Nat.mul_add_div hd0, Nat.div_eq_of_lt hrd, Nat.add_zero]
    · obtain ⟨j, rfl⟩ : ∃ j, k = j + 1 := ⟨k - 1, by omega⟩
      have ej : (((j + 1 : Nat) : Int) - 1) = (j : Int) := by omega
      rw [ej]
      clear ej
      obtain ⟨b, off, hA', hcell, hbg⟩ := hA (by omega)
      subst hA'
      have hx := HI.read HO hr HL.out hcell hbg
      have hxl := hda.getD j
      rw [BB_eq] at hxl
      obtain ⟨x, HXX⟩ : ∃ x, Hid (x = da.getD j 0) := ⟨_, rfl⟩
      rw [← HXX.out] at hx hxl
      clear hcell hA
      have hstore := HI.1.cell (j := j) (by have := HI.2.1; have := HX.out; have := HI.2.2.1; simp; omega)
      have hfr := HI.1.frozen j
      have i0 : (0 : Int) ≤ (j : Int) := by omega
      have i1 : (j : Int) < (n : Int) := by omega
      have hq0 := quo_small r x d hrd hxl
      obtain ⟨t, HT⟩ : ∃ t, Hid (t = r * 4294967296 + x) := ⟨_, rfl⟩
      have htb : t < 18446744073709551616 := by rw [HT.out]; omega
      have hor : bits .or .u64 ((r : Int) * 4294967296) (x : Int) = (t : Int) := by
        rw [HT.out]
        exact or_halves r x (by omega) hxl
      rw [← HT.out] at hq0
      have hq : (t : Int) / (d : Int) ≤ 4294967295 := by
        have : ((t / d : Nat) : Int) ≤ 4294967295 := by omega
        rwa [Int.natCast_ediv] at this
      have hq' : 0 ≤ (t : Int) / (d : Int) := Int.ediv_nonneg (by omega) (by omega)
      go_wp2
      go_roundw
      case rel =>
        refine ⟨j, t % d, t / d :: qs, by omega, rfl, int_val (Int.natCast_emod t d).symm, ?_, HO.setCell _ _⟩
        have := div_step HI HXX.out hxl (by omega) (v := (t : Int) / (d : Int)) (by rw [← HT.out]; exact (Int.natCast_ediv t d).symm)
        rw [← HT.out] at this
        exact this
      case measure => simp [intOf]
end Go.Proofs.Ytehoafpnmfkniaa
