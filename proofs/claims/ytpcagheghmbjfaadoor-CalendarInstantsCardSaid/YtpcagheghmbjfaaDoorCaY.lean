/-
  Calendar: texts of instants: their order, writing them on both sides.
-/
import Derived.Test.YtpcagheghmbjfaaDoorCaX
set_option linter.unusedVariables false
set_option linter.unusedSimpArgs false
namespace Go.Proofs.YtpcagheghmbjfaaDoor
open Go.RowKit

theorem fold_add : ∀ (l : List UInt8) (v : Nat), l.foldl (fun v b => 10 * v + (b.toNat - 48)) v = v * 10 ^ l.length + decN l
  | [], v => by simp [decN]
  | b :: l, v => by
    have h1 := fold_add l (10 * v + (b.toNat - 48))
    have h2 := fold_add l (10 * 0 + (b.toNat - 48))
    have h3 : decN (b :: l) = l.foldl (fun v b => 10 * v + (b.toNat - 48)) (10 * 0 + (b.toNat - 48)) := rfl
    rw [List.foldl_cons, h1, h3, h2, List.length_cons, Nat.pow_succ, Nat.add_mul, Nat.add_mul]
    have : 10 * v * 10 ^ l.length = v * (10 ^ l.length * 10) := by
      rw [Nat.mul_comm 10 v, Nat.mul_assoc, Nat.mul_comm 10]
    rw [this]; omega
theorem decN_cons (b : UInt8) (l : List UInt8) : decN (b :: l) = (b.toNat - 48) * 10 ^ l.length + decN l := by
  have h := fold_add l (10 * 0 + (b.toNat - 48))
  have h3 : decN (b :: l) = l.foldl (fun v b => 10 * v + (b.toNat - 48)) (10 * 0 + (b.toNat - 48)) := rfl
  rw [h3, h]; simp
theorem less_app : ∀ (A B C D : List UInt8), A.length = B.length → (Op.bytesLess (A ++ C) (B ++ D) = true ↔ Op.bytesLess A B = true ∨ (A = B ∧ Op.bytesLess C D = true))
  | [], [], C, D, _ => by simp [Op.bytesLess]
  | a :: A, b :: B, C, D, h => by
    have ih := less_app A B C D (by simpa using h)
    simp only [List.cons_append, Op.bytesLess, Bool.or_eq_true, Bool.and_eq_true, decide_eq_true_eq, beq_iff_eq, ih, List.cons.injEq]
    constructor
    · rintro (h1 | ⟨rfl, h1 | ⟨rfl, h1⟩⟩)
      · exact .inl (.inl h1)
      · exact .inl (.inr ⟨rfl, h1⟩)
      · exact .inr ⟨⟨rfl, rfl⟩, h1⟩
    · rintro ((h1 | ⟨rfl, h1⟩) | ⟨⟨rfl, rfl⟩, h1⟩)
      · exact .inl h1
      · exact .inr ⟨rfl, .inl h1⟩
      · exact .inr ⟨rfl, .inr ⟨rfl, h1⟩⟩
theorem mul_lex {p q x y T : Nat} (hx : x < T) (hy : y < T) : p * T + x < q * T + y ↔ p < q ∨ (p = q ∧ x < y) := by
  constructor
  · intro h
    rcases Nat.lt_trichotomy p q with h1 | h1 | h1
    · exact .inl h1
    · subst h1; exact .inr ⟨rfl, by omega⟩
    · exfalso
      have := Nat.mul_le_mul_right T (show q + 1 ≤ p from h1)
      rw [Nat.add_mul] at this; omega
  · rintro (h | ⟨rfl, h⟩)
    · have := Nat.mul_le_mul_right T (show p + 1 ≤ q from h)
      rw [Nat.add_mul] at this; omega
    · omega
theorem less_dig : ∀ (A B : List UInt8), A.length = B.length → A.all dgOk = true → B.all dgOk = true → (Op.bytesLess A B = true ↔ decN A < decN B) ∧ (decN A = decN B → A = B)
  | [], [], _, _, _ => by simp [Op.bytesLess]
  | a :: A, b :: B, h, hA, hB => by
    have hl : A.length = B.length := by simpa using h
    simp only [List.all_cons, Bool.and_eq_true] at hA hB
    obtain ⟨ih1, ih2⟩ := less_dig A B hl hA.2 hB.2
    have a1 : 48 ≤ a.toNat ∧ a.toNat ≤ 57 := by simpa [dgOk] using hA.1
    have b1 : 48 ≤ b.toNat ∧ b.toNat ≤ 57 := by simpa [dgOk] using hB.1
    have x1 := decN_lt hA.2
    have y1 := decN_lt hB.2
    rw [← hl] at y1
    rw [decN_cons, decN_cons, ← hl]
    have hm := @mul_lex (a.toNat - 48) (b.toNat - 48) (decN A) (decN B) (10 ^ A.length) x1 y1
    have hm2 := @mul_lex (b.toNat - 48) (a.toNat - 48) (decN B) (decN A) (10 ^ A.length) y1 x1
    constructor
    · simp only [Op.bytesLess, Bool.or_eq_true, Bool.and_eq_true, decide_eq_true_eq, beq_iff_eq]
      rw [hm]
      constructor
      · rintro (h1 | ⟨rfl, h1⟩)
        · have : a.toNat < b.toNat := h1
          exact .inl (by omega)
        · exact .inr ⟨rfl, ih1.1 h1⟩
      · rintro (h1 | ⟨h1, h2⟩)
        · exact .inl (show a.toNat < b.toNat by omega)
        · exact .inr ⟨u8_ex (by omega), ih1.2 h2⟩
    · intro he
      have n1 : ¬ (a.toNat - 48 < b.toNat - 48 ∨ (a.toNat - 48 = b.toNat - 48 ∧ decN A < decN B)) := fun h => by have := hm.2 h; omega
      have n2 : ¬ (b.toNat - 48 < a.toNat - 48 ∨ (b.toNat - 48 = a.toNat - 48 ∧ decN B < decN A)) := fun h => by have := hm2.2 h; omega
      have e1 : a.toNat = b.toNat := by omega
      rw [u8_ex e1, ih2 (by omega)]
theorem less_pad {a b w : Nat} (ha : (Lib.decDigits a).length ≤ w) (hb : (Lib.decDigits b).length ≤ w) : (Op.bytesLess (padN a w) (padN b w) = true ↔ a < b) ∧ (padN a w = padN b w ↔ a = b) := by
  obtain ⟨h1, h2⟩ := less_dig (padN a w) (padN b w) (by rw [pad_len ha, pad_len hb]) (pad_all a w) (pad_all b w)
  rw [pad_dec, pad_dec] at h1 h2
  exact ⟨h1, fun h => by have := congrArg decN h; rwa [pad_dec, pad_dec] at this, h2⟩
theorem less_sep {A B : List UInt8} {c : UInt8} (h : A.length = B.length) : Op.bytesLess (A ++ [c]) (B ++ [c]) = true ↔ Op.bytesLess A B = true := by
  rw [less_app A B [c] [c] h]
  simp [Op.bytesLess]
theorem eq_app {A B C D : List UInt8} (h : A.length = B.length) : A ++ C = B ++ D ↔ A = B ∧ C = D := ⟨fun e => List.append_inj e h, fun e => by rw [e.1, e.2]⟩
theorem less_date {y m d y' m' d' : Nat} (hy : y < 10000) (hm : m < 100) (hd : d < 100) (hy' : y' < 10000) (hm' : m' < 100) (hd' : d' < 100) :
    (Op.bytesLess (dateT y m d) (dateT y' m' d') = true ↔ y < y' ∨ (y = y' ∧ (m < m' ∨ (m = m' ∧ d < d')))) ∧ (dateT y m d = dateT y' m' d' ↔ y = y' ∧ m = m' ∧ d = d') := by
  have l1 := pad_len (four_le hy)
  have l1' := pad_len (four_le hy')
  have l2 := pad_len (two_le hm)
  have l2' := pad_len (two_le hm')
  obtain ⟨p1, q1⟩ := less_pad (four_le hy) (four_le hy')
  obtain ⟨p2, q2⟩ := less_pad (two_le hm) (two_le hm')
  obtain ⟨p3, q3⟩ := less_pad (two_le hd) (two_le hd')
  have e1 : (padN y 4 ++ [45]).length = (padN y' 4 ++ [45]).length := by simp only [List.length_append, l1, l1']
  have e2 : (padN y 4 ++ [45] ++ padN m 2).length = (padN y' 4 ++ [45] ++ padN m' 2).length := by simp only [List.length_append, l1, l1', l2, l2']
  have e3 : (padN y 4 ++ [45] ++ padN m 2 ++ [45]).length = (padN y' 4 ++ [45] ++ padN m' 2 ++ [45]).length := by simp only [List.length_append, l1, l1', l2, l2']
  unfold dateT
  constructor
  · rw [less_app _ _ _ _ e3, less_sep e2, less_app _ _ _ _ e1, less_sep (l1.trans l1'.symm), p1, p2, p3, eq_app e2, eq_app e1, eq_app (l1.trans l1'.symm), q1, q2]
    constructor
    · rintro ((h | ⟨⟨h, _⟩, h2⟩) | ⟨⟨⟨⟨h, _⟩, h2⟩, _⟩, h3⟩)
      · exact .inl h
      · exact .inr ⟨h, .inl h2⟩
      · exact .inr ⟨h, .inr ⟨h2, h3⟩⟩
    · rintro (h | ⟨h, h2 | ⟨h2, h3⟩⟩)
      · exact .inl (.inl h)
      · exact .inl (.inr ⟨⟨h, rfl⟩, h2⟩)
      · exact .inr ⟨⟨⟨⟨h, rfl⟩, h2⟩, rfl⟩, h3⟩
  · rw [eq_app e3, eq_app e2, eq_app e1, eq_app (l1.trans l1'.symm), q1, q2, q3]
    constructor
    · rintro ⟨⟨⟨⟨a, _⟩, b⟩, _⟩, c⟩; exact ⟨a, b, c⟩
    · rintro ⟨a, b, c⟩; exact ⟨⟨⟨⟨a, rfl⟩, b⟩, rfl⟩, c⟩
theorem less_clock {h m h' m' : Nat} (hh : h < 100) (hm : m < 100) (hh' : h' < 100) (hm' : m' < 100) :
    Op.bytesLess (clockT h m) (clockT h' m') = true ↔ h < h' ∨ (h = h' ∧ m < m') := by
  have l1 := pad_len (two_le hh)
  have l1' := pad_len (two_le hh')
  obtain ⟨p1, q1⟩ := less_pad (two_le hh) (two_le hh')
  obtain ⟨p2, q2⟩ := less_pad (two_le hm) (two_le hm')
  have e1 : (padN h 2 ++ [58]).length = (padN h' 2 ++ [58]).length := by simp only [List.length_append, l1, l1']
  unfold clockT
  rw [less_app _ _ _ _ e1, less_sep (l1.trans l1'.symm), p1, p2, eq_app (l1.trans l1'.symm), q1]
  constructor
  · rintro (h | ⟨⟨h, _⟩, h2⟩)
    · exact .inl h
    · exact .inr ⟨h, h2⟩
  · rintro (h | ⟨h, h2⟩)
    · exact .inl h
    · exact .inr ⟨⟨h, rfl⟩, h2⟩
theorem day_lt {y y' d d' : Int} {m m' : Nat} (h : IsD y m d) (h' : IsD y' m' d') (hl : y < y' ∨ (y = y' ∧ (m < m' ∨ (m = m' ∧ d < d')))) : dayN y m d < dayN y' m' d' := by
  rcases hl with hl | ⟨rfl, hl | ⟨rfl, hl⟩⟩
  · have := h.hi; have := h'.lo; have := yd_mono hl; omega
  · have h5 := md_succ (leapB y) (m - 1)
    have a1 := h.m1; have a2 := h.d2; have a3 := h'.d1; have a4 := h'.m2
    rw [show m - 1 + 1 = m by omega] at h5
    have h6 := md_mono (b := leapB y) (j := m) (k := m' - 1) (by omega) (by omega)
    unfold dayN; omega
  · unfold dayN; omega
theorem day_lex {y y' d d' : Int} {m m' : Nat} (h : IsD y m d) (h' : IsD y' m' d') : dayN y m d < dayN y' m' d' ↔ y < y' ∨ (y = y' ∧ (m < m' ∨ (m = m' ∧ d < d'))) := by
  constructor
  · intro hl
    apply Classical.byContradiction; intro hn
    by_cases he : y = y' ∧ m = m' ∧ d = d'
    · obtain ⟨rfl, rfl, rfl⟩ := he; omega
    · have := day_lt h' h (by omega)
      omega
  · exact day_lt h h'

def maxMin : Int := 52596000
noncomputable def instT (t : Int) : List UInt8 := dateT (dY (t / 1440)).toNat (dM (t / 1440)) (dD (t / 1440)).toNat ++ [32] ++ clockT (t % 1440 / 60).toNat (t % 1440 % 60).toNat
noncomputable def fiT (t : Int) : List UInt8 := if 0 ≤ t ∧ t < 52596000 then instT t else []
def fiE (t : Int) : Int := if 0 ≤ t ∧ t < 52596000 then 0 else 5
theorem inst_in {t : Int} (h : 0 ≤ t ∧ t < 52596000) : inDay (t / 1440) := by unfold inDay; omega
/-- The fields of an instant. -/
theorem inst_fields {t : Int} (h : 0 ≤ t ∧ t < 52596000) : ∃ Y k D H M : Nat, dY (t / 1440) = (Y : Int) ∧ dM (t / 1440) = k ∧ dD (t / 1440) = (D : Int) ∧ IsD (Y : Int) k (D : Int) ∧ 1999 ≤ Y ∧ Y ≤ 2100 ∧ k ≤ 12 ∧ D ≤ 31 ∧ dayN (Y : Int) k (D : Int) = t / 1440 ∧ t % 1440 / 60 = (H : Int) ∧ t % 1440 % 60 = (M : Int) ∧ H < 24 ∧ M < 60 ∧ instT t = dateT Y k D ++ [32] ++ clockT H M := by
  have hi := inst_in h
  obtain ⟨h1, h2⟩ := dP_in hi
  obtain ⟨y1, y2⟩ := dP_years hi
  have d1 := h1.d1
  have d2 := h1.d2
  have mp := ml_pos (b := leapB (dY (t / 1440))) h1.m1 h1.m2
  obtain ⟨Y, hY⟩ : ∃ Y : Nat, dY (t / 1440) = (Y : Int) := ⟨(dY (t / 1440)).toNat, by omega⟩
  obtain ⟨D, hD⟩ : ∃ D : Nat, dD (t / 1440) = (D : Int) := ⟨(dD (t / 1440)).toNat, by omega⟩
  obtain ⟨H, hH⟩ : ∃ H : Nat, t % 1440 / 60 = (H : Int) := ⟨(t % 1440 / 60).toNat, by omega⟩
  obtain ⟨M, hM⟩ : ∃ M : Nat, t % 1440 % 60 = (M : Int) := ⟨(t % 1440 % 60).toNat, by omega⟩
  refine ⟨Y, dM (t / 1440), D, H, M, hY, rfl, hD, ?_, by omega, by omega, h1.m2, by omega, ?_, hH, hM, by omega, by omega, ?_⟩
  · rw [← hY, ← hD]; exact h1
  · rw [← hY, ← hD]; exact h2
  · unfold instT; rw [hY, hD, hH, hM]; rfl
theorem inst_less {t u : Int} (ht : 0 ≤ t ∧ t < 52596000) (hu : 0 ≤ u ∧ u < 52596000) : Op.bytesLess (fiT t) (fiT u) = decide (t < u) := by
  unfold fiT
  rw [if_pos ht, if_pos hu]
  obtain ⟨Y, k, D, H, M, _, _, _, hI, y1, y2, k2, d2, hN, hH, hM, h2, m2, hT⟩ := inst_fields ht
  obtain ⟨Y', k', D', H', M', _, _, _, hI', y1', y2', k2', d2', hN', hH', hM', h2', m2', hT'⟩ := inst_fields hu
  rw [hT, hT']
  obtain ⟨p1, q1⟩ := less_date (y := Y) (m := k) (d := D) (y' := Y') (m' := k') (d' := D') (by omega) (by omega) (by omega) (by omega) (by omega) (by omega)
  have p2 := less_clock (h := H) (m := M) (h' := H') (m' := M') (by omega) (by omega) (by omega) (by omega)
  have l1 := dateT_len (y := Y) (m := k) (d := D) (by omega) (by omega) (by omega)
  have l1' := dateT_len (y := Y') (m := k') (d := D') (by omega) (by omega) (by omega)
  have e1 : (dateT Y k D ++ [32]).length = (dateT Y' k' D' ++ [32]).length := by simp only [List.length_append, l1, l1']
  have hx := day_lex hI hI'
  rw [hN, hN'] at hx
  have huq : t / 1440 = u / 1440 → (Y : Int) = Y' ∧ k = k' ∧ (D : Int) = D' := fun h => hI.unique hI' (by rw [hN, hN', h])
  have huq2 : ((Y : Int) = Y' ∧ k = k' ∧ (D : Int) = D') → t / 1440 = u / 1440 := by
    rintro ⟨a, b, c⟩
    rw [← hN, ← hN', a, b, c]
  have goal : Op.bytesLess (dateT Y k D ++ [32] ++ clockT H M) (dateT Y' k' D' ++ [32] ++ clockT H' M') = true ↔ t < u := by
    rw [less_app _ _ _ _ e1, less_sep (l1.trans l1'.symm), p1, p2, eq_app (l1.trans l1'.symm), q1]
    have key : t < u ↔ t / 1440 < u / 1440 ∨ (t / 1440 = u / 1440 ∧ (H < H' ∨ (H = H' ∧ M < M'))) := by omega
    rw [key, hx]
    constructor
    · rintro (h | ⟨⟨⟨a, b, c⟩, _⟩, h⟩)
      · exact .inl (by omega)
      · exact .inr ⟨huq2 ⟨by omega, b, by omega⟩, h⟩
    · rintro (h | ⟨a, h⟩)
      · exact .inl (by omega)
      · obtain ⟨a1, a2, a3⟩ := huq a
        exact .inr ⟨⟨⟨by omega, a2, by omega⟩, rfl⟩, h⟩
  by_cases h : t < u
  · rw [decide_eq_true h]; exact goal.2 h
  · rw [decide_eq_false h]
    rw [Bool.eq_false_iff]; intro hc; exact h (goal.1 hc)
end Go.Proofs.YtpcagheghmbjfaaDoor

