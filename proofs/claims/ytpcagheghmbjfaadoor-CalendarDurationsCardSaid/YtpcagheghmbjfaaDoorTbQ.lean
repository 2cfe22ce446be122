/-
  The law TextJoined walked: the lines of a text, joined with bytes 10, give the text again, except for a last byte 10.
-/
import Derived.Test.YtpcagheghmbjfaaDoorTbP
import Derived.Test.YtpcagheghmbjfaaDoorTbL
set_option linter.unusedVariables false
set_option linter.unusedSimpArgs false
namespace Go.Proofs.YtpcagheghmbjfaaDoor
open Go.RowKit

/-- What Lines returns: a slice that reads as these texts, and the error. -/
def RetSE (w : World) (fs : List (List UInt8)) (err : Int) (e : Ending) (w' : World) : Prop := ∃ a n c, e = .returned (.tuple #[.slice a n c, .int .i64 err]) ∧ SIn w' a n fs ∧ n ≤ c ∧ c ≤ 9223372036854775807 ∧ (∀ x, a = some x → x.block < w'.heap.size) ∧ Below w.heap.size w w'
/-- The lines of a rest without their ends, where a line has begun with cur. -/
def lw : List UInt8 → List UInt8 → List (List UInt8)
  | cur, [] => one cur
  | cur, c :: r => if c.toNat = 10 then cur :: lw [] r else lw (cur ++ [c]) r
theorem trim_snoc (x : List UInt8) (c : UInt8) : trim (x ++ [c]) = if c.toNat = 10 then x else x ++ [c] := by
  unfold trim
  have h1 : bAt (x ++ [c]) ((x ++ [c]).length - 1) = c := by
    unfold bAt; simp [List.getD]
  rw [h1]
  by_cases h : c.toNat = 10
  · rw [if_pos ⟨by simp, h⟩, if_pos h]; simp
  · rw [if_neg (fun h' => h h'.2), if_neg h]
theorem trim_app (x : List UInt8) {p : List UInt8} (hp : p ≠ []) : trim (x ++ p) = x ++ trim p := by
  obtain ⟨q, c, rfl⟩ : ∃ q c, p = q ++ [c] := ⟨p.dropLast, p.getLast hp, (List.dropLast_concat_getLast hp).symm⟩
  rw [← List.append_assoc, trim_snoc, trim_snoc]
  split
  · rfl
  · rw [List.append_assoc]
theorem lp_ne : ∀ l, ∀ p ∈ lp l, p ≠ []
  | [], p, h => by simp [lp] at h
  | c :: r, p, h => by
    unfold lp at h
    split at h
    · rcases List.mem_cons.1 h with rfl | h
      · simp
      · exact lp_ne r p h
    · split at h
      · simp at h; subst h; simp
      · rename_i p' ps hp
        rcases List.mem_cons.1 h with rfl | h
        · simp
        · exact lp_ne r p (by rw [hp]; exact List.mem_cons_of_mem _ h)
theorem lp_nil {l : List UInt8} (h : lp l = []) : l = [] := by
  cases l with
  | nil => rfl
  | cons c r =>
    unfold lp at h
    split at h
    · cases h
    · split at h <;> cases h
def gl (cur : List UInt8) : List (List UInt8) → List (List UInt8)
  | [] => one cur
  | p :: ps => trim (cur ++ p) :: ps.map trim
theorem lw_gl : ∀ (r cur : List UInt8), lw cur r = gl cur (lp r)
  | [], cur => rfl
  | c :: r, cur => by
    unfold lw lp
    by_cases h : c.toNat = 10
    · rw [if_pos h, if_pos (u8_eq.2 (show c.toNat = (10 : UInt8).toNat from h))]
      show _ = trim (cur ++ [c]) :: _
      rw [trim_snoc, if_pos h, lw_gl r []]
      congr 1
      cases hp : lp r with
      | nil => rfl
      | cons p ps => simp [gl]
    · rw [if_neg h, if_neg (fun h' => h (u8_eq.1 h')), lw_gl r (cur ++ [c])]
      cases hp : lp r with
      | nil =>
        show one (cur ++ [c]) = [trim (cur ++ [c])]
        rw [trim_snoc, if_neg h]
        unfold one; rw [if_pos (by simp)]
      | cons p ps => simp [gl]
theorem lines_lw (l : List UInt8) : (lp l).map trim = lw [] l := by
  rw [lw_gl]
  cases hp : lp l with
  | nil => rfl
  | cons p ps => simp [gl]
theorem lw_nil : ∀ (r cur : List UInt8), lw cur r = [] → r = []
  | [], _, _ => rfl
  | c :: r, cur, h => by
    unfold lw at h
    split at h
    · cases h
    · have := lw_nil r _ h
      subst this
      unfold lw one at h
      rw [if_pos (by simp)] at h
      cases h
/-- Texts joined with bytes 10. -/
def jn : List (List UInt8) → List UInt8
  | [] => []
  | [x] => x
  | x :: y :: r => x ++ 10 :: jn (y :: r)
theorem jn_lw : ∀ (r cur : List UInt8), jn (lw cur r) = cur ++ r ∨ jn (lw cur r) ++ [10] = cur ++ r
  | [], cur => by
    left
    unfold lw one
    by_cases h : 0 < cur.length
    · rw [if_pos h]; simp [jn]
    · rw [if_neg h]
      have : cur = [] := List.eq_nil_of_length_eq_zero (by omega)
      rw [this]; rfl
  | c :: r, cur => by
    unfold lw
    by_cases h : c.toNat = 10
    · have hc : c = 10 := UInt8.toNat_inj.1 (by rw [h]; rfl)
      rw [if_pos h, hc]
      have ih := jn_lw r []
      cases hl : lw [] r with
      | nil =>
        have hr := lw_nil r [] hl
        right
        rw [hr]; rfl
      | cons y ys =>
        rw [hl, List.nil_append] at ih
        rcases ih with ih | ih
        · left; show cur ++ 10 :: jn (y :: ys) = _; rw [ih]
        · right; show (cur ++ 10 :: jn (y :: ys)) ++ [10] = _; rw [List.append_assoc, List.cons_append, ih]
    · rw [if_neg h]
      have ih := jn_lw r (cur ++ [c])
      simpa using ih
theorem jn_snoc : ∀ (ls : List (List UInt8)) (x : List UInt8), jn (ls ++ [x]) = if ls = [] then x else jn ls ++ 10 :: x
  | [], x => by simp [jn]
  | [y], x => by simp [jn]
  | y :: z :: r, x => by
    have ih := jn_snoc (z :: r) x
    rw [if_neg (by simp)] at ih ⊢
    show y ++ 10 :: jn (z :: r ++ [x]) = _
    rw [ih]
    show _ = (y ++ 10 :: jn (z :: r)) ++ 10 :: x
    simp
theorem str_app (x y : List UInt8) : (⟨x.toArray⟩ : ByteArray) ++ ⟨y.toArray⟩ = ⟨(x ++ y).toArray⟩ := by
  apply ByteArray.ext
  show (ByteArray.append _ _).data = _
  simp
theorem loopAll (b : ByteArray) : ∀ (n i : Nat) (r : List UInt8), i + n = b.size → ByteArray.toList.loop b i r = r.reverse ++ b.data.toList.drop i := by
  intro n
  induction n with
  | zero =>
    intro i r h
    unfold ByteArray.toList.loop
    have : ¬ i < b.size := by omega
    rw [if_neg this]
    have h2 : b.data.toList.length ≤ i := by
      have : b.data.toList.length = b.size := Array.length_toList
      omega
    rw [List.drop_eq_nil_of_le h2]; simp
  | succ n ih =>
    intro i r h
    unfold ByteArray.toList.loop
    have h1 : i < b.size := by omega
    rw [if_pos h1, ih (i+1) _ (by omega)]
    have h3 : i < b.data.toList.length := by rw [Array.length_toList]; exact h1
    rw [List.drop_eq_getElem_cons h3]
    have h4 : b.get! i = b.data.toList[i] := by
      have h5 : i < b.data.size := h1
      show b.data[i]! = _
      rw [getElem!_pos b.data i h5]
      rfl
    rw [h4]; simp
theorem toListD (b : ByteArray) : b.toList = b.data.toList := by
  unfold ByteArray.toList
  rw [loopAll b b.size 0 [] (by omega)]; simp
theorem jn_take {ls : List (List UInt8)} {k : Nat} (hk : k < ls.length) : jn (ls.take (k + 1)) = if k = 0 then sAt ls k else jn (ls.take k) ++ 10 :: sAt ls k := by
  have e1 : ls.take (k + 1) = ls.take k ++ [sAt ls k] := by rw [List.take_succ_eq_append_getElem hk]; simp [sAt, List.getD, List.getElem?_eq_getElem hk]
  rw [e1, jn_snoc]
  by_cases h : k = 0
  · subst h; simp
  · rw [if_neg h, if_neg (by intro h2; have h3 := congrArg List.length h2; rw [List.length_take, List.length_nil] at h3; omega)]
theorem jn_le : ∀ (ls : List (List UInt8)) (k : Nat), (jn (ls.take k)).length ≤ (jn ls).length
  | [], k => by simp [jn]
  | [x], 0 => by simp [jn]
  | [x], k + 1 => by simp
  | x :: y :: r, 0 => by simp [jn]
  | x :: y :: r, 1 => by simp [jn]
  | x :: y :: r, k + 2 => by
    have ih := jn_le (y :: r) (k + 1)
    show (x ++ 10 :: jn (y :: r.take k)).length ≤ (x ++ 10 :: jn (y :: r)).length
    rw [show (y :: r).take (k + 1) = y :: r.take k from rfl] at ih
    simp only [List.length_append, List.length_cons]
    omega
end Go.Proofs.YtpcagheghmbjfaaDoor

