/-
  The reference's Fields, at every line of at most 100000 bytes.
-/
import Derived.Test.YtpcagheghmbjfaaDoorTbF
set_option linter.unusedVariables false
set_option linter.unusedSimpArgs false
namespace Go.Proofs.YtpcagheghmbjfaaDoor
open Go.RowKit

theorem ext_take (l : List UInt8) (i j : Nat) : (⟨l.toArray⟩ : ByteArray).extract i j = ⟨((l.take j).drop i).toArray⟩ := by
  have : ((⟨l.toArray⟩ : ByteArray).extract i j).data = ((l.take j).drop i).toArray := by
    rw [ByteArray.data_extract]
    show l.toArray.extract i j = _
    simp [List.extract_eq_take_drop, List.drop_take]
  generalize (⟨l.toArray⟩ : ByteArray).extract i j = c at *
  cases c; simp_all
def one (cur : List UInt8) : List (List UInt8) := if 0 < cur.length then [cur] else []
/-- The fields of a rest, where a part has begun with cur. -/
def fw : List UInt8 → List UInt8 → List (List UInt8)
  | cur, [] => one cur
  | cur, c :: r => if c.toNat = 35 then one cur else if c.toNat = 32 then one cur ++ fw [] r else fw (cur ++ [c]) r
/-- The first part longer by cur. -/
def glue (cur : List UInt8) : List (List UInt8) → List (List UInt8)
  | [] => [cur]
  | p :: ps => (cur ++ p) :: ps
theorem u8_eq {a b : UInt8} : (a == b) = true ↔ a.toNat = b.toNat := by
  rw [beq_iff_eq, UInt8.toNat_inj]
theorem bef_nil (b : UInt8) : bef b [] = [] := by unfold bef; split <;> simp
theorem bef_cons (b c : UInt8) (r : List UInt8) : bef b (c :: r) = if c.toNat = b.toNat then [] else c :: bef b r := by
  unfold bef
  rw [idx_cons]
  have h0 := idx_lo r b
  by_cases hc : c.toNat = b.toNat
  · rw [if_pos hc, if_pos (u8_eq.2 hc)]; simp
  · have hc2 : ¬ (c == b) = true := fun h => hc (u8_eq.1 h)
    rw [if_neg hc, if_neg hc2]
    by_cases h1 : idx r b = -1
    · have e1 : (idx r b == -1) = true := by rw [beq_iff_eq]; exact h1
      rw [if_pos e1, if_pos h1, if_pos rfl]
    · have e1 : ¬ (idx r b == -1) = true := by rw [beq_iff_eq]; exact h1
      rw [if_neg e1, if_neg h1, if_neg (show ¬ idx r b + 1 = -1 by omega)]
      rw [show (idx r b + 1).toNat = (idx r b).toNat + 1 by omega]; rfl
theorem ne_one (p : List UInt8) : ne_ [p] = one p := by unfold ne_ one; by_cases h : 0 < p.length <;> simp [h]
theorem ne_cons (p : List UInt8) (ps : List (List UInt8)) : ne_ (p :: ps) = one p ++ ne_ ps := by unfold ne_ one; by_cases h : 0 < p.length <;> simp [h]
theorem fw_glue : ∀ (r cur : List UInt8), fw cur r = ne_ (glue cur (pieces 32 (bef 35 r)))
  | [], cur => by rw [bef_nil]; unfold fw pieces; show _ = ne_ [cur ++ []]; rw [List.append_nil, ne_one]
  | c :: r, cur => by
    rw [bef_cons]
    unfold fw
    by_cases h1 : c.toNat = 35
    · rw [if_pos h1, if_pos (show c.toNat = (35 : UInt8).toNat from h1)]
      unfold pieces
      show _ = ne_ [cur ++ []]
      rw [List.append_nil, ne_one]
    · rw [if_neg h1, if_neg (show ¬ c.toNat = (35 : UInt8).toNat from h1)]
      conv => rhs; unfold pieces
      by_cases h2 : c.toNat = 32
      · rw [if_pos h2, if_pos (u8_eq.2 (show c.toNat = (32 : UInt8).toNat from h2))]
        show _ = ne_ ((cur ++ []) :: _)
        rw [List.append_nil, ne_cons, fw_glue r []]
        congr 2
        have hn := pieces_ne 32 (bef 35 r)
        cases h : pieces 32 (bef 35 r) with
        | nil => exact absurd h hn
        | cons p ps => rfl
      · rw [if_neg h2, if_neg (fun h => h2 (u8_eq.1 h)), fw_glue r (cur ++ [c])]
        have hn := pieces_ne 32 (bef 35 r)
        cases h : pieces 32 (bef 35 r) with
        | nil => exact absurd h hn
        | cons p ps => simp [glue]
theorem fields_fw (l : List UInt8) : fieldsV l = fw [] l := by
  rw [fw_glue]
  unfold fieldsV
  have hn := pieces_ne 32 (bef 35 l)
  cases h : pieces 32 (bef 35 l) with
  | nil => exact absurd h hn
  | cons p ps => rfl

/-- Where the current part begins: F, -1 for none. -/
def Cur (l : List UInt8) (L k : Nat) (F : Int) (cur : List UInt8) : Prop := (F = -1 ∧ cur = []) ∨ ∃ f : Nat, F = (f : Int) ∧ f < k ∧ k ≤ L ∧ cur = (l.take k).drop f
theorem cur_len {l : List UInt8} {L k f : Nat} (hl : l.length = L) (hk : k ≤ L) (hf : f < k) : 0 < ((l.take k).drop f).length := by
  rw [List.length_drop, List.length_take]; omega
theorem cur_next {l : List UInt8} {k f : Nat} (hk : k < l.length) (hf : f ≤ k) : (l.take (k + 1)).drop f = (l.take k).drop f ++ [bAt l k] := by
  rw [List.take_succ_eq_append_getElem hk, bAt_get hk, List.drop_append_of_le_length (by rw [List.length_take]; omega)]
theorem below_append {B : Nat} {w wr w1 : World} {v : Value} {k : Nat} {xs : List Value} {tmp : Obj} (hB : Below B w wr) (hrow : wr.ownsRow B 9 1 v k xs) (hgrow : (wr.alloc tmp).grownBy w1 v.ownBlock) (hw : B ≤ wr.heap.size) : Below B w w1 :=
  (hB.alloc hw tmp).grown hgrow (by simp; omega) (fun k e => (ownsRow_block hrow k e).1)
theorem owns_snoc {B : Nat} {w1 : World} {v : Value} {acc : List (List UInt8)} {cur : List UInt8} (h : w1.ownsRow B 9 1 v (acc.length + 1) (acc.map strV ++ [.string ⟨cur.toArray⟩])) : w1.ownsRow B 9 1 v (acc ++ [cur]).length ((acc ++ [cur]).map strV) := by
  simpa [strV] using h
end Go.Proofs.YtpcagheghmbjfaaDoor

