/-
  The reference's Fields, at every line of at most 100000 bytes.
-/
import Derived.Test.YtdacigihhbcppaaDoorTbF
set_option linter.unusedVariables false
set_option linter.unusedSimpArgs false
namespace Go.Proofs.YtdacigihhbcppaaDoor
open Go.RowKit

theorem ext_take (l : List UInt8) (i j : Nat) : (⟨l.toArray⟩ : ByteArray).extract i j = ⟨((l.take j).drop i).toArray⟩ := by
  have : ((⟨l.toArray⟩ : ByteArray).extract i j).data = ((l.take j).drop i).toArray := by
    rw [ByteArray.data_extract]
    show l.toArray.extract i j = _
    simp [List.extract_eq_take_drop, List.drop_take]
  generalize (⟨l.toArray⟩ : ByteArray).extract i j = c at *
  cases c; simp_all
def one (cur : List UInt8) : List (List UInt8) := if 0 < cur.length then [cur] else []
/-- The fields of a rest, where a part has begun with cur. -/
def fw : List UInt8 → List UInt8 → List (List UInt8)
  | cur, [] => one cur
  | cur, c :: r => if c.toNat = 35 then one cur else if c.toNat = 32 then one cur ++ fw [] r else fw (cur ++ [c]) r
/-- The first part longer by cur. -/
def glue (cur : List UInt8) : List (List UInt8) → List (List UInt8)
  | [] => [cur]
  | p :: ps => (cur ++ p) :: ps
theorem u8_eq {a b : UInt8} : (a == b) = true ↔ a.toNat = b.toNat := by
  rw [beq_iff_eq, UInt8.toNat_inj]
theorem bef_nil (b : UInt8) : bef b [] = [] := by unfold bef; split <;> simp
theorem bef_cons (b c : UInt8) (r : List UInt8) : bef b (c :: r) = if c.toNat = b.toNat then [] else c :: bef b r := by
  unfold bef
  rw [idx_cons]
  have h0 := idx_lo r b
  by_cases hc : c.toNat = b.toNat
  · rw [if_pos hc, if_pos (u8_eq.2 hc)]; simp
  · have hc2 : ¬ (c == b) = true := fun h => hc (u8_eq.1 h)
    rw [if_neg hc, if_neg hc2]
    by_cases h1 : idx r b = -1
    · have e1 : (idx r b == -1) = true := by rw [beq_iff_eq]; exact h1
      rw [if_pos e1, if_pos h1, if_pos rfl]
    · have e1 : ¬ (idx r b == -1) = true := by rw [beq_iff_eq]; exact h1
      rw [if_neg e1, if_neg h1, if_neg (show ¬ idx r b + 1 = -1 by omega)]
      rw [show (idx r b + 1).toNat = (idx r b).toNat + 1 by omega]; rfl
theorem ne_one (p : List UInt8) : ne_ [p] = one p := by unfold ne_ one; by_cases h : 0 < p.length <;> simp [h]
theorem ne_cons (p : List UInt8) (ps : List (List UInt8)) : ne_ (p :: ps) = one p ++ ne_ ps := by unfold ne_ one; by_cases h : 0 < p.length <;> simp [h]
theorem fw_glue : ∀ (r cur : List UInt8), fw cur r = ne_ (glue cur (pieces 32 (bef 35 r)))
  | [], cur => by rw [bef_nil]; unfold fw pieces; show _ = ne_ [cur ++ []]; rw [List.append_nil, ne_one]
  | c :: r, cur => by
    rw [bef_cons]
    unfold fw
    by_cases h1 : c.toNat = 35
    · rw [if_pos h1, if_pos (show c.toNat = (35 : UInt8).toNat from h1)]
      unfold pieces
      show _ = ne_ [cur ++ []]
      rw [List.append_nil, ne_one]
    · rw [if_neg h1, if_neg (show ¬ c.toNat = (35 : UInt8).toNat from h1)]
      conv => rhs; unfold pieces
      by_cases h2 : c.toNat = 32
      · rw [if_pos h2, if_pos (u8_eq.2 (show c.toNat = (32 : UInt8).toNat from h2))]
        show _ = ne_ ((cur ++ []) :: _)
        rw [List.append_nil, ne_cons, fw_glue r []]
        congr 2
        have hn := pieces_ne 32 (bef 35 r)
        cases h : pieces 32 (bef 35 r) with
        | nil => exact absurd h hn
        | cons p ps => rfl
      · rw [if_neg h2, if_neg (fun h => h2 (u8_eq.1 h)), fw_glue r (cur ++ [c])]
        have hn := pieces_ne 32 (bef 35 r)
        cases h : pieces 32 (bef 35 r) with
        | nil => exact absurd h hn
        | cons p ps => simp [glue]
theorem fields_fw (l : List UInt8) : fieldsV l = fw [] l := by
  rw [fw_glue]
  unfold fieldsV
  have hn := pieces_ne 32 (bef 35 l)
  cases h : pieces 32 (bef 35 l) with
  | nil => exact absurd h hn
  | cons p ps => rfl

/-- Where the current part begins: F, -1 for none. -/
def Cur (l : List UInt8) (L k : Nat) (F : Int) (cur : List UInt8) : Prop := (F = -1 ∧ cur = []) ∨ ∃ f : Nat, F = (f : Int) ∧ f < k ∧ k ≤ L ∧ cur = (l.take k).drop f
theorem cur_len {l : List UInt8} {L k f : Nat} (hl : l.length = L) (hk : k ≤ L) (hf : f < k) : 0 < ((l.take k).drop f).length := by
  rw [List.length_drop, List.length_take]; omega
theorem cur_next {l : List UInt8} {k f : Nat} (hk : k < l.length) (hf : f ≤ k) : (l.take (k + 1)).drop f = (l.take k).drop f ++ [bAt l k] := by
  rw [List.take_succ_eq_append_getElem hk, bAt_get hk, List.drop_append_of_le_length (by rw [List.length_take]; omega)]
theorem below_append {B : Nat} {w wr w1 : World} {v : Value} {k : Nat} {xs : List Value} {tmp : Obj} (hB : Below B w wr) (hrow : wr.ownsRow B 9 1 v k xs) (hgrow : (wr.alloc tmp).grownBy w1 v.ownBlock) (hw : B ≤ wr.heap.size) : Below B w w1 :=
  (hB.alloc hw tmp).grown hgrow (by simp; omega) (fun k e => (ownsRow_block hrow k e).1)
theorem owns_snoc {B : Nat} {w1 : World} {v : Value} {acc : List (List UInt8)} {cur : List UInt8} (h : w1.ownsRow B 9 1 v (acc.length + 1) (acc.map strV ++ [.string ⟨cur.toArray⟩])) : w1.ownsRow B 9 1 v (acc ++ [cur]).length ((acc ++ [cur]).map strV) := by
  simpa [strV] using h
set_option maxHeartbeats 8000000 in
set_option maxRecDepth 100000 in
theorem rfields_any (l : List UInt8) (hl : l.length ≤ 100000) (w : World) : Calls Tryd.prog 15 #[.string ⟨l.toArray⟩] w (RetStrs w (fieldsV l)) := by
  obtain ⟨i0, hi, hz0, hz1, hz2⟩ := info_parts str_info
  have hsz := bsize l
  obtain ⟨L, HL⟩ : ∃ L, Hid (l.length = L) := ⟨_, rfl⟩
  rw [HL.out] at hsz hl
  have HF := Lib.hid (fields_fw l)
  obtain ⟨FV, HFV⟩ : ∃ v, Hid (fieldsV l = v) := ⟨_, rfl⟩
  rw [HFV.out] at HF ⊢
  go_enter Tryd.func15, Tryd.ntmps15
  go_wp2_with fail
  go_loopw [3, 4, 5] (fun v fr i wr => ∃ (k : Nat) (F : Int) (acc : List (List UInt8)) (cur : List UInt8), k ≤ L + 1 ∧ i = .int .i64 k ∧ fr = .int .i64 F ∧ Hid (Cur l L k F cur) ∧ wr.ownsRow w.heap.size 9 1 v acc.length (acc.map strV) ∧ Below w.heap.size w wr ∧ Hid (FV = acc ++ fw cur (l.drop k)) ∧ acc.length ≤ k ∧ -1 ≤ F ∧ F ≤ L)
    (fun _ _ i _ => L + 2 - (intOf i).toNat)
  case atStart => exact ⟨0, -1, [], [], by omega, rfl, rfl, .inl ⟨rfl, rfl⟩, World.ownsRow_nil _ _ _ _, Below.refl _ _, by unfold Hid; rw [HF.out]; rfl, by simp, by omega, by omega⟩
  case round =>
    obtain ⟨k, F, acc, cur, hk, rfl, rfl, HC, hrow, hB, HA, hal, hF1, hF2⟩ := hrel
    by_cases hlt : k ≤ L
    rotate_left
    · obtain rfl : k = L + 1 := by omega
      have h1 : FV = acc := by
        have h := HA.out
        rcases HC.out with ⟨_, h2⟩ | ⟨f, _, _, h3, _⟩
        · rw [h, h2, List.drop_eq_nil_of_le (by rw [HL.out]; omega)]; simp [fw, one]
        · omega
      have j1 : decide (((L + 1 : Nat) : Int) ≤ (L : Int)) = false := by simp; omega
      have j2 : ¬ ((L : Int) + 1 ≤ (L : Int)) := by omega
      subst h1
      go_wp2_with fail
      go_ret
      exact ⟨_, rfl, hrow, hB⟩
    have hBs := hB.size
    have j1 : (k : Int) ≤ (L : Int) := by omega
    have j0 : (0 : Int) ≤ (k : Int) := by omega
    have hM1 : acc.length + 1 ≤ maxLen := by unfold maxLen; omega
    have hM2 : (acc.length + 1) * 16 ≤ 140737488355328 := by omega
    by_cases hkl : k = L
    · have hn : l.drop k = [] := List.drop_eq_nil_of_le (by rw [HL.out]; omega)
      have hn2 : l.drop (k + 1) = [] := List.drop_eq_nil_of_le (by rw [HL.out]; omega)
      rw [hn] at HA
      have e0 : ((k : Int) == (L : Int)) = true := by rw [beq_iff_eq]; omega
      have e2 : decide ((k : Int) < (L : Int)) = false := by simp; omega
      have hkl2 := Lib.hid hkl
      clear hkl hn
      have HN2 := Lib.hid hn2
      clear hn2
      rcases HC.out with ⟨rfl, h2⟩ | ⟨f, rfl, hf, _, h2⟩
      · subst h2
        clear HC
        go_wp2_with fail
        go_roundw
        case rel => exact ⟨k + 1, -1, acc, [], by omega, by go_num, rfl, (by unfold Hid; exact .inl ⟨rfl, rfl⟩), hrow, hB, (by unfold Hid; rw [HN2.out]; exact HA.out), by omega, by omega, by omega⟩
        case measure => simp [intOf]; omega
      · have hc := cur_len (l := l) HL.out hlt hf
        have hx : (⟨l.toArray⟩ : ByteArray).extract f k = ⟨cur.toArray⟩ := by rw [ext_take, h2]
        have hone : Hid (fw cur [] = [cur]) := by unfold Hid; rw [h2]; unfold fw one; rw [if_pos hc]
        have q1 : (0 : Int) ≤ (f : Int) := by omega
        have q2 : (f : Int) ≤ (k : Int) := by omega
        clear h2 hc HC
        go_wp2_with (at_builtin; refine wpList_append_own_at _ rfl _ _ 23 rfl w.heap.size 9 i0 (.string ⟨#[]⟩) 1 16 Tryd.underlying23 hi hz0 hz1 hz2 rfl (by decide) _ _ _ rfl (hrow.alloc _) ⟨wr.heap.size, 0, none⟩ 1 1 [.string ⟨cur.toArray⟩] rfl rfl (cell_one_new _ _ _) (by simp [Value.oneCell']) hM1 hM2 (by rw [World.size_alloc]; omega) ?_; intro v' w1 hown' hgrow _ _; have hB2 := below_append hB hrow hgrow hB.size; have hown2 := owns_snoc hown'; clear hgrow)
        go_roundw
        case rel => exact ⟨k + 1, -1, (acc ++ [cur]), [], by omega, by go_num, rfl, (by unfold Hid; exact .inl ⟨rfl, rfl⟩), hown2, hB2, (by unfold Hid; rw [HN2.out, HA.out, hone.out]; simp [fw, one]), by simp; omega, by omega, by omega⟩
        case measure => simp [intOf]; omega
    have hlt2 : k < L := by omega
    have e0 : ((k : Int) == (L : Int)) = false := by rw [beq_eq_false_iff_ne]; omega
    have e2 : (k : Int) < (L : Int) := by omega
    have hg := bget (l := l) (k := k) (by rw [HL.out]; exact hlt2)
    have hdr := drop_bAt (l := l) (k := k) (by rw [HL.out]; exact hlt2)
    have hcn := fun f hf => cur_next (l := l) (k := k) (f := f) (by rw [HL.out]; exact hlt2) hf
    obtain ⟨b, Hb⟩ : ∃ v, Hid (bAt l k = v) := ⟨_, rfl⟩
    rw [Hb.out] at hg hdr
    simp only [Hb.out] at hcn
    rw [hdr] at HA
    obtain ⟨n, HN⟩ : ∃ v, Hid (b.toNat = v) := ⟨_, rfl⟩
    have hg2 : ∀ h, ((⟨l.toArray⟩ : ByteArray)[k]'h).toNat = n := fun h => by rw [hg h]; exact HN.out
    have HA0 := HA.out
    unfold fw at HA0
    rw [HN.out] at HA0
    have HCN := Lib.hid hcn
    clear hg hdr hkl HA hcn
    by_cases h35 : n = 35
    · rw [if_pos h35] at HA0
      have u1 : ((n : Int) == 32) = false := by rw [beq_eq_false_iff_ne]; omega
      have u2 : ((n : Int) == 35) = true := by rw [beq_iff_eq]; omega
      have HA1 := Lib.hid HA0
      clear HA0 h35
      rcases HC.out with ⟨rfl, h2⟩ | ⟨f, rfl, hf, _, h2⟩
      · subst h2
        clear HC
        have h1 : FV = acc := by rw [HA1.out]; simp [one]
        subst h1
        go_wp2_with fail
        go_ret
        exact ⟨_, rfl, hrow, hB⟩
      · have hc := cur_len (l := l) HL.out hlt hf
        have hx : (⟨l.toArray⟩ : ByteArray).extract f k = ⟨cur.toArray⟩ := by rw [ext_take, h2]
        have hone : FV = acc ++ [cur] := by rw [HA1.out, h2]; unfold one; rw [if_pos hc]
        have q1 : (0 : Int) ≤ (f : Int) := by omega
        have q2 : (f : Int) ≤ (k : Int) := by omega
        clear h2 hc HC HA1 HFV HF
        subst hone
        go_wp2_with (at_builtin; refine wpList_append_own_at _ rfl _ _ 23 rfl w.heap.size 9 i0 (.string ⟨#[]⟩) 1 16 Tryd.underlying23 hi hz0 hz1 hz2 rfl (by decide) _ _ _ rfl (hrow.alloc _) ⟨wr.heap.size, 0, none⟩ 1 1 [.string ⟨cur.toArray⟩] rfl rfl (cell_one_new _ _ _) (by simp [Value.oneCell']) hM1 hM2 (by rw [World.size_alloc]; omega) ?_; intro v' w1 hown' hgrow _ _; have hB2 := below_append hB hrow hgrow hB.size; have hown2 := owns_snoc hown'; clear hgrow)
        go_ret
        exact ⟨_, rfl, hown2, hB2⟩
    have u2 : ((n : Int) == 35) = false := by rw [beq_eq_false_iff_ne]; omega
    rw [if_neg h35] at HA0
    by_cases h32 : n = 32
    · rw [if_pos h32] at HA0
      have u1 : ((n : Int) == 32) = true := by rw [beq_iff_eq]; omega
      have HA1 := Lib.hid HA0
      clear HA0 h32 h35
      rcases HC.out with ⟨rfl, h2⟩ | ⟨f, rfl, hf, _, h2⟩
      · subst h2
        clear HC
        go_wp2_with fail
        go_roundw
        case rel => exact ⟨k + 1, -1, acc, [], by omega, by go_num, rfl, (by unfold Hid; exact .inl ⟨rfl, rfl⟩), hrow, hB, (by unfold Hid; rw [HA1.out]; simp [one]), by omega, by omega, by omega⟩
        case measure => simp [intOf]; omega
      · have hc := cur_len (l := l) HL.out hlt hf
        have hx : (⟨l.toArray⟩ : ByteArray).extract f k = ⟨cur.toArray⟩ := by rw [ext_take, h2]
        have hone : Hid (one cur = [cur]) := by unfold Hid; rw [h2]; unfold one; rw [if_pos hc]
        have q1 : (0 : Int) ≤ (f : Int) := by omega
        have q2 : (f : Int) ≤ (k : Int) := by omega
        clear h2 hc HC
        go_wp2_with (at_builtin; refine wpList_append_own_at _ rfl _ _ 23 rfl w.heap.size 9 i0 (.string ⟨#[]⟩) 1 16 Tryd.underlying23 hi hz0 hz1 hz2 rfl (by decide) _ _ _ rfl (hrow.alloc _) ⟨wr.heap.size, 0, none⟩ 1 1 [.string ⟨cur.toArray⟩] rfl rfl (cell_one_new _ _ _) (by simp [Value.oneCell']) hM1 hM2 (by rw [World.size_alloc]; omega) ?_; intro v' w1 hown' hgrow _ _; have hB2 := below_append hB hrow hgrow hB.size; have hown2 := owns_snoc hown'; clear hgrow)
        go_roundw
        case rel => exact ⟨k + 1, -1, (acc ++ [cur]), [], by omega, by go_num, rfl, (by unfold Hid; exact .inl ⟨rfl, rfl⟩), hown2, hB2, (by unfold Hid; rw [HA1.out, hone.out]; simp), by simp; omega, by omega, by omega⟩
        case measure => simp [intOf]; omega
    rw [if_neg h32] at HA0
    have u1 : ((n : Int) == 32) = false := by rw [beq_eq_false_iff_ne]; omega
    have HA1 := Lib.hid HA0
    clear HA0 h32 h35
    rcases HC.out with ⟨rfl, h2⟩ | ⟨f, rfl, hf, _, h2⟩
    · subst h2
      clear HC
      go_wp2_with fail
      go_roundw
      case rel => exact ⟨k + 1, k, acc, [b], by omega, by go_num, rfl, (by unfold Hid; exact .inr ⟨k, rfl, by omega, by omega, by rw [HCN.out k (Nat.le_refl _), List.drop_eq_nil_of_le (by rw [List.length_take]; omega)]; rfl⟩), hrow, hB, (by unfold Hid; exact HA1.out), by omega, by omega, by omega⟩
      case measure => simp [intOf]; omega
    · have q1 : decide ((f : Int) < 0) = false := by simp
      clear HC
      go_wp2_with fail
      go_roundw
      case rel => exact ⟨k + 1, f, acc, (cur ++ [b]), by omega, by go_num, rfl, (by unfold Hid; exact .inr ⟨f, rfl, by omega, by omega, by rw [HCN.out f (by omega), h2]⟩), hrow, hB, HA1, by omega, by omega, by omega⟩
      case measure => simp [intOf]; omega
end Go.Proofs.YtdacigihhbcppaaDoor

