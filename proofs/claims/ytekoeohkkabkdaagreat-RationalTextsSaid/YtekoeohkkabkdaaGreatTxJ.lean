/-
  The reference's Format: decimal digits from the lowest up, then turned round.
-/
import Derived.Test.YtekoeohkkabkdaaGreatTxI
import Derived.Laws.AppendOwnNone
import Derived.Deep.RegionHeld
set_option linter.unusedVariables false
set_option linter.unusedSimpArgs false
namespace Go.Proofs.YtekoeohkkabkdaaGreat
open Go.RowKit

theorem DivI.top {w wr : World} {g k r d : Nat} {da qs : List Nat} (h : DivI w wr g (k + 1) r d da da qs) : wr.cell? ⟨g, k, none⟩ = some (.int .u32 (da.getD k 0 : Nat)) := by
  obtain ⟨h1, h2, h3, _⟩ := h
  have hk : k < da.length := by omega
  rw [h1.cell (by simp; omega)]
  congr 3
  simp [List.getD, List.getElem?_append, hk]
  rw [if_pos (by omega)]
  rfl
def bcs (bs : List UInt8) : List Value := bs.map bcellv
theorem bcs_len (bs : List UInt8) : (bcs bs).length = bs.length := by simp [bcs]
theorem owns_keep {w w' : World} {base : Nat} {v : Value} {k : Nat} {xs : List Value} (h : w.ownsRow base 5 1 v k xs) (hb : ∀ b, v.ownBlock = some b → w'.heap[b]? = w.heap[b]?) : w'.ownsRow base 5 1 v k xs := by
  refine ⟨h.1, ?_⟩
  rcases h.2 with h | ⟨g, cap, cur, rfl, h2, h3, h4⟩
  · exact .inl h
  · exact .inr ⟨g, cap, cur, rfl, h2, (hb g rfl).trans h3, h4⟩
theorem owns_lt {w : World} {base : Nat} {v : Value} {k : Nat} {xs : List Value} (h : w.ownsRow base 5 1 v k xs) : ∀ b, v.ownBlock = some b → base ≤ b ∧ b < w.heap.size := by
  intro g hg
  rcases h.2 with ⟨rfl, _⟩ | ⟨g', cap, cur, rfl, h2, h3, _⟩
  · simp [Value.ownBlock] at hg
  · obtain rfl : g' = g := by simpa [Value.ownBlock] using hg
    refine ⟨h2, ?_⟩
    rcases Nat.lt_or_ge g' w.heap.size with h | h
    · exact h
    · rw [Array.getElem?_eq_none h] at h3; cases h3
theorem owns_only {w w' : World} {g base : Nat} {v : Value} {k : Nat} {xs : List Value} (h : w.ownsRow base 5 1 v k xs) (ho : Only g w w') (hne : v.ownBlock ≠ some g) : w'.ownsRow base 5 1 v k xs :=
  owns_keep h fun b hb => ho.block b (fun e => hne (by rw [hb, e]))
theorem owns_alloc {w : World} {base : Nat} {v : Value} {k : Nat} {xs : List Value} (h : w.ownsRow base 5 1 v k xs) (o : Obj) : (w.alloc o).ownsRow base 5 1 v k xs :=
  owns_keep h fun b hb => Below.heap_alloc w o b (owns_lt h b hb).2
/-- What holds at the head of the outer loop: r is left, bs is written (the lowest digit first). -/
def FmI (w wr : World) (g t : Nat) (v0 v1 : Value) (r V : Nat) (bv : Value) (bs : List UInt8) : Prop :=
  Row wr g (digs r) ∧ (digs r).length = t ∧ wr.ownsRow (w.heap.size + 1) 5 1 bv bs.length (bcs bs) ∧ bv.ownBlock ≠ some g ∧ Own wr w.heap.size 24 v0 v1 ∧ Below w.heap.size w wr ∧ w.heap.size < g ∧
    decs V = (if r = 0 then [] else decs r) ++ bs.reverse
theorem decs_step {V r : Nat} {bs : List UInt8} (h0 : r ≠ 0) (h : decs V = (if r = 0 then [] else decs r) ++ bs.reverse) : decs V = (if r / 10 = 0 then [] else decs (r / 10)) ++ (bs ++ [dch (r % 10)]).reverse := by
  rw [h, if_neg h0, List.reverse_append]
  by_cases h10 : r < 10
  · rw [if_pos (by omega), decs_small h10, Nat.mod_eq_of_lt h10]; rfl
  · rw [if_neg (by omega), decs_big (by omega)]; simp
theorem bcs_snoc (bs : List UInt8) (d : Nat) (hd : d < 10) : bcs bs ++ [.int .u8 (48 + (d : Int))] = bcs (bs ++ [dch d]) := by
  unfold bcs
  rw [List.map_append]
  congr 1
  show _ = [bcellv (dch d)]
  unfold bcellv
  rw [dch_toNat hd]
  simp
theorem bcs_snoc45 (bs : List UInt8) : bcs bs ++ [.int .u8 45] = bcs (bs ++ [45]) := by
  unfold bcs
  rw [List.map_append]
  rfl
/-- One round of the outer loop is done. -/
theorem FmI.next {w wr wi w0 w1 : World} {g t r V c : Nat} {v0 v1 bv bv1 : Value} {bs : List UInt8} {qs : List Nat} (h : FmI w wr g t v0 v1 r V bv bs) (h0 : r ≠ 0)
    (hD : DivI wr wi g 0 c 10 (digs r) (digs r) qs) (hO : Only g wr wi) {o : Obj} (he : w0 = wi.alloc o)
    (hown : w1.ownsRow (w.heap.size + 1) 5 1 bv1 (bs.length + 1) (bcs bs ++ [.int .u8 (48 + (c : Int))])) (hg : w0.grownBy w1 bv.ownBlock) (hat : bv1.ownBlock = bv.ownBlock ∨ bv1.ownBlock = some w0.heap.size) :
    (Row w1 g qs ∧ Dig qs ∧ qs.length = t ∧ val qs = r / 10 ∧ c = r % 10) ∧ FmI w w1 g (digs (r / 10)).length v0 v1 (r / 10) V bv1 (bs ++ [dch (r % 10)]) := by
  subst he
  obtain ⟨a1, a2, a3, a4, a5, a6, a7, a8⟩ := h
  obtain ⟨b1, b2, b3, b4, b5, b6⟩ := hD
  rw [List.take_zero, List.nil_append] at b1
  rw [List.drop_zero, val_digs] at b6
  have e1 : val qs = r / 10 := by omega
  have e2 : c = r % 10 := by omega
  have hgs : g < wr.heap.size := a1.lt
  have hgi : g < wi.heap.size := by rw [hO.size]; exact hgs
  have hsz : wr.heap.size = wi.heap.size := hO.size.symm
  have hbv : ∀ b, bv.ownBlock = some b → w.heap.size + 1 ≤ b ∧ b < wr.heap.size := owns_lt a3
  have c1 : Row w1 g qs := by
    have k1 : Row (wi.alloc o) g qs := b1.alloc _
    exact k1.of_block (hg.block g (by simp; omega) (fun e => a4 e.symm))
  have c5 : Own w1 w.heap.size 24 v0 v1 := by
    have k1 : Own wi w.heap.size 24 v0 v1 := (hO.block w.heap.size (by omega)).trans a5
    exact (k1.alloc o).grown hg (fun e => by have := (hbv _ e.symm).1; omega)
  have c6 : Below w.heap.size w w1 := by
    have k1 : Below w.heap.size w wi := a6.trans (hO.below (by omega))
    exact (k1.alloc (by have := a6.size; omega) o).grown hg (by simp; have := a6.size; omega) (fun b hb => by have := (hbv b hb).1; omega)
  refine ⟨⟨c1, b4, by omega, e1, e2⟩, ?_, rfl, ?_, ?_, c5, c6, a7, ?_⟩
  · have := take_trimLen b4
    rw [e1] at this
    rw [← this]
    exact c1.take _
  · rw [← e2, ← bcs_snoc bs c (by omega), List.length_append]
    exact hown
  · rcases hat with e | e
    · rw [e]; exact a4
    · rw [e]; intro h; injection h with h; simp at h; omega
  · exact decs_step h0 a8
/-- Bytes that are turned round: k of them from each end are done. -/
def turnAt (F : List UInt8) (k j : Nat) : UInt8 := if j < k ∨ F.length ≤ j + k then F.getD (F.length - 1 - j) 0 else F.getD j 0
def TurnI (wr : World) (b k : Nat) (F : List UInt8) : Prop := ∀ j, j < F.length → wr.cell? ⟨b, j, none⟩ = some (bcellv (turnAt F k j)) ∧ wr.frozen? ⟨b, j, none⟩ = false
theorem turn_zero (F : List UInt8) (j : Nat) (h : j < F.length) : turnAt F 0 j = F.getD j 0 := by unfold turnAt; rw [if_neg (by omega)]
theorem turn_low {F : List UInt8} {k m : Nat} (h : k + m + 1 = F.length) (hk : k < m) : turnAt F k k = F.getD k 0 ∧ turnAt F k m = F.getD m 0 := by
  unfold turnAt
  exact ⟨by rw [if_neg (by omega)], by rw [if_neg (by omega)]⟩
theorem TurnI.step {wr : World} {b k m : Nat} {F : List UInt8} (h : TurnI wr b k F) (hm : k + m + 1 = F.length) (hk : k < m) {x y : Int} (hx : x = ((F.getD m 0).toNat : Nat)) (hy : y = ((F.getD k 0).toNat : Nat)) :
    TurnI ((wr.setCell ⟨b, k, none⟩ (.int .u8 x)).setCell ⟨b, m, none⟩ (.int .u8 y)) b (k + 1) F := by
  subst hx hy
  intro j hj
  obtain ⟨h1, h2⟩ := h j hj
  refine ⟨?_, by rw [World.frozen?_setCell, World.frozen?_setCell]; exact h2⟩
  by_cases e1 : j = m
  · subst e1
    have h3 : (wr.setCell ⟨b, k, none⟩ (.int .u8 ((F.getD j 0).toNat : Nat))).cell? ⟨b, j, none⟩ = some (bcellv (turnAt F k j)) := by
      rw [World.cell?_setCell_other _ _ _ _ (by intro e; injection e; omega)]; exact h1
    rw [World.cell?_setCell_same _ _ _ h3]
    have : turnAt F (k + 1) j = F.getD k 0 := by unfold turnAt; rw [if_pos (by omega), show F.length - 1 - j = k by omega]
    rw [this]; rfl
  · rw [World.cell?_setCell_other _ _ _ _ (by intro e; injection e; omega)]
    by_cases e2 : j = k
    · subst e2
      rw [World.cell?_setCell_same _ _ _ h1]
      have : turnAt F (j + 1) j = F.getD m 0 := by unfold turnAt; rw [if_pos (by omega), show F.length - 1 - j = m by omega]
      rw [this]; rfl
    · rw [World.cell?_setCell_other _ _ _ _ (by intro e; injection e; omega), h1]
      have : turnAt F (k + 1) j = turnAt F k j := by
        unfold turnAt
        by_cases e3 : j < k ∨ F.length ≤ j + k
        · rw [if_pos e3, if_pos (by omega)]
        · rw [if_neg e3, if_neg (by omega)]
      rw [this]
theorem TurnI.done {wr : World} {b k m : Nat} {F : List UInt8} (h : TurnI wr b k F) (hm : k + m + 1 = F.length) (hk : ¬ k < m) : ∀ j (hj : j < F.reverse.length), wr.cell? ((⟨b, 0, none⟩ : Addr).add j) = some (.int .u8 ((F.reverse[j]).toNat : Nat)) := by
  intro j hj
  have hj2 : j < F.length := by simpa using hj
  rw [Addr.add_lit, Nat.zero_add, (h j hj2).1]
  have : turnAt F k j = F.reverse[j] := by
    rw [List.getElem_reverse]
    have e : F.getD (F.length - 1 - j) 0 = F[F.length - 1 - j]'(by omega) := by simp [List.getD, List.getElem?_eq_getElem (show F.length - 1 - j < F.length by omega)]
    unfold turnAt
    by_cases e3 : j < k ∨ F.length ≤ j + k
    · rw [if_pos e3, e]
    · rw [if_neg e3, ← e]
      congr 1
      omega
  rw [this]; rfl
theorem TurnI.of_own {w : World} {base b n cap : Nat} {F : List UInt8} (h : w.ownsRow base 5 1 (.slice (some ⟨b, 0, none⟩) n cap) F.length (bcs F)) : n = F.length ∧ base ≤ b ∧ TurnI w b 0 F := by
  rcases h.2 with ⟨e, _⟩ | ⟨g', cap', cur, e, h1, h2, h3, h4, h5, h6⟩
  · cases e
  · cases e
    refine ⟨rfl, h1, fun j hj => ⟨?_, by simp [World.frozen?, h2]⟩⟩
    rw [turn_zero F j hj]
    have hc : cur[j]? = some (bcellv (F.getD j 0)) := by
      have e1 : (cur.toList.take (F.length * 1))[j]? = some (bcellv (F.getD j 0)) := by
        rw [h6]; unfold bcs
        rw [List.getElem?_map, List.getElem?_eq_getElem hj]
        simp [List.getD, List.getElem?_eq_getElem hj]
      rw [List.getElem?_take_of_lt (by omega)] at e1
      simpa using e1
    unfold World.cell?
    rw [h2]
    simpa using hc
theorem decs_pos (v : Nat) : 0 < (decs v).length := (decs_ok v).1

set_option maxHeartbeats 8000000 in
set_option maxRecDepth 100000 in
theorem rformat_any (neg : Bool) (A : Option Addr) (n c : Nat) (ds : List Nat) (w : World) (h : Dgs w w.heap.size A n ds) (hc : n ≤ c) (hm : c ≤ maxLen) (hs : n ≤ 100000) (hnc : A = none → c = 0) :
    Calls Tryz.prog 33 #[.agg #[.bool neg, .slice A n c]] w (RetS w (decZ (zOf neg (val ds)))) := by
  obtain ⟨i0, hi, hz0, hz1, hz2⟩ := info_parts u32_info
  obtain ⟨i8, hi8, hz80, hz81, hz82⟩ := info_parts u8_info
  obtain ⟨N, HN⟩ : ∃ N, Hid (N = (digs (val ds)).length) := ⟨_, rfl⟩
  have hNn := trim_len_le h HN
  have hd0 := h.alloc (Nat.le_refl _) (.cells #[.bool neg, .slice A n c] 24)
  have htr := hd0.trimmed HN
  have hO := Own.new w 24 (.bool neg) (.slice A n c)
  obtain ⟨q0, q1, q2, q3⟩ := hO.facts
  have HO := Lib.hid hO
  clear hO
  have htrim := rtrim_fix A n c w.heap.size N ds _ hd0 hc hm HN
  obtain ⟨V, HV⟩ : ∃ v, Hid (val ds = v) := ⟨_, rfl⟩
  rw [HV.out] at htr HN ⊢
  have HNV := HN
  clear HN
  by_cases hN0 : N = 0
  · have hV0 : V = 0 := by
      rcases Nat.eq_zero_or_pos V with h0 | h0
      · exact h0
      · have := digs_pos_len (v := V) (by omega); have := HNV.out; omega
    have HD : Hid (decZ (zOf neg V) = [48]) := by
      unfold Hid
      rw [hV0]
      cases neg <;> (unfold decZ zOf; simp; exact decs_small (by decide))
    obtain ⟨ZZ, HZZ⟩ : ∃ v, Hid (decZ (zOf neg V) = v) := ⟨_, rfl⟩
    rw [HZZ.out] at HD ⊢
    have hZ := HD.out
    subst hZ
    subst hN0
    clear hV0
    rcases A with _ | ⟨b, off, z⟩
    · obtain rfl : c = 0 := hnc rfl
      go_enter Tryz.func33, Tryz.ntmps33
      go_wp2_with (first
        | (go_at_call 63; (with_reducible refine htrim.mono ?_); rintro e w1 ⟨rfl, rfl⟩)
        | (at_builtin; refine wpList_append_own_none rfl _ _ 22 rfl w.heap.size 74 i0 1 Tryz.underlying22 hi (.slice none 0 0) 0 [] rfl (World.ownsRow_nil _ _ _ _) rfl ?_)
        | fail)
      go_ret
      exact ⟨rfl, bnew _ _⟩
    · go_enter Tryz.func33, Tryz.ntmps33
      go_wp2_with (first
        | (go_at_call 63; (with_reducible refine htrim.mono ?_); rintro e w1 ⟨rfl, rfl⟩)
        | (at_builtin; refine wpList_append_own_at _ rfl _ _ 22 rfl w.heap.size 74 i0 (.int .u32 0) 1 4 Tryz.underlying22 hi hz0 hz1 hz2 rfl (by omega) (.slice none 0 0) 0 [] rfl (World.ownsRow_nil _ _ _ _) ⟨b, off, z⟩ 0 c [] rfl rfl (by simp) (by simp) (by unfold maxLen; omega) (by omega) (by simp) ?_; intro v1 w1 hown hg hnn hat; obtain rfl := hnn.2 ⟨rfl, rfl⟩)
        | fail)
      go_ret
      exact ⟨rfl, (bnew _ _).grown hg (by simp) (fun k hk => by simp [Value.ownBlock] at hk)⟩
  have hV0 : V ≠ 0 := by
    intro h0
    have := HNV.out
    rw [h0, digs_zero] at this
    exact hN0 this
  obtain ⟨b, off, e, hb, _⟩ := htr.at_ (by omega)
  subst e
  have HL := Lib.hid htr.len
  have hnews := Lib.hid htr.news
  have hne0 : ((N : Int) == 0) = false := by simp; omega
  have hvl : (decs V).length ≤ 1000001 := by
    have h1 := decs_len' (lt_pow_digs V)
    have := HNV.out
    omega
  clear htr h hd0 q0 q1 q2 q3 hb
  go_enter Tryz.func33, Tryz.ntmps33
  go_upto_region 5 with (first
    | (go_at_call 63; (with_reducible refine htrim.mono ?_); rintro e w1 ⟨rfl, rfl⟩)
    | (at_builtin; refine wpList_append_lies _ rfl _ _ 22 rfl (w.heap.size + 1) 74 i0 (.int .u32 0) 1 4 Tryz.underlying22 hi hz0 hz1 hz2 rfl (by omega) (.slice none 0 0) 0 [] rfl (World.ownsRow_nil _ _ _ _) ⟨b, off, none⟩ N c (dcells (digs V)) rfl (by rw [dcells_length, HL.out]; omega) hnews.out (dcells_one _) (by omega) (by unfold maxLen; omega) (by omega) (by simp) _ rfl ?_; intro g cap w1 hown hg hat hlt; simp only [Nat.zero_add, List.nil_append] at hown; have HOWN := Lib.hid hown; have HG := Lib.hid hg; clear hown hg hat hlt)
    | fail)
  have hcap1 := (World.ownsRow.le HOWN.out).1
  have hcap2 := (World.ownsRow.le HOWN.out).2
  have H0 : FmI w w1 g N (.bool neg) (.slice (some ⟨b, off, none⟩) n c) V V (.slice none 0 0) [] := by
    refine ⟨(Row.of_own HOWN.out).1, HL.out, World.ownsRow_nil _ _ _ _, by simp [Value.ownBlock], HO.out.grown HG.out (by simp [Value.ownBlock]), (bnew _ _).grown HG.out (by simp) (fun k hk => by simp [Value.ownBlock] at hk), ?_, ?_⟩
    · have := (Row.of_own HOWN.out).2; omega
    · rw [if_neg hV0]; simp
  have HH0 := Lib.hid H0
  clear H0
  go_loopg [3, 4] V (fun r dv bv wr => ∃ (t cp : Nat) (BV : Value) (bs : List UInt8), dv = .slice (some ⟨g, 0, none⟩) t cp ∧ BV = bv ∧ t ≤ cp ∧ cp ≤ maxLen ∧ r ≤ V ∧ FmI w wr g t (.bool neg) (.slice (some ⟨b, off, none⟩) n c) r V BV bs)
  case atStart => exact ⟨N, cap, .slice none 0 0, [], rfl, rfl, hcap1, hcap2, Nat.le_refl _, HH0.out⟩
  case round =>
    clear HH0
    obtain ⟨t, cp, BV, bs, rfl, rfl, htc, hcm, hgv, HI⟩ := hrel
    have HGV := Lib.hid hgv
    clear hgv
    have hbs : bs.length ≤ 1000001 := by
      have h1 := congrArg List.length HI.2.2.2.2.2.2.2
      rw [List.length_append, List.length_reverse] at h1
      omega
    by_cases hr0 : gk = 0
    · subst hr0
      have ht0 : t = 0 := by rw [← HI.2.1, digs_zero]; rfl
      subst ht0
      have hbl := HI.2.2.2.2.2.2.2
      rw [if_pos rfl, List.nil_append] at hbl
      have hpos : 0 < bs.length := by rw [← List.length_reverse, ← hbl]; exact decs_pos V
      obtain ⟨q0, q1, q2, q3⟩ := HI.2.2.2.2.1.facts
      have hsz := HI.2.2.2.2.2.1.size
      have hb7 := HI.2.2.2.2.2.2.1
      cases neg with
      | false =>
        have HTAIL : ∃ gb cap2, BV = .slice (some ⟨gb, 0, none⟩) bs.length cap2 ∧ w.heap.size < gb ∧ TurnI wr gb 0 bs := by
          have ho := HI.2.2.1
          rcases ho.2 with ⟨_, e⟩ | ⟨gb, cap2, cur, rfl, _⟩
          · omega
          · obtain ⟨_, k2, k3⟩ := TurnI.of_own ho
            exact ⟨gb, cap2, rfl, by omega, k3⟩
        obtain ⟨gb, cap2, rfl, hgb, HT0⟩ := HTAIL
        have HT1 := Lib.hid HT0
        have HB2 := Lib.hid HI.2.2.2.2.2.1
        have HF : Hid (bs.reverse = decZ (zOf false V)) := by
          unfold Hid
          rw [← hbl]
          unfold decZ
          rw [if_neg (by unfold zOf; simp), show (zOf false V).natAbs = V by unfold zOf; simp]
        obtain ⟨F, HFF⟩ : ∃ F, Hid (bs = F) := ⟨_, rfl⟩
        rw [HFF.out] at HF HT1 hbs
        obtain ⟨M, HM⟩ : ∃ v, Hid (F.length = v) := ⟨_, rfl⟩
        have hpos2 : 0 < M := by rw [← HM.out, ← HFF.out]; exact hpos
        have hML : bs.length = M := by rw [← HM.out, HFF.out]
        rw [hML]
        obtain ⟨ZZ, HZZ⟩ : ∃ v, Hid (decZ (zOf false V) = v) := ⟨_, rfl⟩
        rw [HZZ.out] at HF ⊢
        have hM7 : M ≤ 2000000 := by rw [← HM.out]; exact Nat.le_trans hbs (by decide)
        have HML := Lib.hid hML
        clear HI HT0 hbl hpos hML
        go_upto_region 18 with fail
        go_loopw [7, 8] (fun iv kv wi => ∃ k m : Nat, k + m + 1 = M ∧ iv = .int .i64 k ∧ kv = .int .i64 m ∧ TurnI wi gb k F ∧ Below w.heap.size w wi) (fun iv _ _ => M - (intOf iv).toNat)
        case atStart => have h9 := HML.out; exact ⟨0, M - 1, by omega, rfl, by go_num, HT1.out, HB2.out⟩
        case round =>
          obtain ⟨k, m, hkm, rfl, rfl, HT2, HB3⟩ := hrel
          have HKM := Lib.hid hkm
          have HT3 := Lib.hid HT2
          have HB4 := Lib.hid HB3
          clear hkm HT2 HB3
          by_cases hlt : k < m
          · obtain ⟨e1, e2⟩ := turn_low (F := F) (k := k) (m := m) (by rw [HM.out]; exact HKM.out) hlt
            obtain ⟨x1, f1⟩ := HT3.out k (by have := HKM.out; have := HM.out; omega)
            obtain ⟨x2, f2⟩ := HT3.out m (by have := HKM.out; have := HM.out; omega)
            rw [e1] at x1
            rw [e2] at x2
            unfold bcellv at x1 x2
            obtain ⟨y, HY⟩ : ∃ v, Hid ((F.getD k 0).toNat = v) := ⟨_, rfl⟩
            obtain ⟨x, HX⟩ : ∃ v, Hid ((F.getD m 0).toNat = v) := ⟨_, rfl⟩
            rw [HY.out] at x1
            rw [HX.out] at x2
            have i0 : (0 : Int) ≤ (k : Int) := by omega
            have i1 : (k : Int) < (M : Int) := by have := HKM.out; omega
            have i2 : (0 : Int) ≤ (m : Int) := by omega
            have i3 : (m : Int) < (M : Int) := by have := HKM.out; omega
            have j1 : (k : Int) < (m : Int) := by omega
            have m1 : 1 ≤ m := by omega
            have HS : Hid (TurnI ((wr.setCell ⟨gb, k, none⟩ (.int .u8 (x : Nat))).setCell ⟨gb, m, none⟩ (.int .u8 (y : Nat))) gb (k + 1) F) := HT3.out.step (by rw [HM.out]; exact HKM.out) hlt (by rw [HX.out]) (by rw [HY.out])
            clear e1 e2
            go_upto_region 20 with fail
            go_region
            go_wp2_with fail
            go_roundw
            case rel => exact ⟨k + 1, m - 1, by have := HKM.out; omega, by go_num, by go_num, HS.out, ((HB4.out.setCell (Nat.le_of_lt hgb) _).setCell (Nat.le_of_lt hgb) _).drew⟩
            case measure => simp [intOf]; have := HKM.out; omega
          · have hdone := HT3.out.done (m := m) (by rw [HM.out]; exact HKM.out) hlt
            have hcv := run_convert_bytes_back (P := Tryz.prog) wr 76 9 5 ⟨gb, 0, none⟩ cap2 F.reverse Tryz.underlying76 Tryz.underlying5 Tryz.underlying9 hdone
            rw [List.length_reverse, HM.out] at hcv
            rw [HF.out] at hcv
            have j1 : ¬ (k : Int) < (m : Int) := by omega
            clear hdone
            go_wp2_with fail
            go_ret
            exact ⟨by rw [HZZ.out]; rfl, HB4.out⟩
      | true =>
        have HTAIL : ∀ (v1 : Value) (w1 : World), w1.ownsRow (w.heap.size + 1) 5 1 v1 (bs.length + 1) (bcs bs ++ [.int .u8 45]) → (wr.alloc (.cells #[.int .u8 45] 5)).grownBy w1 BV.ownBlock →
            ∃ gb cap2, v1 = .slice (some ⟨gb, 0, none⟩) (bs.length + 1) cap2 ∧ w.heap.size < gb ∧ TurnI w1 gb 0 (bs ++ [45]) ∧ Below w.heap.size w w1 := by
          intro v1 w1 ho hg
          rw [bcs_snoc45] at ho
          have hlen : (bs ++ [(45 : UInt8)]).length = bs.length + 1 := by simp
          have hbel : Below w.heap.size w w1 := (HI.2.2.2.2.2.1.alloc (by omega) _).grown hg (by simp; omega) (fun b hb => by have := (owns_lt HI.2.2.1 b hb).1; omega)
          rcases ho.2 with ⟨_, e⟩ | ⟨gb, cap2, cur, rfl, _⟩
          · omega
          · rw [← hlen] at ho
            obtain ⟨_, k2, k3⟩ := TurnI.of_own ho
            exact ⟨gb, cap2, rfl, by omega, k3, hbel⟩
        have hnew1 := cell_one_new wr (.int .u8 45) 5
        have HF : Hid ((bs ++ [(45 : UInt8)]).reverse = decZ (zOf true V)) := by
          unfold Hid
          rw [List.reverse_append, ← hbl]
          unfold decZ
          rw [if_pos (by unfold zOf; simp; omega), show (zOf true V).natAbs = V by unfold zOf; simp]
          rfl
        obtain ⟨ZZ, HZZ⟩ : ∃ v, Hid (decZ (zOf true V) = v) := ⟨_, rfl⟩
        rw [HZZ.out] at HF ⊢
        clear hbl
        go_upto_region 18 with (first
          | (at_builtin; refine wpList_append_own_at _ rfl _ _ 76 rfl (w.heap.size + 1) 5 i8 (.int .u8 0) 1 1 Tryz.underlying76 hi8 hz80 hz81 hz82 rfl (by omega) BV bs.length (bcs bs) rfl (owns_alloc HI.2.2.1 _) ⟨wr.heap.size, 0, none⟩ 1 1 [.int .u8 45] rfl rfl hnew1 (by intro u hu; simp at hu; subst hu; rfl) (by unfold maxLen; omega) (by omega) (by simp; omega) ?_; intro v1 w1 hown1 hg1 hnn hat; obtain ⟨gb, cap2, rfl, hgb, HT0, HB1⟩ := HTAIL _ _ hown1 hg1; have HT1 := Lib.hid HT0; have HB2 := Lib.hid HB1; clear HT0 HB1)
          | fail)
        obtain ⟨F, HFF⟩ : ∃ F, Hid (bs ++ [(45 : UInt8)] = F) := ⟨_, rfl⟩
        obtain ⟨M, HM⟩ : ∃ v, Hid (F.length = v) := ⟨_, rfl⟩
        have hML : bs.length + 1 = M := by rw [← HM.out, ← HFF.out]; simp
        rw [HFF.out] at HF HT1
        rw [hML]
        have hpos2 : 0 < M := by omega
        have hM7 : M ≤ 2000001 := by omega
        have HML := Lib.hid hML
        clear HI hML
        go_loopw [7, 8] (fun iv kv wi => ∃ k m : Nat, k + m + 1 = M ∧ iv = .int .i64 k ∧ kv = .int .i64 m ∧ TurnI wi gb k F ∧ Below w.heap.size w wi) (fun iv _ _ => M - (intOf iv).toNat)
        case atStart => have h9 := HML.out; exact ⟨0, M - 1, by omega, rfl, by go_num, HT1.out, HB2.out⟩
        case round =>
          obtain ⟨k, m, hkm, rfl, rfl, HT2, HB3⟩ := hrel
          have HKM := Lib.hid hkm
          have HT3 := Lib.hid HT2
          have HB4 := Lib.hid HB3
          clear hkm HT2 HB3
          by_cases hlt : k < m
          · obtain ⟨e1, e2⟩ := turn_low (F := F) (k := k) (m := m) (by rw [HM.out]; exact HKM.out) hlt
            obtain ⟨x1, f1⟩ := HT3.out k (by have := HKM.out; have := HM.out; omega)
            obtain ⟨x2, f2⟩ := HT3.out m (by have := HKM.out; have := HM.out; omega)
            rw [e1] at x1
            rw [e2] at x2
            unfold bcellv at x1 x2
            obtain ⟨y, HY⟩ : ∃ v, Hid ((F.getD k 0).toNat = v) := ⟨_, rfl⟩
            obtain ⟨x, HX⟩ : ∃ v, Hid ((F.getD m 0).toNat = v) := ⟨_, rfl⟩
            rw [HY.out] at x1
            rw [HX.out] at x2
            have i0 : (0 : Int) ≤ (k : Int) := by omega
            have i1 : (k : Int) < (M : Int) := by have := HKM.out; omega
            have i2 : (0 : Int) ≤ (m : Int) := by omega
            have i3 : (m : Int) < (M : Int) := by have := HKM.out; omega
            have j1 : (k : Int) < (m : Int) := by omega
            have m1 : 1 ≤ m := by omega
            have HS : Hid (TurnI ((wr.setCell ⟨gb, k, none⟩ (.int .u8 (x : Nat))).setCell ⟨gb, m, none⟩ (.int .u8 (y : Nat))) gb (k + 1) F) := HT3.out.step (by rw [HM.out]; exact HKM.out) hlt (by rw [HX.out]) (by rw [HY.out])
            clear e1 e2
            go_upto_region 20 with fail
            go_region
            go_wp2_with fail
            go_roundw
            case rel => exact ⟨k + 1, m - 1, by have := HKM.out; omega, by go_num, by go_num, HS.out, ((HB4.out.setCell (Nat.le_of_lt hgb) _).setCell (Nat.le_of_lt hgb) _).drew⟩
            case measure => simp [intOf]; have := HKM.out; omega
          · have hdone := HT3.out.done (m := m) (by rw [HM.out]; exact HKM.out) hlt
            have hcv := run_convert_bytes_back (P := Tryz.prog) wr 76 9 5 ⟨gb, 0, none⟩ cap2 F.reverse Tryz.underlying76 Tryz.underlying5 Tryz.underlying9 hdone
            rw [List.length_reverse, HM.out] at hcv
            rw [HF.out] at hcv
            have j1 : ¬ (k : Int) < (m : Int) := by omega
            clear hdone
            go_wp2_with fail
            go_ret
            exact ⟨by rw [HZZ.out]; rfl, HB4.out⟩
    · skip
      have ht0 : 0 < t := by rw [← HI.2.1]; exact digs_pos_len hr0
      have htn : t ≤ N := by
        have h1 := HI.2.1
        have h2 := HGV.out
        rw [← h1, HNV.out]
        exact digs_length_le (Nat.lt_of_le_of_lt h2 (lt_pow_digs V))
      have hrow := HI.1
      have D0 : DivI wr wr g t 0 10 (digs gk) (digs gk) [] := ⟨by rw [List.take_of_length_le (by rw [HI.2.1]; exact Nat.le_refl _), List.append_nil]; exact hrow, rfl, by simp; exact HI.2.1.symm, Dig.nil, by omega, by rw [List.drop_of_length_le (by rw [HI.2.1]; exact Nat.le_refl _)]; simp [val]⟩
      have HLT := Lib.hid HI.2.1
      have hwr : w.heap.size < wr.heap.size := by have := HI.2.2.2.2.2.2.1; have := hrow.lt; omega
      have HI2 := Lib.hid HI
      have HD0 := Lib.hid D0
      clear HI D0 hrow
      go_upto_region 8 with fail
      go_loopw [5, 6] (fun cv iv wi => ∃ (k cc : Nat) (qs : List Nat), k ≤ t ∧ iv = .int .i64 ((k : Int) - 1) ∧ cv = .int .u64 cc ∧ DivI wr wi g k cc 10 (digs gk) (digs gk) qs ∧ Only g wr wi) (fun _ iv _ => (intOf iv + 1).toNat)
      case atStart => exact ⟨t, 0, [], Nat.le_refl _, by first | rfl | go_num, rfl, HD0.out, Only.refl _ _⟩
      case round =>
        clear HD0
        obtain ⟨k, cc, qs, hk, rfl, rfl, HD, HO⟩ := hrel
        have hcc : cc < 10 := HD.2.2.2.2.1
        by_cases hk0 : k = 0
        · subst hk0
          have HD2 := Lib.hid HD
          have HO2 := Lib.hid HO
          have hown0 := fun o => owns_alloc (owns_only HI2.out.2.2.1 HO HI2.out.2.2.2.1) o
          have hszi : w.heap.size < wr.heap.size := by rw [HO.size]; exact hwr
          have hnew1 := cell_one_new wr (.int .u8 (48 + (cc : Int))) 5
          have HOWN := Lib.hid hown0
          obtain ⟨t1, HT1⟩ : ∃ x, Hid (x = (digs (gk / 10)).length) := ⟨_, rfl⟩
          clear HD HO hown0
          go_wp2_with (first
            | (at_builtin; refine wpList_append_own_at _ rfl _ _ 76 rfl (w.heap.size + 1) 5 i8 (.int .u8 0) 1 1 Tryz.underlying76 hi8 hz80 hz81 hz82 rfl (by omega) BV bs.length (bcs bs) rfl (HOWN.out _) ⟨wr.heap.size, 0, none⟩ 1 1 [.int .u8 (48 + (cc : Int))] rfl rfl hnew1 (by intro u hu; simp at hu; subst hu; rfl) (by unfold maxLen; omega) (by omega) (by simp; omega) ?_; intro v1 w1 hown1 hg1 hnn hat; obtain ⟨⟨z1, z2, z3, z4, z5⟩, z6⟩ := HI2.out.next hr0 HD2.out HO2.out rfl hown1 hg1 hat; have hdd := z1.dgs z2; rw [z3] at hdd; have HM1 : Hid (t1 = (digs (val qs)).length) := (by unfold Hid; rw [z4]; exact HT1.out); have HI3 := Lib.hid z6; clear z1 z2 z3 z5 z6 hown1 hg1 hnn hat)
            | (go_at_call 63; (with_reducible refine (rtrim_fix (some ⟨g, 0, none⟩) t cp _ t1 qs _ hdd htc hcm HM1).mono ?_); rintro e w2 ⟨rfl, rfl⟩)
            | fail)
          go_roundg (gk / 10)
          case rel =>
            have h1 := HI3.out
            rw [← HT1.out] at h1
            exact ⟨t1, cp, v1, bs ++ [dch (gk % 10)], rfl, rfl, by have := trim_len_le hdd HM1; omega, hcm, by have := HGV.out; omega, h1⟩
          case measure => omega
        · obtain ⟨j, rfl⟩ : ∃ j, k = j + 1 := ⟨k - 1, by omega⟩
          have ej : (((j + 1 : Nat) : Int) - 1) = (j : Int) := by omega
          rw [ej]
          clear ej
          have hx := HD.top
          have hxl := (dig_digs gk).getD j
          rw [BB_eq] at hxl
          obtain ⟨x, HX⟩ : ∃ x, Hid (x = (digs gk).getD j 0) := ⟨_, rfl⟩
          rw [← HX.out] at hx hxl
          have hfr := HD.1.frozen j
          have i0 : (0 : Int) ≤ (j : Int) := by omega
          have i1 : (j : Int) < (t : Int) := by omega
          obtain ⟨T, HT⟩ : ∃ T, Hid (T = cc * 4294967296 + x) := ⟨_, rfl⟩
          have htb : T < 42949672960 := by rw [HT.out]; omega
          have hor : bits .or .u64 ((cc : Int) * 4294967296) (x : Int) = (T : Int) := by
            rw [HT.out]
            exact or_halves cc x (by omega) hxl
          have hq : (T : Int) / 10 ≤ 4294967295 := by omega
          have hq' : 0 ≤ (T : Int) / 10 := by omega
          have HD2 := Lib.hid HD
          have HO2 := Lib.hid HO
          clear HD HO
          go_wp2_with fail
          go_roundw
          case rel =>
            refine ⟨j, T % 10, T / 10 :: qs, by omega, rfl, int_val (by omega), ?_, HO2.out.setCell _ _⟩
            have := div_step HD2.out HX.out hxl (by omega) (v := (T : Int) / 10) (by rw [← HT.out]; omega)
            rw [← HT.out] at this
            exact this
          case measure => simp [intOf]
end Go.Proofs.YtekoeohkkabkdaaGreat

