/-
  The reference's Decimal.
-/
import Derived.Test.YtkhficmehjglmaaGreatTdB
import Derived.Test.YtkhficmehjglmaaGreatRfrac3
import Derived.Laws.AppendOwnNone
set_option linter.unusedVariables false
set_option linter.unusedSimpArgs false
set_option warningAsError false
namespace Go.Proofs.YtkhficmehjglmaaGreat
open Go.RowKit

theorem run_append_none_c {P : Program} {w : World} (t ty e : TypeId) (i : TypeInfo) (ht : P.underlying t = some (.slice e)) (hi : P.info? e = some i) (c : Nat) :
    (Builtin.append_ #[t, t] ty #[.slice none 0 0, .slice none 0 c]).run P w = .ok (.slice none 0 0) w := by
  simp [Builtin.append_, run_underlying ht, sizeOf, typeInfo, hi, Builtin.lenOf, Builtin.firstCells]
theorem wpList_append_none_c {P : Program} {w : World} {ops : Array Oper} {rest : List Oper} {o : Oper} {a : Act} {Q : Exit → Act → World → Prop} (hgd : o.guard = none) (s x : Operand) (t : TypeId)
    (ho : o.op = .call { callee := .builtin .append, args := #[s, x], argTypes := #[t, t] })
    (e : TypeId) (i : TypeInfo) (ht : P.underlying t = some (.slice e)) (hi : P.info? e = some i) (c : Nat)
    (hs : a.eval s = .slice none 0 0) (hx : a.eval x = .slice none 0 c)
    (h : wpList P ops Q rest (a.put o.dst (.slice none 0 0)) w) : wpList P ops Q (o :: rest) a w := by
  refine wpList_plain hgd fun K hK => ?_
  have hrun := run_append_none_c (P := P) (w := w) t o.type e i ht hi c
  unfold Oper.wp
  simp [execOp, ho, resolve, invoke, builtin, hs, hx, hrun, Result.andThen]
  exact hK _ _ h
set_option maxHeartbeats 4000000 in
set_option maxRecDepth 100000 in
theorem rformat_any2 (neg : Bool) (A : Option Addr) (n c : Nat) (ds : List Nat) (w : World) (h : Dgs w w.heap.size A n ds) (hc : n ≤ c) (hm : c ≤ maxLen) (hs : n ≤ 100000) :
    Calls Tryz.prog 36 #[.agg #[.bool neg, .slice A n c]] w (RetS w (decZ (zOf neg (val ds)))) := by
  rcases A with _ | ad
  rotate_left
  · exact rformat_any neg (some ad) n c ds w h hc hm hs (fun e => by cases e)
  have hn : n = 0 := by
    rcases Nat.eq_zero_or_pos n with h0 | h0
    · exact h0
    · obtain ⟨_, _, e, _⟩ := h.at_ h0; cases e
  subst hn
  have hds : ds = [] := List.eq_nil_of_length_eq_zero h.len
  subst hds
  obtain ⟨i0, hi, hz0, hz1, hz2⟩ := info_parts u32_info
  have HD : Hid (decZ (zOf neg (val [])) = [48]) := by
    unfold Hid
    cases neg <;> (unfold decZ zOf val; simp; exact decs_small (by decide))
  obtain ⟨ZZ, HZZ⟩ : ∃ v, Hid (decZ (zOf neg (val [])) = v) := ⟨_, rfl⟩
  rw [HZZ.out] at HD ⊢
  have hZ := HD.out
  subst hZ
  have hN : Hid (0 = (digs (val [])).length) := by unfold Hid; rw [show val [] = 0 from rfl, digs_zero]; rfl
  have hd0 := h.alloc (Nat.le_refl _) (.cells #[.bool neg, .slice none 0 c] 24)
  have htrim := rtrim_fix none 0 c w.heap.size 0 [] _ hd0 hc hm hN
  obtain ⟨q0, q1, q2, q3⟩ := (Own.new w 24 (.bool neg) (.slice none 0 c)).facts
  go_enter Tryz.func36, Tryz.ntmps36
  go_wp2_with (first
    | (go_at_call 72; (with_reducible refine htrim.mono ?_); rintro e w1 ⟨rfl, rfl⟩)
    | (at_builtin; refine wpList_append_none_c rfl _ _ 22 rfl 79 i0 Tryz.underlying22 hi c rfl rfl ?_)
    | fail)
  go_ret
  exact ⟨rfl, bnew _ _⟩
theorem rformat_at2 {w : World} {s : Bool} {A : Option Addr} {n c : Nat} {x : Int} (h : IntAt w s A n c x) (hn : n ≤ 100000) : Calls Tryz.prog 36 #[.agg #[.bool s, .slice A n c]] w (RetS w (decZ x)) := by
  obtain ⟨d, hd, hc, hm, rfl, _⟩ := h
  exact rformat_any2 s A n c d w hd hc hm hn
theorem rmk_at {w : World} {A : Option Addr} {n c : Nat} {z : Int} (h : IntAt w false A n c z) : Calls Tryz.prog 29 #[.bool false, .slice A n c] w (RetZ w z) := by
  obtain ⟨d, hd, hc, hm, rfl, hn⟩ := h
  exact make_any false A n c d w hd hc hm hn
theorem dec_zeros : ∀ p : Nat, decV (49 :: List.replicate p 48) = 10 ^ p ∧ allD (49 :: List.replicate p (48 : UInt8)) = true
  | 0 => ⟨rfl, rfl⟩
  | p + 1 => by
    obtain ⟨h1, h2⟩ := dec_zeros p
    have e : (49 : UInt8) :: List.replicate (p + 1) 48 = (49 :: List.replicate p 48) ++ [48] := by rw [List.replicate_succ']; rfl
    rw [e]
    refine ⟨?_, ?_⟩
    · rw [decV_snoc, h1, Nat.pow_succ]
      show 10 * 10 ^ p + (48 - 48) = _
      omega
    · unfold allD at *
      rw [List.all_append, h2]; rfl
/-- The three ways in which the reference lays the point. -/
theorem pt_cases (l : List UInt8) (p : Nat) (hp : p ≤ 30) (hl : l.length ≤ 100000) (h0 : 0 < l.length) :
    ((p : Int) = 0 ∧ ptL l p = l) ∨
    (∃ (x y : List UInt8) (q : Nat), decide ((l.length : Int) ≤ (p : Int)) = false ∧ (0 : Int) < (p : Int) ∧ (l.length : Int) - (p : Int) = (q : Int) ∧ q ≤ l.length ∧ (⟨l.toArray⟩ : ByteArray).extract 0 q = ⟨x.toArray⟩ ∧ (⟨l.toArray⟩ : ByteArray).extract q l.length = ⟨y.toArray⟩ ∧ x.length ≤ 101000 ∧ y.length ≤ 101000 ∧ ptL l p = x ++ 46 :: y) ∨
    (∃ (k : Nat) (Z m : List UInt8) (M : Nat) (x y : List UInt8) (q : Nat), (p : Int) + 1 - (l.length : Int) = (k : Int) ∧ (∀ W, Calls Tryz.prog 32 #[.int .i64 (k : Int)] W (RetS W Z)) ∧ (⟨Z.toArray⟩ : ByteArray) ++ ⟨l.toArray⟩ = ⟨m.toArray⟩ ∧ (Z.length ≤ 1000 ∧ M ≤ 1000) ∧ (⟨m.toArray⟩ : ByteArray).size = M ∧ (l.length : Int) ≤ (p : Int) ∧ (0 : Int) < (p : Int) ∧ (M : Int) - (p : Int) = (q : Int) ∧ q ≤ M ∧ (⟨m.toArray⟩ : ByteArray).extract 0 q = ⟨x.toArray⟩ ∧ (⟨m.toArray⟩ : ByteArray).extract q M = ⟨y.toArray⟩ ∧ x.length ≤ 101000 ∧ y.length ≤ 101000 ∧ ptL l p = x ++ 46 :: y) := by
  by_cases hp0 : p = 0
  · left; subst hp0; exact ⟨rfl, by unfold ptL; rw [if_pos rfl]⟩
  · right
    have hP : ptL l p = (padL l p).take ((padL l p).length - p) ++ 46 :: (padL l p).drop ((padL l p).length - p) := by unfold ptL; rw [if_neg hp0]
    have hpl := padL_len l p
    by_cases hs : l.length ≤ p
    · right
      rw [if_pos hs] at hpl
      refine ⟨p + 1 - l.length, List.replicate (p + 1 - l.length) 48, padL l p, p + 1, (padL l p).take (p + 1 - p), (padL l p).drop (p + 1 - p), p + 1 - p, by omega, fun W => rzeros_any _ (by omega) W, ?_, ⟨by rw [List.length_replicate]; omega, by omega⟩, ?_, by omega, by omega, by omega, by omega, ?_, ?_, ?_, ?_, ?_⟩
      · rw [str_app]; rfl
      · rw [str_size, hpl]
      · rw [extract_data, List.drop_zero]
      · rw [extract_data, List.take_of_length_le (by rw [hpl]; exact Nat.le_refl _)]
      · rw [List.length_take, hpl]; omega
      · rw [List.length_drop, hpl]; omega
      · rw [hP, hpl]
    · left
      have hml := padL_short (l := l) (p := p) (by omega)
      rw [hml] at hP
      refine ⟨l.take (l.length - p), l.drop (l.length - p), l.length - p, decide_eq_false (by omega), by omega, by omega, by omega, ?_, ?_, ?_, ?_, hP⟩
      · rw [extract_data, List.drop_zero]
      · rw [extract_data, List.take_of_length_le (Nat.le_refl _)]
      · rw [List.length_take]; omega
      · rw [List.length_drop]; omega

set_option maxHeartbeats 16000000 in
set_option maxRecDepth 100000 in
theorem rDecimal_at {w : World} {s1 s2 : Bool} {A1 A2 : Option Addr} {n1 c1 n2 c2 : Nat} {a b : Int} (h1 : IntAt w s1 A1 n1 c1 a) (h2 : IntAt w s2 A2 n2 c2 b) (za : Sz a 12) (zb : Sz b 12) (hn1 : n1 ≤ 100000) (hn2 : n2 ≤ 100000) (N : Int) :
    Calls Tryz.prog 14 #[.agg #[.bool s1, .slice A1 n1 c1, .bool s2, .slice A2 n2 c2], .int .i64 N] w (RetDe w (decTx a b N) (decEr N)) := by
  have H0 := (((St.start w).addI h1).addI h2).new 26 (Plains.four s1 A1 n1 c1 s2 A2 n2 c2)
  (try simp only [World.size_alloc] at H0)
  have HH := Lib.hid H0
  clear H0 h1 h2
  by_cases hN0 : N < 0
  · obtain ⟨e1, e2⟩ := dec_bad (a := a) (b := b) (N := N) (by omega)
    rw [e1, e2]
    clear e1 e2 HH
    go_enter Tryz.func14, Tryz.ntmps14
    go_wp2_with fail
    go_ret2
    exact ⟨rfl, bnew _ _⟩
  by_cases hN3 : 30 < N
  · obtain ⟨e1, e2⟩ := dec_bad (a := a) (b := b) (N := N) (by omega)
    rw [e1, e2]
    have q1 : decide (N < 0) = false := by simp; omega
    clear e1 e2 HH
    go_enter Tryz.func14, Tryz.ntmps14
    go_wp2_with fail
    go_ret2
    exact ⟨rfl, bnew _ _⟩
  obtain ⟨p, rfl⟩ := Int.eq_ofNat_of_zero_le (show 0 ≤ N by omega)
  have hp : p ≤ 30 := by omega
  have q1 : decide ((p : Int) < 0) = false := decide_eq_false (by omega)
  have q2 : decide ((30 : Int) < (p : Int)) = false := by simp; omega
  have q3 : ¬ (30 : Int) < (p : Int) := by omega
  obtain ⟨e1, e2⟩ := dec_good (a := a) (b := b) hp
  rw [e1, e2]
  have zU := sz_ten hp
  obtain ⟨U, HU⟩ : ∃ v, Hid ((10 : Int) ^ p = v) := ⟨_, rfl⟩
  rw [HU.out] at zU ⊢
  have kU := zU.ok
  have zU19 : Sz U 1900 := zU.mono (by decide)
  have zU9 : Sz U 900 := zU.mono (by decide)
  have lU := zU.len2
  have z1 : Sz 1 2 := sz_i64 (by decide) (by decide)
  have z19 : Sz 1 900 := z1.mono (by decide)
  have k1 := z1.ok
  have l1_ := z1.len2
  have za9 : Sz a 900 := za.mono (by decide)
  have zb9 : Sz b 900 := zb.mono (by decide)
  have zx : Sz (rn (a * U) (b * 1)) 200 ∧ Sz (rd (a * U) (b * 1)) 200 := by
    refine ⟨(sz_rn (za.mul zU)).mono (by decide), (sz_rd (zb.mul z1) (by decide)).mono (by decide)⟩
  have hred := rd_red (a * U) (b * 1)
  rw [Int.mul_one] at hred
  have zM : Sz (a * U) 900 := (za.mul zU).mono (by decide)
  have zZ : Sz (rdV (a * U) b) 901 := by
    have h1 : (dmQ (a * U) b).natAbs ≤ (a * U).natAbs := by rw [dm_u]; exact Nat.le_trans (Int.natAbs_ediv_le_natAbs _ _) (un_abs _ b)
    have h2 : Sz (dmQ (a * U) b) 900 := zM.le h1
    have h3 : Sz (dmQ (a * U) b + 1) 901 := h2.add (sz_small (by decide) (by decide) 900 (by decide))
    unfold rdV
    split
    · exact h3
    · exact h2.mono (by decide)
  obtain ⟨Z, HZ⟩ : ∃ v, Hid (rdV (a * U) b = v) := ⟨_, rfl⟩
  rw [HZ.out] at zZ hred ⊢
  obtain ⟨x, HX⟩ : ∃ v, Hid (rn (a * U) (b * 1) = v) := ⟨_, rfl⟩
  obtain ⟨y, HY⟩ : ∃ v, Hid (rd (a * U) (b * 1) = v) := ⟨_, rfl⟩
  rw [← Int.mul_one b, HX.out, HY.out] at hred
  rw [HX.out, HY.out] at zx
  obtain ⟨zx2, zy2⟩ := zx
  have HRED := Lib.hid hred
  clear hred
  have kx := zx2.ok
  have ky := zy2.ok
  have kZ := zZ.ok
  obtain ⟨Az, HA⟩ : ∃ v, Hid (((Z.natAbs : Nat) : Int) = v) := ⟨_, rfl⟩
  have zA : Sz Az 901 := zZ.le (by rw [← HA.out, Int.natAbs_natCast]; exact Nat.le_refl _)
  have kA := zA.ok
  have lA := zA.len2
  have hdz : decZ Az = decs Z.natAbs := by rw [← HA.out]; exact decZ_nat _
  have hdl := decs_sz zZ
  have hd0 := (decs_ok Z.natAbs).1
  have hW : decW Z p = if Z < 0 then 45 :: ptL (decs Z.natAbs) p else ptL (decs Z.natAbs) p := rfl
  obtain ⟨D, HD⟩ : ∃ v, Hid (decs Z.natAbs = v) := ⟨_, rfl⟩
  rw [HD.out] at hdz hdl hd0 hW
  have hsg : (decide (Z < 0) = true ∧ decW Z p = 45 :: ptL D p) ∨ (decide (Z < 0) = false ∧ decW Z p = ptL D p) := by
    by_cases h : Z < 0
    · exact .inl ⟨decide_eq_true h, by rw [hW, if_pos h]⟩
    · exact .inr ⟨decide_eq_false h, by rw [hW, if_neg h]⟩
  have HSG := Lib.hid hsg
  have HCASE := Lib.hid (pt_cases D p hp (by omega) hd0)
  have hdsz := str_size D
  obtain ⟨LD, HLD⟩ : ∃ v, Hid (D.length = v) := ⟨_, rfl⟩
  have hdl2 : LD ≤ 100000 := by have := HLD.out; omega
  rw [HLD.out] at hdsz HCASE
  clear hsg
  -- zeros, and a 1 ahead of them
  obtain ⟨dz1, dz2⟩ := dec_zeros p
  have hzr := rzeros_any p (by omega)
  obtain ⟨Z0, HZ0⟩ : ∃ v, Hid (List.replicate p (48 : UInt8) = v) := ⟨_, rfl⟩
  rw [HZ0.out] at hzr dz1 dz2
  have hZl : Z0.length ≤ 30 := by rw [← HZ0.out, List.length_replicate]; exact hp
  have hcat : (⟨#[49]⟩ : ByteArray) ++ ⟨Z0.toArray⟩ = ⟨(49 :: Z0).toArray⟩ := by
    rw [show (⟨#[49]⟩ : ByteArray) = ⟨([49] : List UInt8).toArray⟩ from rfl, str_app]; first | done | rfl
  have hYl : (49 :: Z0).length ≤ 100000 := by rw [List.length_cons]; omega
  obtain ⟨Y, HYY⟩ : ∃ v, Hid ((49 : UInt8) :: Z0 = v) := ⟨_, rfl⟩
  rw [HYY.out] at dz1 dz2 hcat hYl
  have hrr := rread_any Y hYl dz2
  have hyv : zOf false (decV Y) = U := by rw [dz1, ← HU.out]; unfold zOf; simp
  have b1 : ¬ 9223372036854775807 < 1 + Z0.length := by omega
  have b2 : ¬ 9223372036854775807 < Z0.length + 1 := by omega
  have HYV := Lib.hid hyv
  have HWW := Lib.hid hW
  clear hyv hW hdl dz1 dz2 e1 e2 za zb hN0 hN3 zM
  go_enter Tryz.func14, Tryz.ntmps14
  go_upto_region 3 with fail
  have K2 := HH.out
  clear HH
  generalize w.alloc (.cells #[.bool s1, .slice A1 n1 c1, .bool s2, .slice A2 n2 c2] 26) = W1 at K2 ⊢
  have Kd := K2.drew
  obtain ⟨⟨pp0, pp1, pp2, pp3⟩, _⟩ := K2.facts
  have ia0 := K2.ints.2.1.i
  have ib0 := K2.ints.1.i
  obtain ⟨⟨p0, p1, p2, p3⟩, _⟩ := Kd.facts
  have ia := Kd.ints.2.1.i
  have ib := Kd.ints.1.i
  have K := Kd
  clear Kd
  have n1_ : ¬ W1.heap.size = w.heap.size := World.new_ne W1 _ pp0
  have n3_ : ¬ w.heap.size = W1.heap.size := fun e => n1_ e.symm
  first
  | go_region_held3 (fun w' => w'.cell? ⟨w.heap.size, 0, none⟩ = some (.bool s1) ∧ w'.cell? ⟨w.heap.size, 1, none⟩ = some (.slice A1 n1 c1) ∧ w'.cell? ⟨w.heap.size, 2, none⟩ = some (.bool s2) ∧ w'.cell? ⟨w.heap.size, 3, none⟩ = some (.slice A2 n2 c2))
      (go_keep)
      (first
        | (go_at_call 32; (first | ((with_reducible refine (hzr _).mono ?_); rintro e wa ⟨rfl, ga⟩; have Kw := (Kv.call ga); clear Kv; have Kv := Kw; clear Kw; clear o0 o1 f0 f1 p0 p1 p2 p3; obtain ⟨⟨o0, o1⟩, ⟨p0, p1, p2, p3⟩, _⟩ := Kv.facts; obtain ⟨f0, f1⟩ := Kv.free (i := 0) rfl; replace ia := ia.call ga; replace ib := ib.call ga; skip) | ((with_reducible refine (hzr _).mono ?_); rintro e wa ⟨rfl, ga⟩; have Kw := (K.call ga); clear K; have K := Kw; clear Kw; clear n1_ n3_ p0 p1 p2 p3; obtain ⟨⟨p0, p1, p2, p3⟩, _⟩ := K.facts; have n1_ := World.new_ne _ _ p0; dsimp only at n1_; have n3_ := Ne.symm n1_; replace ia := ia.call ga; replace ib := ib.call ga; skip) | ((with_reducible refine (hzr _).mono ?_); rintro e wa ⟨rfl, ga⟩; have Kv := ((K2.new 24 (Plains.two false none 0 0)).drew.call ga); clear K; clear n1_ n3_ p0 p1 p2 p3; obtain ⟨⟨o0, o1⟩, ⟨p0, p1, p2, p3⟩, _⟩ := Kv.facts; obtain ⟨f0, f1⟩ := Kv.free (i := 0) rfl; obtain ⟨y1, y2⟩ := Kv.ne 0 1 rfl rfl (by decide); have gz := bcall (bnew _ _).drew ga; clear ia; have ia := ia0.call gz; clear ib; have ib := ib0.call gz; skip)))
        | (go_at_call 30; (first | ((with_reducible refine (hrr _).mono ?_); rintro e wb ⟨B1, m1, k1_, ds1, rfl, hd1, u1, v1, y1_, x1_, gb⟩; have Kw := (Kv.call gb); clear Kv; have Kv := Kw; clear Kw; clear o0 o1 f0 f1 p0 p1 p2 p3; obtain ⟨⟨o0, o1⟩, ⟨p0, p1, p2, p3⟩, _⟩ := Kv.facts; obtain ⟨f0, f1⟩ := Kv.free (i := 0) rfl; replace ia := ia.call gb; replace ib := ib.call gb; have ir : IntAt wb false B1 m1 k1_ U := ⟨ds1, hd1, u1, v1, by rw [x1_]; exact HYV.out, by omega⟩) | ((with_reducible refine (hrr _).mono ?_); rintro e wb ⟨B1, m1, k1_, ds1, rfl, hd1, u1, v1, y1_, x1_, gb⟩; have Kw := (K.call gb); clear K; have K := Kw; clear Kw; clear n1_ n3_ p0 p1 p2 p3; obtain ⟨⟨p0, p1, p2, p3⟩, _⟩ := K.facts; have n1_ := World.new_ne _ _ p0; dsimp only at n1_; have n3_ := Ne.symm n1_; replace ia := ia.call gb; replace ib := ib.call gb; have ir : IntAt wb false B1 m1 k1_ U := ⟨ds1, hd1, u1, v1, by rw [x1_]; exact HYV.out, by omega⟩) | ((with_reducible refine (hrr _).mono ?_); rintro e wb ⟨B1, m1, k1_, ds1, rfl, hd1, u1, v1, y1_, x1_, gb⟩; have Kv := ((K.new 24 (Plains.two false none 0 0)).call gb); clear K; clear n1_ n3_ p0 p1 p2 p3; obtain ⟨⟨o0, o1⟩, ⟨p0, p1, p2, p3⟩, _⟩ := Kv.facts; obtain ⟨f0, f1⟩ := Kv.free (i := 0) rfl; obtain ⟨y1, y2⟩ := Kv.ne 0 1 rfl rfl (by decide); have gz := bcall (bnew _ _) gb; replace ia := ia.call gz; replace ib := ib.call gz; have ir : IntAt wb false B1 m1 k1_ U := ⟨ds1, hd1, u1, v1, by rw [x1_]; exact HYV.out, by omega⟩)))
        | (go_at_call 29; (first | ((with_reducible refine (rmk_at ir).mono ?_); rintro e wc ⟨C1, l1, t1, rfl, d3, u3, v3, gc⟩; have Kw := (Kv.call gc); clear Kv; have Kv := Kw; clear Kw; clear o0 o1 f0 f1 p0 p1 p2 p3; obtain ⟨⟨o0, o1⟩, ⟨p0, p1, p2, p3⟩, _⟩ := Kv.facts; obtain ⟨f0, f1⟩ := Kv.free (i := 0) rfl; replace ia := ia.call gc; replace ib := ib.call gc; have im := (CanAt.mk_ d3 u3 v3).at_ kU) | ((with_reducible refine (rmk_at ir).mono ?_); rintro e wc ⟨C1, l1, t1, rfl, d3, u3, v3, gc⟩; have Kw := (K.call gc); clear K; have K := Kw; clear Kw; clear n1_ n3_ p0 p1 p2 p3; obtain ⟨⟨p0, p1, p2, p3⟩, _⟩ := K.facts; have n1_ := World.new_ne _ _ p0; dsimp only at n1_; have n3_ := Ne.symm n1_; replace ia := ia.call gc; replace ib := ib.call gc; have im := (CanAt.mk_ d3 u3 v3).at_ kU) | ((with_reducible refine (rmk_at (ir.call (bnew _ _))).mono ?_); rintro e wc ⟨C1, l1, t1, rfl, d3, u3, v3, gc⟩; have Kv := ((K.new 24 (Plains.two false none 0 0)).call gc); clear K; clear n1_ n3_ p0 p1 p2 p3; obtain ⟨⟨o0, o1⟩, ⟨p0, p1, p2, p3⟩, _⟩ := Kv.facts; obtain ⟨f0, f1⟩ := Kv.free (i := 0) rfl; obtain ⟨y1, y2⟩ := Kv.ne 0 1 rfl rfl (by decide); have gz := bcall (bnew _ _) gc; replace ia := ia.call gz; replace ib := ib.call gz; have im := (CanAt.mk_ d3 u3 v3).at_ kU)))
        | (go_at_call 33; (first | ((with_reducible refine (rfromInt_at im zU19).mono ?_); rw [(r_int U).1, (r_int U).2]; rintro e wd ⟨D1, o1_, t2, D2, o2_, t3, rfl, e1, e2, gd⟩; have Kw := (Kv.call gd); clear Kv; have Kv := Kw; clear Kw; clear o0 o1 f0 f1 p0 p1 p2 p3; obtain ⟨⟨o0, o1⟩, ⟨p0, p1, p2, p3⟩, _⟩ := Kv.facts; obtain ⟨f0, f1⟩ := Kv.free (i := 0) rfl; replace ia := ia.call gd; replace ib := ib.call gd; have jU := e1.at_ kU; have j1 : IntAt wd false D2 o2_ t3 1 := CanAt.at_ e2 k1; have lU1 : o1_ ≤ 100000 := (by rw [← e1.2.1.len]; exact lU); have l11 : o2_ ≤ 100000 := (by rw [← e2.2.1.len]; exact l1_)) | ((with_reducible refine (rfromInt_at im zU19).mono ?_); rw [(r_int U).1, (r_int U).2]; rintro e wd ⟨D1, o1_, t2, D2, o2_, t3, rfl, e1, e2, gd⟩; have Kw := (K.call gd); clear K; have K := Kw; clear Kw; clear n1_ n3_ p0 p1 p2 p3; obtain ⟨⟨p0, p1, p2, p3⟩, _⟩ := K.facts; have n1_ := World.new_ne _ _ p0; dsimp only at n1_; have n3_ := Ne.symm n1_; replace ia := ia.call gd; replace ib := ib.call gd; have jU := e1.at_ kU; have j1 : IntAt wd false D2 o2_ t3 1 := CanAt.at_ e2 k1; have lU1 : o1_ ≤ 100000 := (by rw [← e1.2.1.len]; exact lU); have l11 : o2_ ≤ 100000 := (by rw [← e2.2.1.len]; exact l1_)) | ((with_reducible refine (rfromInt_at (im.call (bnew _ _)) zU19).mono ?_); rw [(r_int U).1, (r_int U).2]; rintro e wd ⟨D1, o1_, t2, D2, o2_, t3, rfl, e1, e2, gd⟩; have Kv := ((K.new 24 (Plains.two false none 0 0)).call gd); clear K; clear n1_ n3_ p0 p1 p2 p3; obtain ⟨⟨o0, o1⟩, ⟨p0, p1, p2, p3⟩, _⟩ := Kv.facts; obtain ⟨f0, f1⟩ := Kv.free (i := 0) rfl; obtain ⟨y1, y2⟩ := Kv.ne 0 1 rfl rfl (by decide); have gz := bcall (bnew _ _) gd; replace ia := ia.call gz; replace ib := ib.call gz; have jU := e1.at_ kU; have j1 : IntAt wd false D2 o2_ t3 1 := CanAt.at_ e2 k1; have lU1 : o1_ ≤ 100000 := (by rw [← e1.2.1.len]; exact lU); have l11 : o2_ ≤ 100000 := (by rw [← e2.2.1.len]; exact l1_))))
        | (go_at_call 50; (first | ((with_reducible refine (rmulF_at ia ib jU j1 za9 zb9 zU9 z19 hn1 hn2 lU1 l11).mono ?_); rw [HX.out, HY.out]; rintro e we ⟨E1, o3_, t4, E2, o4_, t5, rfl, e3, e4, ge⟩; have Kw := (Kv.call ge); clear Kv; have Kv := Kw; clear Kw; clear o0 o1 f0 f1 p0 p1 p2 p3; obtain ⟨⟨o0, o1⟩, ⟨p0, p1, p2, p3⟩, _⟩ := Kv.facts; obtain ⟨f0, f1⟩ := Kv.free (i := 0) rfl; have jx := e3.at_ kx; have jy := e4.at_ ky) | ((with_reducible refine (rmulF_at ia ib jU j1 za9 zb9 zU9 z19 hn1 hn2 lU1 l11).mono ?_); rw [HX.out, HY.out]; rintro e we ⟨E1, o3_, t4, E2, o4_, t5, rfl, e3, e4, ge⟩; have Kw := (K.call ge); clear K; have K := Kw; clear Kw; clear n1_ n3_ p0 p1 p2 p3; obtain ⟨⟨p0, p1, p2, p3⟩, _⟩ := K.facts; have n1_ := World.new_ne _ _ p0; dsimp only at n1_; have n3_ := Ne.symm n1_; have jx := e3.at_ kx; have jy := e4.at_ ky) | ((with_reducible refine (rmulF_at (ia.call (bnew _ _)) (ib.call (bnew _ _)) (jU.call (bnew _ _)) (j1.call (bnew _ _)) za9 zb9 zU9 z19 hn1 hn2 lU1 l11).mono ?_); rw [HX.out, HY.out]; rintro e we ⟨E1, o3_, t4, E2, o4_, t5, rfl, e3, e4, ge⟩; have Kv := ((K.new 24 (Plains.two false none 0 0)).call ge); clear K; clear n1_ n3_ p0 p1 p2 p3; obtain ⟨⟨o0, o1⟩, ⟨p0, p1, p2, p3⟩, _⟩ := Kv.facts; obtain ⟨f0, f1⟩ := Kv.free (i := 0) rfl; obtain ⟨y1, y2⟩ := Kv.ne 0 1 rfl rfl (by decide); have gz := bcall (bnew _ _) ge; have jx := e3.at_ kx; have jy := e4.at_ ky)))
        | (go_at_call 49; (first | ((with_reducible refine (rround_at jx jy zx2 zy2).mono ?_); rw [HRED.out]; rintro e wf ⟨C2, l2, t2_, rfl, d4, u4, v4, gf⟩; have Kw := (Kv.call gf).add (CanAt.mk_ d4 u4 v4); clear Kv; have Kv := Kw; clear Kw; clear o0 o1 f0 f1 p0 p1 p2 p3; obtain ⟨⟨o0, o1⟩, ⟨p0, p1, p2, p3⟩, _⟩ := Kv.facts; obtain ⟨f0, f1⟩ := Kv.free (i := 0) rfl; skip) | ((with_reducible refine (rround_at jx jy zx2 zy2).mono ?_); rw [HRED.out]; rintro e wf ⟨C2, l2, t2_, rfl, d4, u4, v4, gf⟩; have Kw := (K.call gf).add (CanAt.mk_ d4 u4 v4); clear K; have K := Kw; clear Kw; clear n1_ n3_ p0 p1 p2 p3; obtain ⟨⟨p0, p1, p2, p3⟩, _⟩ := K.facts; have n1_ := World.new_ne _ _ p0; dsimp only at n1_; have n3_ := Ne.symm n1_; skip) | ((with_reducible refine (rround_at (jx.call (bnew _ _)) (jy.call (bnew _ _)) zx2 zy2).mono ?_); rw [HRED.out]; rintro e wf ⟨C2, l2, t2_, rfl, d4, u4, v4, gf⟩; have Kv := ((K.new 24 (Plains.two false none 0 0)).call gf).add (CanAt.mk_ d4 u4 v4); clear K; clear n1_ n3_ p0 p1 p2 p3; obtain ⟨⟨o0, o1⟩, ⟨p0, p1, p2, p3⟩, _⟩ := Kv.facts; obtain ⟨f0, f1⟩ := Kv.free (i := 0) rfl; obtain ⟨y1, y2⟩ := Kv.ne 0 1 rfl rfl (by decide); have gz := bcall (bnew _ _) gf; skip)))
        | fail)
  | fail
  all_goals (first
    | (have K5 := Kv.put 0 rfl (decide (Z < 0)) C2 l2 t2_; simp only [List.set] at K5)
    | (have K5 := K.new 24 (Plains.two (decide (Z < 0)) C2 l2 t2_)))
  all_goals clear p0 p1 p2 p3
  all_goals obtain ⟨⟨r0, r1⟩, _⟩ := K5.facts
  all_goals have jz := K5.ints.1.ci kZ
  all_goals (go_upto_region 5 with (first
    | (go_at_call 51; (with_reducible refine (rabs_at jz).mono ?_); rw [HA.out]; rintro e wg ⟨C3, l3, t3_, rfl, d5, u5, v5, gg⟩; have K6 := (K5.call gg).add (CanAt.mk_ d5 u5 v5); have jf := K6.ints.1.ci kA; have lf : l3 ≤ 100000 := (by rw [← d5.len]; exact lA))
    | (go_at_call 36; (with_reducible refine (rformat_at2 jf lf).mono ?_); rw [hdz]; rintro e wh ⟨rfl, gh⟩; have K7 := K6.call gh; clear r0 r1; obtain ⟨⟨r0, r1⟩, _⟩ := K7.facts)
    | fail))
  all_goals (rcases HSG.out with ⟨hz, hX⟩ | ⟨hz, hX⟩)
  all_goals rw [hz] at r0
  all_goals clear r1
  all_goals have HX2 := Lib.hid hX
  all_goals have HZb := Lib.hid hz
  all_goals clear hz hX
  all_goals (rcases HCASE.out with ⟨c1_, c2_⟩ | ⟨x_, y_, q_, c1_, c2_, c3_, c4_, c5_, c6_, c7_, c8_, c9_⟩ | ⟨k_, Z_, m_, M_, x_, y_, q_, c0_, ca_, cb_, cc_, cd_, c1_, c2_, c3_, c4_, c5_, c6_, c7_, c8_, c9_⟩)
  all_goals first
    | (have f0 : (p : Int) = 0 := c1_
       have fz : decide (Z < 0) = true := HZb.out
       clear f0 fz
       have f1 : decide ((LD : Int) ≤ (p : Int)) = false := decide_eq_false (by have := HLD.out; omega)
       have f2 : decide ((0 : Int) < (p : Int)) = false := decide_eq_false (by omega)
       have f3 : decide (LD ≤ p) = false := decide_eq_false (by have := HLD.out; omega)
       have f4 : ¬ LD ≤ p := (by have := HLD.out; omega)
       have f5 : p = 0 := by omega
       have f6 : decide (0 < p) = false := decide_eq_false (by omega)
       clear f5
       have C2 := Lib.hid c2_
       clear c1_ c2_
       have t1 : ¬ 9223372036854775807 < 1 + LD := by omega
       have t2 : ¬ 9223372036854775807 < 1 + D.length := by have := HLD.out; omega
       have hfin : (⟨#[45]⟩ : ByteArray) ++ ⟨D.toArray⟩ = ⟨(45 :: ptL D p).toArray⟩ := by rw [C2.out, show (⟨#[45]⟩ : ByteArray) = ⟨([45] : List UInt8).toArray⟩ from rfl, str_app]; first | done | rfl
       have HFIN := Lib.hid hfin
       clear hfin
       go_wp2_with fail
       go_ret2
       refine ⟨?_, K7.below⟩
       rw [HX2.out, ← HFIN.out]
       rfl)
    | (have f0 : (p : Int) = 0 := c1_
       have fz : decide (Z < 0) = false := HZb.out
       clear f0 fz
       have f1 : decide ((LD : Int) ≤ (p : Int)) = false := decide_eq_false (by have := HLD.out; omega)
       have f2 : decide ((0 : Int) < (p : Int)) = false := decide_eq_false (by omega)
       have f3 : decide (LD ≤ p) = false := decide_eq_false (by have := HLD.out; omega)
       have f4 : ¬ LD ≤ p := (by have := HLD.out; omega)
       have f5 : p = 0 := by omega
       have f6 : decide (0 < p) = false := decide_eq_false (by omega)
       clear f5
       have C2 := Lib.hid c2_
       clear c1_ c2_
       have t1 : ¬ 9223372036854775807 < 1 + LD := by omega
       have t2 : ¬ 9223372036854775807 < 1 + D.length := by have := HLD.out; omega
       have hfin : (⟨D.toArray⟩ : ByteArray) = ⟨(ptL D p).toArray⟩ := by rw [C2.out]
       have HFIN := Lib.hid hfin
       clear hfin
       go_wp2_with fail
       go_ret2
       refine ⟨?_, K7.below⟩
       rw [HX2.out, ← HFIN.out]
       rfl)
    | (have f0 := ca_
       have fz : decide (Z < 0) = true := HZb.out
       clear f0 fz
       have C9 := Lib.hid c9_
       clear c9_
       have f3 : LD ≤ p := by omega
       obtain ⟨cc1_, cc2_⟩ := cc_
       have f7 : 0 < p := by omega
       have g0 : (0 : Int) ≤ (q_ : Int) := by omega
       have g1_ : (q_ : Int) ≤ (M_ : Int) := by omega
       have t1 : ¬ 9223372036854775807 < x_.length + 1 := by omega
       have t2 : ¬ 9223372036854775807 < x_.length + 1 + y_.length := by omega
       have t3 : ¬ 9223372036854775807 < 1 + (x_.length + 1 + y_.length) := by omega
       have t4 : ¬ 9223372036854775807 < Z_.length + D.length := by have := HLD.out; omega
       have t5 : ¬ 9223372036854775807 < Z_.length + LD := by omega
       have hfin : (⟨#[45]⟩ : ByteArray) ++ (((⟨x_.toArray⟩ : ByteArray) ++ ⟨#[46]⟩) ++ ⟨y_.toArray⟩) = ⟨(45 :: ptL D p).toArray⟩ := by rw [C9.out, show (⟨#[45]⟩ : ByteArray) = ⟨([45] : List UInt8).toArray⟩ from rfl, show (⟨#[46]⟩ : ByteArray) = ⟨([46] : List UInt8).toArray⟩ from rfl, str_app, str_app, str_app]; congr 2; simp
       have HFIN := Lib.hid hfin
       clear hfin
       go_wp2_with (first | (go_at_call 32; (with_reducible refine (ca_ _).mono ?_); rintro e wi ⟨rfl, gi⟩; have K8 := K7.call gi; clear r0; obtain ⟨⟨r0, _⟩, _⟩ := K8.facts; rw [HZb.out] at r0) | fail)
       go_quiet (fail)
       go_wp2
       go_ret2
       refine ⟨?_, bdrewN K8.below _⟩
       rw [HX2.out, ← HFIN.out]
       rfl)
    | (have f0 := ca_
       have fz : decide (Z < 0) = false := HZb.out
       clear f0 fz
       have C9 := Lib.hid c9_
       clear c9_
       have f3 : LD ≤ p := by omega
       obtain ⟨cc1_, cc2_⟩ := cc_
       have f7 : 0 < p := by omega
       have g0 : (0 : Int) ≤ (q_ : Int) := by omega
       have g1_ : (q_ : Int) ≤ (M_ : Int) := by omega
       have t1 : ¬ 9223372036854775807 < x_.length + 1 := by omega
       have t2 : ¬ 9223372036854775807 < x_.length + 1 + y_.length := by omega
       have t3 : ¬ 9223372036854775807 < 1 + (x_.length + 1 + y_.length) := by omega
       have t4 : ¬ 9223372036854775807 < Z_.length + D.length := by have := HLD.out; omega
       have t5 : ¬ 9223372036854775807 < Z_.length + LD := by omega
       have hfin : ((⟨x_.toArray⟩ : ByteArray) ++ ⟨#[46]⟩) ++ ⟨y_.toArray⟩ = ⟨(ptL D p).toArray⟩ := by rw [C9.out, show (⟨#[46]⟩ : ByteArray) = ⟨([46] : List UInt8).toArray⟩ from rfl, str_app, str_app]; congr 2; simp
       have HFIN := Lib.hid hfin
       clear hfin
       go_wp2_with (first | (go_at_call 32; (with_reducible refine (ca_ _).mono ?_); rintro e wi ⟨rfl, gi⟩; have K8 := K7.call gi; clear r0; obtain ⟨⟨r0, _⟩, _⟩ := K8.facts; rw [HZb.out] at r0) | fail)
       go_quiet (fail)
       go_wp2
       go_ret2
       refine ⟨?_, bdrewN K8.below _⟩
       rw [HX2.out, ← HFIN.out]
       rfl)
    | (have f0 : ptL D p = x_ ++ 46 :: y_ := c9_
       have fz : decide (Z < 0) = true := HZb.out
       clear f0 fz
       have C9 := Lib.hid c9_
       clear c9_
       have f3 : decide (LD ≤ p) = false := decide_eq_false (fun h => by have h2 : decide ((LD : Int) ≤ (p : Int)) = true := decide_eq_true (by omega); rw [h2] at c1_; exact Bool.noConfusion c1_)
       have f4 : ¬ LD ≤ p := of_decide_eq_false f3
       have f7 : 0 < p := by omega
       have g0 : (0 : Int) ≤ (q_ : Int) := by omega
       have g1_ : (q_ : Int) ≤ (LD : Int) := by omega
       have t1 : ¬ 9223372036854775807 < x_.length + 1 := by omega
       have t2 : ¬ 9223372036854775807 < x_.length + 1 + y_.length := by omega
       have t3 : ¬ 9223372036854775807 < 1 + (x_.length + 1 + y_.length) := by omega
       have hfin : (⟨#[45]⟩ : ByteArray) ++ (((⟨x_.toArray⟩ : ByteArray) ++ ⟨#[46]⟩) ++ ⟨y_.toArray⟩) = ⟨(45 :: ptL D p).toArray⟩ := by rw [C9.out, show (⟨#[45]⟩ : ByteArray) = ⟨([45] : List UInt8).toArray⟩ from rfl, show (⟨#[46]⟩ : ByteArray) = ⟨([46] : List UInt8).toArray⟩ from rfl, str_app, str_app, str_app]; congr 2; simp
       have HFIN := Lib.hid hfin
       clear hfin
       go_wp2_with fail
       go_quiet (fail)
       go_wp2
       go_ret2
       refine ⟨?_, bdrewN K7.below _⟩
       rw [HX2.out, ← HFIN.out]
       rfl)
    | (have f0 : ptL D p = x_ ++ 46 :: y_ := c9_
       have fz : decide (Z < 0) = false := HZb.out
       clear f0 fz
       have C9 := Lib.hid c9_
       clear c9_
       have f3 : decide (LD ≤ p) = false := decide_eq_false (fun h => by have h2 : decide ((LD : Int) ≤ (p : Int)) = true := decide_eq_true (by omega); rw [h2] at c1_; exact Bool.noConfusion c1_)
       have f4 : ¬ LD ≤ p := of_decide_eq_false f3
       have f7 : 0 < p := by omega
       have g0 : (0 : Int) ≤ (q_ : Int) := by omega
       have g1_ : (q_ : Int) ≤ (LD : Int) := by omega
       have t1 : ¬ 9223372036854775807 < x_.length + 1 := by omega
       have t2 : ¬ 9223372036854775807 < x_.length + 1 + y_.length := by omega
       have t3 : ¬ 9223372036854775807 < 1 + (x_.length + 1 + y_.length) := by omega
       have hfin : ((⟨x_.toArray⟩ : ByteArray) ++ ⟨#[46]⟩) ++ ⟨y_.toArray⟩ = ⟨(ptL D p).toArray⟩ := by rw [C9.out, show (⟨#[46]⟩ : ByteArray) = ⟨([46] : List UInt8).toArray⟩ from rfl, str_app, str_app]; congr 2; simp
       have HFIN := Lib.hid hfin
       clear hfin
       go_wp2_with fail
       go_quiet (fail)
       go_wp2
       go_ret2
       refine ⟨?_, bdrewN K7.below _⟩
       rw [HX2.out, ← HFIN.out]
       rfl)
end Go.Proofs.YtkhficmehjglmaaGreat

