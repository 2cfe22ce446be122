/-
  Texts of fractions: Format, on both sides.
-/
import Derived.Test.YtekoeohkkabkdaaGreatTxI
import Derived.Test.YtekoeohkkabkdaaGreatTxJ
import Derived.Test.YtekoeohkkabkdaaGreatRfrac3
import Derived.Test.YtekoeohkkabkdaaGreatFrcC
import Derived.Deep.RegionHeld3
import Derived.Laws.AppendOwnNone
set_option linter.unusedVariables false
set_option linter.unusedSimpArgs false
set_option warningAsError false
namespace Go.Proofs.YtekoeohkkabkdaaGreat
open Go.RowKit

theorem str_app (x y : List UInt8) : (⟨x.toArray⟩ : ByteArray) ++ ⟨y.toArray⟩ = ⟨(x ++ y).toArray⟩ := by
  apply ByteArray.ext
  show (ByteArray.append _ _).data = _
  simp
theorem run_append_none_c {P : Program} {w : World} (t ty e : TypeId) (i : TypeInfo) (ht : P.underlying t = some (.slice e)) (hi : P.info? e = some i) (c : Nat) :
    (Builtin.append_ #[t, t] ty #[.slice none 0 0, .slice none 0 c]).run P w = .ok (.slice none 0 0) w := by
  simp [Builtin.append_, run_underlying ht, sizeOf, typeInfo, hi, Builtin.lenOf, Builtin.firstCells]
theorem wpList_append_none_c {P : Program} {w : World} {ops : Array Oper} {rest : List Oper} {o : Oper} {a : Act} {Q : Exit → Act → World → Prop} (hgd : o.guard = none) (s x : Operand) (t : TypeId)
    (ho : o.op = .call { callee := .builtin .append, args := #[s, x], argTypes := #[t, t] })
    (e : TypeId) (i : TypeInfo) (ht : P.underlying t = some (.slice e)) (hi : P.info? e = some i) (c : Nat)
    (hs : a.eval s = .slice none 0 0) (hx : a.eval x = .slice none 0 c)
    (h : wpList P ops Q rest (a.put o.dst (.slice none 0 0)) w) : wpList P ops Q (o :: rest) a w := by
  refine wpList_plain hgd fun K hK => ?_
  have hrun := run_append_none_c (P := P) (w := w) t o.type e i ht hi c
  unfold Oper.wp
  simp [execOp, ho, resolve, invoke, builtin, hs, hx, hrun, Result.andThen]
  exact hK _ _ h
set_option maxHeartbeats 4000000 in
set_option maxRecDepth 100000 in
theorem rformat_any2 (neg : Bool) (A : Option Addr) (n c : Nat) (ds : List Nat) (w : World) (h : Dgs w w.heap.size A n ds) (hc : n ≤ c) (hm : c ≤ maxLen) (hs : n ≤ 100000) :
    Calls Tryz.prog 33 #[.agg #[.bool neg, .slice A n c]] w (RetS w (decZ (zOf neg (val ds)))) := by
  rcases A with _ | ad
  rotate_left
  · exact rformat_any neg (some ad) n c ds w h hc hm hs (fun e => by cases e)
  have hn : n = 0 := by
    rcases Nat.eq_zero_or_pos n with h0 | h0
    · exact h0
    · obtain ⟨_, _, e, _⟩ := h.at_ h0; cases e
  subst hn
  have hds : ds = [] := List.eq_nil_of_length_eq_zero h.len
  subst hds
  obtain ⟨i0, hi, hz0, hz1, hz2⟩ := info_parts u32_info
  have HD : Hid (decZ (zOf neg (val [])) = [48]) := by
    unfold Hid
    cases neg <;> (unfold decZ zOf val; simp; exact decs_small (by decide))
  obtain ⟨ZZ, HZZ⟩ : ∃ v, Hid (decZ (zOf neg (val [])) = v) := ⟨_, rfl⟩
  rw [HZZ.out] at HD ⊢
  have hZ := HD.out
  subst hZ
  have hN : Hid (0 = (digs (val [])).length) := by unfold Hid; rw [show val [] = 0 from rfl, digs_zero]; rfl
  have hd0 := h.alloc (Nat.le_refl _) (.cells #[.bool neg, .slice none 0 c] 24)
  have htrim := rtrim_fix none 0 c w.heap.size 0 [] _ hd0 hc hm hN
  obtain ⟨q0, q1, q2, q3⟩ := (Own.new w 24 (.bool neg) (.slice none 0 c)).facts
  go_enter Tryz.func33, Tryz.ntmps33
  go_wp2_with (first
    | (go_at_call 63; (with_reducible refine htrim.mono ?_); rintro e w1 ⟨rfl, rfl⟩)
    | (at_builtin; refine wpList_append_none_c rfl _ _ 22 rfl 74 i0 Tryz.underlying22 hi c rfl rfl ?_)
    | fail)
  go_ret
  exact ⟨rfl, bnew _ _⟩
theorem rformat_at2 {w : World} {s : Bool} {A : Option Addr} {n c : Nat} {x : Int} (h : IntAt w s A n c x) (hn : n ≤ 100000) : Calls Tryz.prog 33 #[.agg #[.bool s, .slice A n c]] w (RetS w (decZ x)) := by
  obtain ⟨d, hd, hc, hm, rfl, _⟩ := h
  exact rformat_any2 s A n c d w hd hc hm hn

/-- The text of a canonical fraction. -/
def fmtQ (x y : Int) : List UInt8 := if y = 1 then decZ x else (decZ x ++ [47]) ++ decZ y
theorem decZ_1 : decZ 1 = [49] := by unfold decZ; rw [if_neg (by decide), decs_small (by decide)]; rfl
theorem decZ_one {y : Int} (h : decZ y = [49]) : y = 1 := by
  have h1 := parZ_decZ y
  have h2 := parZ_decZ 1
  rw [h, if_neg (by decide)] at h1
  rw [decZ_1, if_neg (by decide)] at h2
  exact h1.symm.trans h2
theorem sameOne {w : World} {s s' : Bool} {A A' : Option Addr} {n c n' c' : Nat} {x y : Int} (h : CanAt w s A n c x) (h' : CanAt w s' A' n' c' y) : Calls Tryz.prog 31 #[.agg #[.bool s, .slice A n c], .agg #[.bool s', .slice A' n' c']] w fun e w' => e = .returned (.bool (decide (x = y))) ∧ Below w.heap.size w w' := by
  obtain ⟨rfl, h1, h2, h3⟩ := h
  obtain ⟨rfl, h1', h2', h3'⟩ := h'
  have := sameInt_any (decide (x < 0)) (decide (y < 0)) A A' n n' c c' _ _ w h1 h1' h2 h3 h2' h3'
  have e : sameB (decide (x < 0)) (decide (y < 0)) (digs x.natAbs) (digs y.natAbs) = decide (x = y) := by
    unfold sameB
    refine decide_eq_decide.2 ⟨fun ⟨e1, e2⟩ => ?_, fun e => by rw [e]; exact ⟨rfl, rfl⟩⟩
    have e3 := digs_inj e2
    have e4 : (x < 0) ↔ (y < 0) := by simpa using e1
    omega
  rwa [e] at this
theorem decZ_szl {z : Int} {k : Nat} (h : Sz z k) (hk : 10 * k + 2 ≤ 100000) : (decZ z).length ≤ 100000 := by
  have h1 : (decs z.natAbs).length ≤ 10 * k + 1 := decs_len' h
  unfold decZ
  split
  · rw [List.length_cons]; omega
  · omega

set_option maxHeartbeats 8000000 in
set_option maxRecDepth 100000 in
theorem qformat_at {w : World} {s1 s2 : Bool} {A1 A2 : Option Addr} {n1 c1 n2 c2 : Nat} {a b : Int} (h1 : IntAt w s1 A1 n1 c1 a) (h2 : IntAt w s2 A2 n2 c2 b) (za : Sz a 1900) (zb : Sz b 1900) :
    Calls Tryz.prog 6 #[.agg #[.bool s1, .slice A1 n1 c1, .bool s2, .slice A2 n2 c2]] w (RetS w (fmtQ (rn a b) (rd a b))) := by
  have H0 := ((St.start w).addI h1).addI h2 |>.new 26 (Plains.four s1 A1 n1 c1 s2 A2 n2 c2)
  (try simp only [World.size_alloc] at H0)
  have HH := Lib.hid H0
  clear H0 h1 h2
  have zx : Sz (rn a b) 1900 := sz_rn za
  have zy : Sz (rd a b) 1901 := sz_rd zb (by decide)
  have za2 : Sz a 2000 := za.mono (by decide)
  have zb2 : Sz b 2000 := zb.mono (by decide)
  obtain ⟨x, HX⟩ : ∃ v, Hid (rn a b = v) := ⟨_, rfl⟩
  obtain ⟨y, HY⟩ : ∃ v, Hid (rd a b = v) := ⟨_, rfl⟩
  rw [HX.out] at zx
  rw [HY.out] at zy
  have kx := zx.ok
  have ky := zy.ok
  have lx := zx.len2
  have ly := zy.len2
  have dxl : (decZ x).length ≤ 100000 := decZ_szl zx (by decide)
  have dyl : (decZ y).length ≤ 100000 := decZ_szl zy (by decide)
  rw [HX.out, HY.out]
  have hc1 : y = 1 → fmtQ x y = decZ x := fun h => by unfold fmtQ; rw [if_pos h]
  have hc2 : ¬ y = 1 → fmtQ x y = (decZ x ++ [47]) ++ decZ y := fun h => by unfold fmtQ; rw [if_neg h]
  have hd1 : y = 1 → decZ y = [49] := fun h => by rw [h, decZ_1]
  have hd2 : ¬ y = 1 → (decZ y == [49]) = false := fun h => by
    rw [beq_eq_false_iff_ne]
    exact fun e => h (decZ_one e)
  obtain ⟨F, HF⟩ : ∃ v, Hid (fmtQ x y = v) := ⟨_, rfl⟩
  obtain ⟨N, HN⟩ : ∃ v, Hid (decZ x = v) := ⟨_, rfl⟩
  obtain ⟨D, HD⟩ : ∃ v, Hid (decZ y = v) := ⟨_, rfl⟩
  rw [HF.out, HN.out] at hc1
  rw [HF.out, HN.out, HD.out] at hc2
  rw [HD.out] at hd1 hd2 dyl
  rw [HN.out] at dxl
  rw [HF.out]
  have hcat1 : (⟨N.toArray⟩ : ByteArray) ++ ⟨#[47]⟩ = ⟨(N ++ [47]).toArray⟩ := by
    rw [show (⟨#[47]⟩ : ByteArray) = ⟨([47] : List UInt8).toArray⟩ from rfl, str_app]
  have hml : (N ++ [47]).length = N.length + 1 := by simp
  obtain ⟨M, HM⟩ : ∃ v : List UInt8, Hid (N ++ ([47] : List UInt8) = v) := ⟨_, rfl⟩
  rw [HM.out] at hcat1 hml hc2
  have hcat2 := str_app M D
  have s1_ := str_size N
  have s2_ := str_size M
  have s3_ := str_size D
  have b1 : ¬ 9223372036854775807 < N.length + 1 := by omega
  have b2 : ¬ 9223372036854775807 < M.length + D.length := by omega
  have HC1 := Lib.hid hc1
  have HC2 := Lib.hid hc2
  have HD1 := Lib.hid hd1
  have HD2 := Lib.hid hd2
  clear hc1 hc2 hd1 hd2
  go_enter Tryz.func6, Tryz.ntmps6
  go_upto_region 2 with (first
    | (go_at_call 15; have K := HH.out; clear HH; have i1 := K.ints.2.1.i; have i2 := K.ints.1.i; (with_reducible refine (canonFrac_at i1 i2 za2 zb2).mono ?_); rw [HX.out, HY.out]; rintro e wa ⟨B1, m1, k1, B2, m2, k2, rfl, d1, d2, ga⟩; have Ka := ((K.call ga).add d2).add d1; obtain ⟨⟨p0, p1, p2, p3⟩, _⟩ := Ka.facts; obtain ⟨f0, f1, f2, f3⟩ := Ka.free (i := 0) rfl)
    | fail)
  have Kp := Ka.put4 0 rfl (decide (x < 0)) B1 m1 k1 (decide (y < 0)) B2 m2 k2
  simp only [List.set] at Kp
  clear K Ka i1 i2 p0 p1 p2 p3 f0 f1 f2 f3 d1 d2 ga
  generalize ((((wa.setCell ⟨w.heap.size, 0, none⟩ (.bool (decide (x < 0)))).setCell ⟨w.heap.size, 1, none⟩ (.slice B1 m1 k1)).setCell ⟨w.heap.size, 2, none⟩ (.bool (decide (y < 0)))).setCell ⟨w.heap.size, 3, none⟩ (.slice B2 m2 k2)) = W4 at Kp ⊢
  have Kd := Kp.drew
  clear Kp
  obtain ⟨⟨p0, p1, p2, p3⟩, _⟩ := Kd.facts
  have mx : m1 ≤ 100000 := by have := Kd.ints.1.c.2.1.len; omega
  have my : m2 ≤ 100000 := by have := Kd.ints.2.1.c.2.1.len; omega
  have ix := Kd.ints.1.ci kx
  have iy := Kd.ints.2.1.ci ky
  go_region_held3 (fun w' => w'.cell? ⟨w.heap.size, 0, none⟩ = some (.bool (decide (x < 0))) ∧ w'.cell? ⟨w.heap.size, 1, none⟩ = some (.slice B1 m1 k1) ∧ w'.cell? ⟨w.heap.size, 2, none⟩ = some (.bool (decide (y < 0))) ∧ w'.cell? ⟨w.heap.size, 3, none⟩ = some (.slice B2 m2 k2))
    (go_keep)
    (first
      | (go_at_call_of 16 (Value.agg #[Value.bool (decide (x < 0)), Value.slice B1 m1 k1]); (with_reducible refine (formatInt_at ix mx).mono ?_); rw [HN.out]; rintro e wb ⟨rfl, gwb⟩; have Kd := Kd.call gwb; clear p0 p1 p2 p3; obtain ⟨⟨p0, p1, p2, p3⟩, _⟩ := Kd.facts; replace ix := Kd.ints.1.ci kx; replace iy := Kd.ints.2.1.ci ky)
      | (go_at_call_of 16 (Value.agg #[Value.bool (decide (y < 0)), Value.slice B2 m2 k2]); (with_reducible refine (formatInt_at iy my).mono ?_); rw [HD.out]; rintro e wc ⟨rfl, gwc⟩; have Kd := Kd.call gwc; clear p0 p1 p2 p3; obtain ⟨⟨p0, p1, p2, p3⟩, _⟩ := Kd.facts; replace ix := Kd.ints.1.ci kx; replace iy := Kd.ints.2.1.ci ky)
      | fail)
  all_goals (by_cases hy : y = 1)
  all_goals first
    | (have hF := HC1.out hy
       have hD := HD1.out hy
       subst hD
       rw [hF]
       go_wp2_with fail
       go_ret
       exact ⟨by first | rfl | (rw [hF]; rfl), Kd.below⟩)
    | (have hF := HC2.out hy
       have hD := HD2.out hy
       rw [hF]
       go_wp2_with fail
       go_ret
       exact ⟨by first | rfl | (rw [hF]; rfl), Kd.below⟩)
end Go.Proofs.YtekoeohkkabkdaaGreat

