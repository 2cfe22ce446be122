/-
  Decimals: zeros by strings.Repeat and by the reference; a point before the last digits.
-/
import Derived.Test.YtkhficmehjglmaaGreatTxJ
import Derived.Shelf.Strings.Repeat
import Derived.Deep.QuietTactic
import Derived.BigQuiet
set_option linter.unusedVariables false
set_option linter.unusedSimpArgs false
namespace Go.Proofs
open Go.Shelf
def Tryz.lays105_ren : Go.Shelf.Ren := ⟨fun | 105 => 64 | 212 => 97 | 99 => 63 | 165 => 98 | 166 => 99 | 170 => 100 | 169 => 101 | 263 => 128 | 264 => 129 | 206 => 96 | 240 => 130 | 241 => 131 | 276 => 140 | 277 => 141 | n => n, fun | 9 => 9 | 3 => 3 | 4 => 4 | 20 => 20 | 0 => 0 | 46 => 80 | 109 => 96 | 5 => 5 | 72 => 100 | 76 => 104 | 51 => 79 | 146 => 123 | 53 => 78 | 148 => 125 | 70 => 98 | 37 => 81 | 75 => 103 | 127 => 127 | 164 => 133 | 80 => 107 | n => n, fun | n => n⟩
theorem Tryz.lays105 : Go.Proofs.Lays.n105 Tryz.prog Tryz.lays105_ren := {
  mixed := by kernel_rfl
  f99 := Tryz.func63.trans (congrArg some (by kernel_rfl))
  f105 := Tryz.func64.trans (congrArg some (by kernel_rfl))
  f165 := Tryz.func98.trans (congrArg some (by kernel_rfl))
  f166 := Tryz.func99.trans (congrArg some (by kernel_rfl))
  f169 := Tryz.func101.trans (congrArg some (by kernel_rfl))
  f170 := Tryz.func100.trans (congrArg some (by kernel_rfl))
  f206 := Tryz.func96.trans (congrArg some (by kernel_rfl))
  f212 := Tryz.func97.trans (congrArg some (by kernel_rfl))
  f240 := Tryz.func130.trans (congrArg some (by kernel_rfl))
  f241 := Tryz.func131.trans (congrArg some (by kernel_rfl))
  f263 := Tryz.func128.trans (congrArg some (by kernel_rfl))
  f264 := Tryz.func129.trans (congrArg some (by kernel_rfl))
  f276 := Tryz.func140.trans (congrArg some (by kernel_rfl))
  f277 := Tryz.func141.trans (congrArg some (by kernel_rfl))
  t0 := Tryz.underlying0
  a0 := Tryz.isAgg0
  z0 := Tryz.sizeOf0
  v0 := Tryz.zeroValue0
  t3 := Tryz.underlying3
  a3 := Tryz.isAgg3
  z3 := Tryz.sizeOf3
  v3 := Tryz.zeroValue3
  t4 := Tryz.underlying4
  a4 := Tryz.isAgg4
  z4 := Tryz.sizeOf4
  v4 := Tryz.zeroValue4
  t5 := Tryz.underlying5
  a5 := Tryz.isAgg5
  z5 := Tryz.sizeOf5
  v5 := Tryz.zeroValue5
  t9 := Tryz.underlying9
  a9 := Tryz.isAgg9
  z9 := Tryz.sizeOf9
  v9 := Tryz.zeroValue9
  t20 := Tryz.underlying20
  a20 := Tryz.isAgg20
  z20 := Tryz.sizeOf20
  v20 := Tryz.zeroValue20
  t37 := Tryz.underlying81
  a37 := Tryz.isAgg81
  z37 := Tryz.sizeOf81
  v37 := Tryz.zeroValue81
  t46 := Tryz.underlying80
  a46 := Tryz.isAgg80
  z46 := Tryz.sizeOf80
  v46 := Tryz.zeroValue80
  t51 := Tryz.underlying79
  a51 := Tryz.isAgg79
  z51 := Tryz.sizeOf79
  v51 := Tryz.zeroValue79
  t53 := Tryz.underlying78
  a53 := Tryz.isAgg78
  z53 := Tryz.sizeOf78
  v53 := Tryz.zeroValue78
  t70 := Tryz.underlying98
  a70 := Tryz.isAgg98
  z70 := Tryz.sizeOf98
  v70 := Tryz.zeroValue98
  t72 := Tryz.underlying100
  a72 := Tryz.isAgg100
  z72 := Tryz.sizeOf100
  v72 := Tryz.zeroValue100
  t75 := Tryz.underlying103
  a75 := Tryz.isAgg103
  z75 := Tryz.sizeOf103
  v75 := Tryz.zeroValue103
  t76 := Tryz.underlying104
  a76 := Tryz.isAgg104
  z76 := Tryz.sizeOf104
  v76 := Tryz.zeroValue104
  t109 := Tryz.underlying96
  a109 := Tryz.isAgg96
  z109 := Tryz.sizeOf96
  v109 := Tryz.zeroValue96
  t127 := Tryz.underlying127
  a127 := Tryz.isAgg127
  z127 := Tryz.sizeOf127
  v127 := Tryz.zeroValue127
  t146 := Tryz.underlying123
  a146 := Tryz.isAgg123
  z146 := Tryz.sizeOf123
  v146 := Tryz.zeroValue123
  t148 := Tryz.underlying125
  a148 := Tryz.isAgg125
  z148 := Tryz.sizeOf125
  v148 := Tryz.zeroValue125
  t164 := Tryz.underlying133
  a164 := Tryz.isAgg133
  z164 := Tryz.sizeOf133
  v164 := Tryz.zeroValue133 }
theorem Tryz.builder105 : Builder.Extra Tryz.prog Tryz.lays105_ren := {
  sizeBuilder := by kernel_rfl
  liesBuilder := by kernel_rfl
  t5 := Tryz.underlying5
  a5 := Tryz.isAgg5
  z5 := Tryz.sizeOf5
  v5 := Tryz.zeroValue5
  infoByte := by kernel_rfl
  cellsByte := by kernel_rfl
  sizeByte := by kernel_rfl
  neB5 := by decide }
end Go.Proofs
namespace Go.Proofs.YtkhficmehjglmaaGreat
open Go.RowKit

theorem str_app (x y : List UInt8) : (⟨x.toArray⟩ : ByteArray) ++ ⟨y.toArray⟩ = ⟨(x ++ y).toArray⟩ := by
  apply ByteArray.ext
  show (ByteArray.append _ _).data = _
  simp
theorem repeat48 : ∀ c, Lib.repeatL [48] c = List.replicate c 48
  | 0 => rfl
  | c + 1 => by
    show [48] ++ Lib.repeatL [48] c = _
    rw [repeat48 c, List.replicate_succ]; rfl
theorem repeat0_any (c : Nat) (hc : c ≤ 1000000) (w : World) : Calls Tryz.prog 64 #[.string ⟨#[48]⟩, .int .i64 (c : Int)] w (RetS w (List.replicate c 48)) := by
  have h := Any.strings_Repeat Tryz.lays105 Tryz.builder105 ⟨#[48]⟩ c w (by omega) (by show 1 * c ≤ _; omega)
  refine Calls.mono (show Calls Tryz.prog 64 #[.string ⟨#[48]⟩, .int .i64 (c : Int)] w _ from h) ?_
  rintro e w' ⟨he, hb⟩
  refine ⟨?_, hb⟩
  rw [he, ← repeat48]
def padL (l : List UInt8) (p : Nat) : List UInt8 := List.replicate (p + 1 - l.length) 48 ++ l
def ptL (l : List UInt8) (p : Nat) : List UInt8 := if p = 0 then l else (padL l p).take ((padL l p).length - p) ++ 46 :: (padL l p).drop ((padL l p).length - p)
theorem padL_short {l : List UInt8} {p : Nat} (h : p < l.length) : padL l p = l := by
  unfold padL; rw [show p + 1 - l.length = 0 by omega]; rfl
theorem padL_len (l : List UInt8) (p : Nat) : (padL l p).length = if l.length ≤ p then p + 1 else l.length := by
  unfold padL
  rw [List.length_append, List.length_replicate]
  split <;> omega
set_option maxHeartbeats 2000000 in
set_option maxRecDepth 100000 in
theorem rzeros_any (n : Nat) (hn : n ≤ 1000000) (w : World) : Calls Tryz.prog 32 #[.int .i64 (n : Int)] w (RetS w (List.replicate n 48)) := by
  have hmk := run_make_row' (P := Tryz.prog) 81 5 (.int .u8 0) 1 Tryz.underlying81 u8_info rfl .i64 .i64 n (by omega) (by omega)
  have HR : Hid (BRow (w.alloc (.cells (madeCells #[.int .u8 0] n) 5)) w.heap.size (List.replicate n 0)) := BRow.made w n
  go_enter Tryz.func32, Tryz.ntmps32
  go_upto_region 3 with fail
  go_loopw [4] (fun i wr => ∃ k : Nat, k ≤ n ∧ i = .int .i64 k ∧ BRow wr w.heap.size (List.replicate k 48 ++ List.replicate (n - k) 0) ∧ Below w.heap.size w wr) (fun i _ => n - (intOf i).toNat)
  case atStart => exact ⟨0, by omega, rfl, by simpa using HR.out, bnew _ _⟩
  case round =>
    obtain ⟨k, hk, rfl, hB, hb⟩ := hrel
    by_cases hlt : k < n
    · have hx := hB.cell (j := k) (by simp; omega)
      have hfr := hB.frozen k
      have i0 : (0 : Int) ≤ (k : Int) := by omega
      have i1 : (k : Int) < (n : Int) := by omega
      have hset := Lib.hid (hB.set k 48 (z := 48) rfl)
      have HB := Lib.hid hb
      clear hb hB
      go_wp2_with fail
      go_roundw
      case rel =>
        refine ⟨k + 1, by omega, by go_num, ?_, HB.out.setCell (Nat.le_refl _) _⟩
        have h1 := hset.out
        rw [List.set_append_right _ _ (by simp), List.length_replicate, Nat.sub_self, show n - k = (n - (k + 1)) + 1 by omega, List.replicate_succ, List.set_cons_zero] at h1
        rw [List.replicate_succ', List.append_assoc]
        exact h1
      case measure => simp [intOf]; omega
    · obtain rfl : k = n := by omega
      have hcv := run_convert_bytes_back (P := Tryz.prog) wr 81 9 5 ⟨w.heap.size, 0, none⟩ k (List.replicate k 48) Tryz.underlying81 Tryz.underlying5 Tryz.underlying9 (fun j hj => by
        rw [Addr.add_lit, Nat.zero_add]
        rw [hB.cell (j := j) (by simp at hj ⊢; omega)]
        simp at hj
        rw [List.getElem_append_left (by simpa using hj)])
      rw [List.length_replicate] at hcv
      have j1 : ¬ (k : Int) < (k : Int) := by omega
      have HB := Lib.hid hb
      clear hb hB
      go_wp2_with fail
      go_ret
      exact ⟨rfl, HB.out⟩
set_option maxHeartbeats 2000000 in
set_option maxRecDepth 100000 in
theorem insertPoint_any (l : List UInt8) (hl : l.length ≤ 100000) (hl0 : 0 < l.length) (p : Nat) (hp : p ≤ 1000) (w : World) : Calls Tryz.prog 46 #[.string ⟨l.toArray⟩, .int .i64 (p : Int)] w (RetS w (ptL l p)) := by
  by_cases h0 : p = 0
  · subst h0
    have HP : Hid (ptL l 0 = l) := by unfold Hid ptL; rw [if_pos rfl]
    obtain ⟨R, HR⟩ : ∃ v, Hid (ptL l 0 = v) := ⟨_, rfl⟩
    rw [HR.out] at HP ⊢
    have e := HP.out
    subst e
    go_enter Tryz.func46, Tryz.ntmps46
    go_wp2_with fail
    go_ret
    exact ⟨rfl, Below.refl _ _⟩
  have hP : ptL l p = (padL l p).take ((padL l p).length - p) ++ 46 :: (padL l p).drop ((padL l p).length - p) := by unfold ptL; rw [if_neg h0]
  have hsz := str_size l
  have hpl := padL_len l p
  have hpd : padL l p = List.replicate (p + 1 - l.length) 48 ++ l := rfl
  have hps := @padL_short l p
  obtain ⟨R, HR⟩ : ∃ v, Hid (ptL l p = v) := ⟨_, rfl⟩
  rw [HR.out] at hP ⊢
  obtain ⟨m, Hm⟩ : ∃ v, Hid (padL l p = v) := ⟨_, rfl⟩
  rw [Hm.out] at hP hpl hpd hps
  obtain ⟨L, HL⟩ : ∃ v, Hid (l.length = v) := ⟨_, rfl⟩
  rw [HL.out] at hl hl0 hsz hpl hpd hps
  have hmz := str_size m
  obtain ⟨M, HM⟩ : ∃ v, Hid (m.length = v) := ⟨_, rfl⟩
  rw [HM.out] at hP hpl hmz
  obtain ⟨q, Hq⟩ : ∃ v, Hid (M - p = v) := ⟨_, rfl⟩
  rw [Hq.out] at hP
  obtain ⟨x, Hx⟩ : ∃ v, Hid (m.take q = v) := ⟨_, rfl⟩
  obtain ⟨y, Hy⟩ : ∃ v, Hid (m.drop q = v) := ⟨_, rfl⟩
  rw [Hx.out, Hy.out] at hP
  have hMp : p < M := by rw [hpl]; split <;> omega
  have hMb : M ≤ 101000 := by rw [hpl]; split <;> omega
  have hqq : (M : Int) - (p : Int) = (q : Int) := by have := Hq.out; omega
  have q0 : (0 : Int) ≤ (q : Int) := by omega
  have q1 : (q : Int) ≤ (M : Int) := by have := Hq.out; omega
  have hex : (⟨m.toArray⟩ : ByteArray).extract 0 q = ⟨x.toArray⟩ := by rw [extract_data, List.drop_zero, Hx.out]
  have hey : (⟨m.toArray⟩ : ByteArray).extract q M = ⟨y.toArray⟩ := by rw [extract_data, List.take_of_length_le (by rw [HM.out]; exact Nat.le_refl _), Hy.out]
  have hxl : x.length ≤ 101000 := by rw [← Hx.out, List.length_take]; omega
  have hyl : y.length ≤ 101000 := by rw [← Hy.out, List.length_drop, HM.out]; omega
  have b1 : ¬ 9223372036854775807 < x.length + 1 := by omega
  have b2 : ¬ 9223372036854775807 < x.length + 1 + y.length := by omega
  have HPP := Lib.hid hP
  have hp0 : ((p : Int) == 0) = false := by simp; omega
  clear hP hpl
  by_cases hs : L ≤ p
  · obtain ⟨k, Hk⟩ : ∃ v, Hid (p + 1 - L = v) := ⟨_, rfl⟩
    rw [Hk.out] at hpd
    have hkk : (p : Int) + 1 - (L : Int) = (k : Int) := by have := Hk.out; omega
    have hk0 : (0 : Int) < (k : Int) := by have := Hk.out; omega
    have hkb : k ≤ 1001 := by have := Hk.out; omega
    have hrep := repeat0_any k (by omega)
    obtain ⟨Z, HZ⟩ : ∃ v, Hid (List.replicate k (48 : UInt8) = v) := ⟨_, rfl⟩
    rw [HZ.out] at hrep hpd
    have hzl : Z.length ≤ 1001 := by rw [← HZ.out, List.length_replicate]; exact hkb
    have hcat : (⟨Z.toArray⟩ : ByteArray) ++ ⟨l.toArray⟩ = ⟨m.toArray⟩ := by rw [str_app, hpd]
    have b0 : ¬ 9223372036854775807 < Z.length + l.length := by rw [HL.out]; omega
    have b0' : ¬ 9223372036854775807 < Z.length + L := by omega
    clear hpd hps
    go_enter Tryz.func46, Tryz.ntmps46
    go_wp2_with (first
      | (go_at_call 64; (with_reducible refine (hrep _).mono ?_); rintro e w1 ⟨rfl, g1⟩)
      | fail)
    go_quiet (fail)
    go_wp2
    go_ret
    refine ⟨?_, bdrewN g1 _⟩
    rw [HPP.out, show ({ data := #[46] } : ByteArray) = ⟨([46] : List UInt8).toArray⟩ from rfl, str_app, str_app, List.append_assoc]
    rfl
  · have hml : m = l := hps (by omega)
    subst hml
    have hLM : M = L := by rw [← HM.out, HL.out]
    subst hLM
    have hk0 : ¬ (0 : Int) < (p : Int) + 1 - (M : Int) := by omega
    have hk1 : decide ((0 : Int) < (p : Int) + 1 - (M : Int)) = false := by simp; omega
    clear hpd hps
    go_enter Tryz.func46, Tryz.ntmps46
    go_wp2_with fail
    go_quiet (fail)
    go_wp2
    go_ret
    refine ⟨?_, bdrewN (Below.refl _ _) _⟩
    rw [HPP.out, show ({ data := #[46] } : ByteArray) = ⟨([46] : List UInt8).toArray⟩ from rfl, str_app, str_app, List.append_assoc]
    rfl
end Go.Proofs.YtkhficmehjglmaaGreat

