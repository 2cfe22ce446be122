/-
  Texts of fractions: the place of a byte, a text cut at a byte, zeros.
-/
import Derived.Test.YtekoeohkkabkdaaGreatTxB
import Derived.Shelf.Lays
import Derived.Shelf.Strings.Repeat
import Derived.Deep.QuietTactic
import Derived.BigQuiet
import Derived.Lib.IndexLaws
import Derived.Lib.Bytealg
import Derived.OwnWalk
set_option linter.unusedVariables false
set_option linter.unusedSimpArgs false
namespace Go.Proofs
open Go.Shelf
def Tryz.lays105_ren : Go.Shelf.Ren := ⟨fun | 105 => 53 | 212 => 79 | 99 => 52 | 165 => 80 | 166 => 81 | 170 => 82 | 169 => 83 | 263 => 106 | 264 => 107 | 206 => 78 | 240 => 108 | 241 => 109 | 276 => 118 | 277 => 119 | n => n, fun | 9 => 9 | 3 => 3 | 4 => 4 | 20 => 20 | 0 => 0 | 46 => 75 | 109 => 86 | 5 => 5 | 72 => 90 | 76 => 94 | 51 => 74 | 146 => 112 | 53 => 73 | 148 => 114 | 70 => 88 | 37 => 76 | 75 => 93 | 127 => 116 | 164 => 122 | 80 => 97 | n => n, fun | n => n⟩
theorem Tryz.lays105 : Go.Proofs.Lays.n105 Tryz.prog Tryz.lays105_ren := {
  mixed := by kernel_rfl
  f99 := Tryz.func52.trans (congrArg some (by kernel_rfl))
  f105 := Tryz.func53.trans (congrArg some (by kernel_rfl))
  f165 := Tryz.func80.trans (congrArg some (by kernel_rfl))
  f166 := Tryz.func81.trans (congrArg some (by kernel_rfl))
  f169 := Tryz.func83.trans (congrArg some (by kernel_rfl))
  f170 := Tryz.func82.trans (congrArg some (by kernel_rfl))
  f206 := Tryz.func78.trans (congrArg some (by kernel_rfl))
  f212 := Tryz.func79.trans (congrArg some (by kernel_rfl))
  f240 := Tryz.func108.trans (congrArg some (by kernel_rfl))
  f241 := Tryz.func109.trans (congrArg some (by kernel_rfl))
  f263 := Tryz.func106.trans (congrArg some (by kernel_rfl))
  f264 := Tryz.func107.trans (congrArg some (by kernel_rfl))
  f276 := Tryz.func118.trans (congrArg some (by kernel_rfl))
  f277 := Tryz.func119.trans (congrArg some (by kernel_rfl))
  t0 := Tryz.underlying0
  a0 := Tryz.isAgg0
  z0 := Tryz.sizeOf0
  v0 := Tryz.zeroValue0
  t3 := Tryz.underlying3
  a3 := Tryz.isAgg3
  z3 := Tryz.sizeOf3
  v3 := Tryz.zeroValue3
  t4 := Tryz.underlying4
  a4 := Tryz.isAgg4
  z4 := Tryz.sizeOf4
  v4 := Tryz.zeroValue4
  t5 := Tryz.underlying5
  a5 := Tryz.isAgg5
  z5 := Tryz.sizeOf5
  v5 := Tryz.zeroValue5
  t9 := Tryz.underlying9
  a9 := Tryz.isAgg9
  z9 := Tryz.sizeOf9
  v9 := Tryz.zeroValue9
  t20 := Tryz.underlying20
  a20 := Tryz.isAgg20
  z20 := Tryz.sizeOf20
  v20 := Tryz.zeroValue20
  t37 := Tryz.underlying76
  a37 := Tryz.isAgg76
  z37 := Tryz.sizeOf76
  v37 := Tryz.zeroValue76
  t46 := Tryz.underlying75
  a46 := Tryz.isAgg75
  z46 := Tryz.sizeOf75
  v46 := Tryz.zeroValue75
  t51 := Tryz.underlying74
  a51 := Tryz.isAgg74
  z51 := Tryz.sizeOf74
  v51 := Tryz.zeroValue74
  t53 := Tryz.underlying73
  a53 := Tryz.isAgg73
  z53 := Tryz.sizeOf73
  v53 := Tryz.zeroValue73
  t70 := Tryz.underlying88
  a70 := Tryz.isAgg88
  z70 := Tryz.sizeOf88
  v70 := Tryz.zeroValue88
  t72 := Tryz.underlying90
  a72 := Tryz.isAgg90
  z72 := Tryz.sizeOf90
  v72 := Tryz.zeroValue90
  t75 := Tryz.underlying93
  a75 := Tryz.isAgg93
  z75 := Tryz.sizeOf93
  v75 := Tryz.zeroValue93
  t76 := Tryz.underlying94
  a76 := Tryz.isAgg94
  z76 := Tryz.sizeOf94
  v76 := Tryz.zeroValue94
  t109 := Tryz.underlying86
  a109 := Tryz.isAgg86
  z109 := Tryz.sizeOf86
  v109 := Tryz.zeroValue86
  t127 := Tryz.underlying116
  a127 := Tryz.isAgg116
  z127 := Tryz.sizeOf116
  v127 := Tryz.zeroValue116
  t146 := Tryz.underlying112
  a146 := Tryz.isAgg112
  z146 := Tryz.sizeOf112
  v146 := Tryz.zeroValue112
  t148 := Tryz.underlying114
  a148 := Tryz.isAgg114
  z148 := Tryz.sizeOf114
  v148 := Tryz.zeroValue114
  t164 := Tryz.underlying122
  a164 := Tryz.isAgg122
  z164 := Tryz.sizeOf122
  v164 := Tryz.zeroValue122 }
theorem Tryz.builder105 : Builder.Extra Tryz.prog Tryz.lays105_ren := {
  sizeBuilder := by kernel_rfl
  liesBuilder := by kernel_rfl
  t5 := Tryz.underlying5
  a5 := Tryz.isAgg5
  z5 := Tryz.sizeOf5
  v5 := Tryz.zeroValue5
  infoByte := by kernel_rfl
  cellsByte := by kernel_rfl
  sizeByte := by kernel_rfl
  neB5 := by decide }
end Go.Proofs
namespace Go.Proofs.YtekoeohkkabkdaaGreat
open Go.RowKit

def fx (l : List UInt8) (c : UInt8) : Int := Lib.indexByte l c
theorem fx_lo (l : List UInt8) (b : UInt8) : -1 ≤ fx l b := Lib.indexByte_ge l b
theorem fx_get {l : List UInt8} {c : UInt8} {i : Nat} (h : fx l c = (i : Int)) : i < l.length ∧ (byteAt l i).toNat = c.toNat := by
  obtain ⟨h1, _⟩ := Lib.indexByte_some (l := l) (c := c) (o := i) h
  obtain ⟨h3, h4⟩ := List.getElem?_eq_some_iff.1 h1
  refine ⟨h3, ?_⟩
  unfold byteAt
  rw [show l.getD i 0 = l[i] by simp [List.getD, List.getElem?_eq_getElem h3], h4]
theorem fx_hi (l : List UInt8) (b : UInt8) : fx l b < l.length := by
  by_cases h : fx l b < 0
  · omega
  · obtain ⟨i, hi⟩ : ∃ i : Nat, fx l b = (i : Int) := ⟨(fx l b).toNat, by omega⟩
    have := (fx_get hi).1
    omega
theorem fx_is {l : List UInt8} {c : UInt8} (n : Nat) (hn : n < l.length) (h : (byteAt l n).toNat = c.toNat) (hno : ∀ k, k < n → (byteAt l k).toNat ≠ c.toNat) : fx l c = (n : Int) := by
  have hlo := fx_lo l c
  have hx : l[n]? = some c := by
    unfold byteAt at h
    rw [show l.getD n 0 = l[n] by simp [List.getD, List.getElem?_eq_getElem hn]] at h
    rw [List.getElem?_eq_getElem hn]; congr 1; exact u8_ext h
  by_cases hm : fx l c = -1
  · exact absurd hx (Lib.indexByte_none hm n)
  · obtain ⟨o, ho⟩ : ∃ o : Nat, fx l c = (o : Int) := ⟨(fx l c).toNat, by omega⟩
    obtain ⟨_, h2⟩ := Lib.indexByte_some (l := l) (c := c) (o := o) ho
    obtain ⟨g1, g2⟩ := fx_get ho
    rcases Nat.lt_trichotomy o n with h1 | h1 | h1
    · exact absurd g2 (hno o h1)
    · rw [ho, h1]
    · exact absurd hx (h2 n h1)
theorem fx_none {l : List UInt8} {c : UInt8} (hno : ∀ k, k < l.length → (byteAt l k).toNat ≠ c.toNat) : fx l c = -1 := by
  have hlo := fx_lo l c
  by_cases hm : fx l c = -1
  · exact hm
  · obtain ⟨o, ho⟩ : ∃ o : Nat, fx l c = (o : Int) := ⟨(fx l c).toNat, by omega⟩
    obtain ⟨g1, g2⟩ := fx_get ho
    exact absurd g2 (hno o g1)
def RetF0 (w : World) (z : Int) (e : Ending) (w' : World) : Prop := e = .returned (.int .i64 z) ∧ w = w'
def RetI0 (w : World) (z : Int) (e : Ending) (w' : World) : Prop := e = .returned (.int .i64 z) ∧ w = w'
theorem below_drewN (h0 : True) {B : Nat} {a w : World} (h : Below B a w) (q : Nat) : Below B a (w.drewN q) := ⟨h.os, h.tape, h.output, by simpa using h.size, fun k hk => by have := h.block k hk; simpa using this⟩
set_option maxHeartbeats 2000000 in
set_option maxRecDepth 100000 in
theorem find_any (l : List UInt8) (hl : l.length ≤ 9223372036854775807) (c : UInt8) (w : World) : Calls Tryz.prog 22 #[.string ⟨l.toArray⟩, .int .u8 (c.toNat : Int)] w (RetF0 w (fx l c)) := by
  have hsz := str_size l
  have his := @fx_is l c
  have hnone := @fx_none l c
  obtain ⟨R, HR⟩ : ∃ v, Hid (fx l c = v) := ⟨_, rfl⟩
  rw [HR.out] at his hnone ⊢
  obtain ⟨L, HL⟩ : ∃ v, Hid (l.length = v) := ⟨_, rfl⟩
  rw [HL.out] at hsz hl his hnone
  obtain ⟨n, Hn⟩ : ∃ v, Hid (c.toNat = v) := ⟨_, rfl⟩
  rw [Hn.out] at his hnone ⊢
  have HIS := Lib.hid his
  have HNO := Lib.hid hnone
  clear his hnone
  go_enter Tryz.func22, Tryz.ntmps22
  go_wp2_with fail
  go_loop [5] (fun i => ∃ k : Nat, k ≤ L ∧ i = .int .i64 k ∧ Hid (∀ j, j < k → (byteAt l j).toNat ≠ n)) (fun i => L - (intOf i).toNat)
  case atStart => exact ⟨0, by omega, rfl, fun j hj => absurd hj (by omega)⟩
  case round =>
    obtain ⟨k, hk, rfl, hno⟩ := hrel
    by_cases hlt : k < L
    · have hg := str_get (l := l) (k := k) (by rw [HL.out]; exact hlt)
      obtain ⟨b, Hb⟩ : ∃ v, Hid ((byteAt l k).toNat = v) := ⟨_, rfl⟩
      have hgc : ∀ h, ((⟨l.toArray⟩ : ByteArray)[k]'h).toNat = b := fun h => by rw [hg h]; exact Hb.out
      clear hg
      have j0 : (0 : Int) ≤ (k : Int) := by omega
      have j1 : (k : Int) < (L : Int) := by omega
      by_cases he : b = n
      · subst he
        have HF : Hid (R = (k : Int)) := HIS.out k hlt Hb.out hno.out
        go_wp2_with fail
        go_ret
        exact ⟨by rw [HF.out]; rfl, rfl⟩
      · have e1 : ((b : Int) == (n : Int)) = false := by simp; omega
        have e2 : ¬ (b : Int) = (n : Int) := by omega
        have HN : Hid (∀ j, j < k + 1 → (byteAt l j).toNat ≠ n) := by
          intro j hj
          by_cases hjk : j = k
          · rw [hjk, Hb.out]; exact he
          · exact hno.out j (by omega)
        go_wp2_with fail
        go_round
        case rel => exact ⟨k + 1, by omega, by go_num, HN⟩
        case measure => simp [intOf]; omega
    · obtain rfl : k = L := by omega
      have HF : Hid (R = -1) := HNO.out hno.out
      have j1 : ¬ (k : Int) < (k : Int) := by omega
      go_wp2_with fail
      go_ret
      exact ⟨by rw [HF.out]; rfl, rfl⟩
set_option maxHeartbeats 2000000 in
set_option maxRecDepth 100000 in
theorem indexByteS_any47 (l : List UInt8) (w : World) : Calls Tryz.prog 102 #[.string ⟨l.toArray⟩, .int .u8 47] w (RetI0 w (fx l 47)) := by
  have hrun : (Extern.BytealgIndexByte.indexByte #[.string ⟨l.toArray⟩, .int .u8 47]).run Tryz.prog w = .ok (.int .i64 (fx l 47)) w := by
    rw [Lib.run_indexByteString]; rfl
  go_enter Tryz.func102, Tryz.ntmps102
  go_wp2
  rw [run_callFunc_extern Tryz.func116 (by kernel_rfl) (by kernel_rfl) (by kernel_rfl) (e := Extern.BytealgIndexByte.indexByte) (by kernel_rfl), hrun]
  simp only [Result.andThen]
  rw [Oper.upon_value]
  go_wp2
  go_ret
  exact ⟨rfl, rfl⟩
set_option maxHeartbeats 2000000 in
set_option maxRecDepth 100000 in
theorem indexS_any47 (l : List UInt8) (w : World) : Calls Tryz.prog 77 #[.string ⟨l.toArray⟩, .string ⟨#[47]⟩] w (RetI0 w (fx l 47)) := by
  have hi := indexByteS_any47 l
  have hs1 : (⟨#[47]⟩ : ByteArray).size = 1 := rfl
  have hg : ∀ h, ((⟨#[47]⟩ : ByteArray)[0]'h).toNat = 47 := fun h => rfl
  by_cases h : l = [47]
  · subst h
    have hx : fx [47] 47 = 0 := by decide
    rw [hx]
    clear hi
    go_enter Tryz.func77, Tryz.ntmps77
    go_wp2_with fail
    go_ret
    exact ⟨rfl, rfl⟩
  · have e1 : (([47] : List UInt8) == l) = false := by rw [beq_eq_false_iff_ne]; exact fun h2 => h h2.symm
    have e2 : (l == ([47] : List UInt8)) = false := by rw [beq_eq_false_iff_ne]; exact h
    have e3 : ¬ ([47] : List UInt8) = l := fun h2 => h h2.symm
    obtain ⟨R, HR⟩ : ∃ v, Hid (fx l 47 = v) := ⟨_, rfl⟩
    rw [HR.out] at hi ⊢
    go_enter Tryz.func77, Tryz.ntmps77
    go_wp2_with (first
      | (go_at_call 102; (with_reducible refine (hi _).mono ?_); rintro e w1 ⟨rfl, rfl⟩)
      | fail)
    go_ret
    exact ⟨rfl, rfl⟩
def RetC347 (w : World) (a b : List UInt8) (f : Bool) (e : Ending) (w' : World) : Prop := e = .returned (.tuple #[.string ⟨a.toArray⟩, .string ⟨b.toArray⟩, .bool f]) ∧ Below w.heap.size w w'
def ct147 (l : List UInt8) : List UInt8 := if 0 ≤ fx l 47 then l.take (fx l 47).toNat else l
def ct247 (l : List UInt8) : List UInt8 := if 0 ≤ fx l 47 then l.drop ((fx l 47).toNat + 1) else []
def ctF47 (l : List UInt8) : Bool := decide (0 ≤ fx l 47)
set_option maxHeartbeats 2000000 in
set_option maxRecDepth 100000 in
theorem litCutS_any47 (l : List UInt8) (hl : l.length ≤ 9223372036854774707) (w : World) : Calls Tryz.prog 50 #[.string ⟨l.toArray⟩, .string ⟨#[47]⟩] w (RetC347 w (ct147 l) (ct247 l) (ctF47 l)) := by
  have hi := indexS_any47 l
  have hlo := fx_lo l 47
  have hhi := fx_hi l 47
  have hs1 : (⟨#[47]⟩ : ByteArray).size = 1 := rfl
  have hsz := str_size l
  have h1 : ct147 l = if 0 ≤ fx l 47 then l.take (fx l 47).toNat else l := rfl
  have h2 : ct247 l = if 0 ≤ fx l 47 then l.drop ((fx l 47).toNat + 1) else [] := rfl
  have h3 : ctF47 l = decide (0 ≤ fx l 47) := rfl
  obtain ⟨X, HX⟩ : ∃ v, Hid (ct147 l = v) := ⟨_, rfl⟩
  obtain ⟨Y, HY⟩ : ∃ v, Hid (ct247 l = v) := ⟨_, rfl⟩
  obtain ⟨F, HF⟩ : ∃ v, Hid (ctF47 l = v) := ⟨_, rfl⟩
  rw [HX.out, HY.out, HF.out]
  rw [HX.out] at h1
  rw [HY.out] at h2
  rw [HF.out] at h3
  obtain ⟨L, HL⟩ : ∃ v, Hid (l.length = v) := ⟨_, rfl⟩
  rw [HL.out] at hhi hsz hl
  by_cases h : 0 ≤ fx l 47
  · obtain ⟨i, hii⟩ : ∃ i : Nat, fx l 47 = (i : Int) := ⟨(fx l 47).toNat, by omega⟩
    rw [hii] at hi hhi h1 h2 h3
    rw [if_pos (by omega)] at h1 h2
    rw [decide_eq_true (by omega)] at h3
    rw [Int.toNat_natCast] at h1 h2
    subst h3
    have hiL : i < L := by omega
    have x1 : (⟨l.toArray⟩ : ByteArray).extract 0 i = ⟨X.toArray⟩ := by rw [extract_data, List.drop_zero, h1]
    have x2 : (⟨l.toArray⟩ : ByteArray).extract (i + 1) L = ⟨Y.toArray⟩ := by rw [extract_data, List.take_of_length_le (by rw [HL.out]; exact Nat.le_refl _), h2]
    have k1 : (0 : Int) ≤ (i : Int) := by omega
    have k2 : (i : Int) ≤ (L : Int) := by omega
    have k3 : (i : Int) + 1 ≤ (L : Int) := by omega
    have k4 : (0 : Int) ≤ (i : Int) + 1 := by omega
    have k5 : IntKind.i64.wrap ((i : Int) + 1) = (i : Int) + 1 := IntWalk.i64_in _ (by omega)
    have k6 : ((i : Int) + 1).toNat = i + 1 := by omega
    clear h1 h2 hlo h hii
    go_enter Tryz.func50, Tryz.ntmps50
    go_upto_region 3 with (first
      | (go_at_call 77; (with_reducible refine (hi _).mono ?_); rintro e w1 ⟨rfl, rfl⟩)
      | fail)
    first
    | (go_quiet (fail))
    | skip
    go_wp2_with fail
    go_ret3
    exact ⟨rfl, by first | exact Below.refl _ _ | exact below_drewN trivial (Below.refl _ _) _⟩
  · have hm : fx l 47 = -1 := by omega
    rw [hm] at hi h1 h2 h3
    rw [if_neg (by omega)] at h1 h2
    rw [decide_eq_false (by omega)] at h3
    subst h1 h2 h3
    clear hm h hlo hhi
    go_enter Tryz.func50, Tryz.ntmps50
    go_wp2_with (first
      | (go_at_call 77; (with_reducible refine (hi _).mono ?_); rintro e w1 ⟨rfl, rfl⟩)
      | fail)
    go_ret3
    exact ⟨rfl, Below.refl _ _⟩
set_option maxHeartbeats 2000000 in
set_option maxRecDepth 100000 in
theorem cutS_any47 (l : List UInt8) (hl : l.length ≤ 9223372036854774707) (w : World) : Calls Tryz.prog 17 #[.string ⟨l.toArray⟩, .string ⟨#[47]⟩] w (RetC347 w (ct147 l) (ct247 l) (ctF47 l)) := by
  have hi := litCutS_any47 l hl w
  unfold RetC347 at *
  obtain ⟨X, HX⟩ : ∃ v, Hid (ct147 l = v) := ⟨_, rfl⟩
  obtain ⟨Y, HY⟩ : ∃ v, Hid (ct247 l = v) := ⟨_, rfl⟩
  obtain ⟨F, HF⟩ : ∃ v, Hid (ctF47 l = v) := ⟨_, rfl⟩
  rw [HX.out, HY.out, HF.out] at hi ⊢
  go_enter Tryz.func17, Tryz.ntmps17
  go_wp2_with (first
    | (go_at_call 50; (with_reducible refine hi.mono ?_); rintro e w1 ⟨rfl, g1⟩)
    | fail)
  go_ret3
  exact ⟨rfl, g1⟩

set_option maxHeartbeats 2000000 in
set_option maxRecDepth 100000 in
theorem indexByteS_any46 (l : List UInt8) (w : World) : Calls Tryz.prog 102 #[.string ⟨l.toArray⟩, .int .u8 46] w (RetI0 w (fx l 46)) := by
  have hrun : (Extern.BytealgIndexByte.indexByte #[.string ⟨l.toArray⟩, .int .u8 46]).run Tryz.prog w = .ok (.int .i64 (fx l 46)) w := by
    rw [Lib.run_indexByteString]; rfl
  go_enter Tryz.func102, Tryz.ntmps102
  go_wp2
  rw [run_callFunc_extern Tryz.func116 (by kernel_rfl) (by kernel_rfl) (by kernel_rfl) (e := Extern.BytealgIndexByte.indexByte) (by kernel_rfl), hrun]
  simp only [Result.andThen]
  rw [Oper.upon_value]
  go_wp2
  go_ret
  exact ⟨rfl, rfl⟩
set_option maxHeartbeats 2000000 in
set_option maxRecDepth 100000 in
theorem indexS_any46 (l : List UInt8) (w : World) : Calls Tryz.prog 77 #[.string ⟨l.toArray⟩, .string ⟨#[46]⟩] w (RetI0 w (fx l 46)) := by
  have hi := indexByteS_any46 l
  have hs1 : (⟨#[46]⟩ : ByteArray).size = 1 := rfl
  have hg : ∀ h, ((⟨#[46]⟩ : ByteArray)[0]'h).toNat = 46 := fun h => rfl
  by_cases h : l = [46]
  · subst h
    have hx : fx [46] 46 = 0 := by decide
    rw [hx]
    clear hi
    go_enter Tryz.func77, Tryz.ntmps77
    go_wp2_with fail
    go_ret
    exact ⟨rfl, rfl⟩
  · have e1 : (([46] : List UInt8) == l) = false := by rw [beq_eq_false_iff_ne]; exact fun h2 => h h2.symm
    have e2 : (l == ([46] : List UInt8)) = false := by rw [beq_eq_false_iff_ne]; exact h
    have e3 : ¬ ([46] : List UInt8) = l := fun h2 => h h2.symm
    obtain ⟨R, HR⟩ : ∃ v, Hid (fx l 46 = v) := ⟨_, rfl⟩
    rw [HR.out] at hi ⊢
    go_enter Tryz.func77, Tryz.ntmps77
    go_wp2_with (first
      | (go_at_call 102; (with_reducible refine (hi _).mono ?_); rintro e w1 ⟨rfl, rfl⟩)
      | fail)
    go_ret
    exact ⟨rfl, rfl⟩
def RetC346 (w : World) (a b : List UInt8) (f : Bool) (e : Ending) (w' : World) : Prop := e = .returned (.tuple #[.string ⟨a.toArray⟩, .string ⟨b.toArray⟩, .bool f]) ∧ Below w.heap.size w w'
def ct146 (l : List UInt8) : List UInt8 := if 0 ≤ fx l 46 then l.take (fx l 46).toNat else l
def ct246 (l : List UInt8) : List UInt8 := if 0 ≤ fx l 46 then l.drop ((fx l 46).toNat + 1) else []
def ctF46 (l : List UInt8) : Bool := decide (0 ≤ fx l 46)
set_option maxHeartbeats 2000000 in
set_option maxRecDepth 100000 in
theorem litCutS_any46 (l : List UInt8) (hl : l.length ≤ 9223372036854774607) (w : World) : Calls Tryz.prog 50 #[.string ⟨l.toArray⟩, .string ⟨#[46]⟩] w (RetC346 w (ct146 l) (ct246 l) (ctF46 l)) := by
  have hi := indexS_any46 l
  have hlo := fx_lo l 46
  have hhi := fx_hi l 46
  have hs1 : (⟨#[46]⟩ : ByteArray).size = 1 := rfl
  have hsz := str_size l
  have h1 : ct146 l = if 0 ≤ fx l 46 then l.take (fx l 46).toNat else l := rfl
  have h2 : ct246 l = if 0 ≤ fx l 46 then l.drop ((fx l 46).toNat + 1) else [] := rfl
  have h3 : ctF46 l = decide (0 ≤ fx l 46) := rfl
  obtain ⟨X, HX⟩ : ∃ v, Hid (ct146 l = v) := ⟨_, rfl⟩
  obtain ⟨Y, HY⟩ : ∃ v, Hid (ct246 l = v) := ⟨_, rfl⟩
  obtain ⟨F, HF⟩ : ∃ v, Hid (ctF46 l = v) := ⟨_, rfl⟩
  rw [HX.out, HY.out, HF.out]
  rw [HX.out] at h1
  rw [HY.out] at h2
  rw [HF.out] at h3
  obtain ⟨L, HL⟩ : ∃ v, Hid (l.length = v) := ⟨_, rfl⟩
  rw [HL.out] at hhi hsz hl
  by_cases h : 0 ≤ fx l 46
  · obtain ⟨i, hii⟩ : ∃ i : Nat, fx l 46 = (i : Int) := ⟨(fx l 46).toNat, by omega⟩
    rw [hii] at hi hhi h1 h2 h3
    rw [if_pos (by omega)] at h1 h2
    rw [decide_eq_true (by omega)] at h3
    rw [Int.toNat_natCast] at h1 h2
    subst h3
    have hiL : i < L := by omega
    have x1 : (⟨l.toArray⟩ : ByteArray).extract 0 i = ⟨X.toArray⟩ := by rw [extract_data, List.drop_zero, h1]
    have x2 : (⟨l.toArray⟩ : ByteArray).extract (i + 1) L = ⟨Y.toArray⟩ := by rw [extract_data, List.take_of_length_le (by rw [HL.out]; exact Nat.le_refl _), h2]
    have k1 : (0 : Int) ≤ (i : Int) := by omega
    have k2 : (i : Int) ≤ (L : Int) := by omega
    have k3 : (i : Int) + 1 ≤ (L : Int) := by omega
    have k4 : (0 : Int) ≤ (i : Int) + 1 := by omega
    have k5 : IntKind.i64.wrap ((i : Int) + 1) = (i : Int) + 1 := IntWalk.i64_in _ (by omega)
    have k6 : ((i : Int) + 1).toNat = i + 1 := by omega
    clear h1 h2 hlo h hii
    go_enter Tryz.func50, Tryz.ntmps50
    go_upto_region 3 with (first
      | (go_at_call 77; (with_reducible refine (hi _).mono ?_); rintro e w1 ⟨rfl, rfl⟩)
      | fail)
    first
    | (go_quiet (fail))
    | skip
    go_wp2_with fail
    go_ret3
    exact ⟨rfl, by first | exact Below.refl _ _ | exact below_drewN trivial (Below.refl _ _) _⟩
  · have hm : fx l 46 = -1 := by omega
    rw [hm] at hi h1 h2 h3
    rw [if_neg (by omega)] at h1 h2
    rw [decide_eq_false (by omega)] at h3
    subst h1 h2 h3
    clear hm h hlo hhi
    go_enter Tryz.func50, Tryz.ntmps50
    go_wp2_with (first
      | (go_at_call 77; (with_reducible refine (hi _).mono ?_); rintro e w1 ⟨rfl, rfl⟩)
      | fail)
    go_ret3
    exact ⟨rfl, Below.refl _ _⟩
set_option maxHeartbeats 2000000 in
set_option maxRecDepth 100000 in
theorem cutS_any46 (l : List UInt8) (hl : l.length ≤ 9223372036854774607) (w : World) : Calls Tryz.prog 17 #[.string ⟨l.toArray⟩, .string ⟨#[46]⟩] w (RetC346 w (ct146 l) (ct246 l) (ctF46 l)) := by
  have hi := litCutS_any46 l hl w
  unfold RetC346 at *
  obtain ⟨X, HX⟩ : ∃ v, Hid (ct146 l = v) := ⟨_, rfl⟩
  obtain ⟨Y, HY⟩ : ∃ v, Hid (ct246 l = v) := ⟨_, rfl⟩
  obtain ⟨F, HF⟩ : ∃ v, Hid (ctF46 l = v) := ⟨_, rfl⟩
  rw [HX.out, HY.out, HF.out] at hi ⊢
  go_enter Tryz.func17, Tryz.ntmps17
  go_wp2_with (first
    | (go_at_call 50; (with_reducible refine hi.mono ?_); rintro e w1 ⟨rfl, g1⟩)
    | fail)
  go_ret3
  exact ⟨rfl, g1⟩

end Go.Proofs.YtekoeohkkabkdaaGreat

