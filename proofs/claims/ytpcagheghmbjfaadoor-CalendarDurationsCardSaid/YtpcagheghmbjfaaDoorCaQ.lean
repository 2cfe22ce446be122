/-
  Calendar: strconv.Itoa and strings.Repeat by the library's contracts; numbers with leading zeros, on both sides.
-/
import Derived.Test.YtpcagheghmbjfaaDoorCaP
import Derived.Shelf.LaysM
import Derived.Shelf.Lays
import Derived.Shelf.Strconv.Itoa3
import Derived.Shelf.Strings.Repeat
import Derived.Lib.ItoaLen
import Derived.Lib.ItoaNum
import Derived.Lib.AppendIntMem
import Derived.Lib.SmallJoins
set_option linter.unusedVariables false
set_option linter.unusedSimpArgs false
namespace Go.Proofs
open Go.Shelf
def Tryd.laysM171_ren : Go.Shelf.Ren := ⟨fun | 171 => 70 | 243 => 74 | 246 => 85 | 283 => 92 | 284 => 93 | 285 => 94 | 286 => 95 | 129 => 99 | 317 => 98 | 318 => 100 | 319 => 101 | 320 => 102 | 337 => 103 | 338 => 104 | n => n, fun | 3 => 3 | 9 => 9 | 2 => 2 | 4 => 4 | 171 => 90 | 0 => 0 | 53 => 85 | 37 => 63 | 5 => 5 | 173 => 93 | 212 => 99 | 51 => 82 | 20 => 20 | 213 => 100 | 46 => 67 | 232 => 103 | 233 => 104 | n => n, fun | 17 => 2 | 18 => 3 | 19 => 4 | n => n⟩
theorem Tryd.laysM171 : Go.Proofs.LaysM.n171 Tryd.prog Tryd.laysM171_ren := {
  mixed := by kernel_rfl
  f129 := Tryd.func99.trans (congrArg some (by kernel_rfl))
  f171 := Tryd.func70.trans (congrArg some (by kernel_rfl))
  f243 := Tryd.func74.trans (congrArg some (by kernel_rfl))
  f246 := Tryd.func85.trans (congrArg some (by kernel_rfl))
  f283 := Tryd.func92.trans (congrArg some (by kernel_rfl))
  f284 := Tryd.func93.trans (congrArg some (by kernel_rfl))
  f285 := Tryd.func94.trans (congrArg some (by kernel_rfl))
  f286 := Tryd.func95.trans (congrArg some (by kernel_rfl))
  f317 := Tryd.func98.trans (congrArg some (by kernel_rfl))
  f318 := Tryd.func100.trans (congrArg some (by kernel_rfl))
  f319 := Tryd.func101.trans (congrArg some (by kernel_rfl))
  f320 := Tryd.func102.trans (congrArg some (by kernel_rfl))
  f337 := Tryd.func103.trans (congrArg some (by kernel_rfl))
  f338 := Tryd.func104.trans (congrArg some (by kernel_rfl))
  t0 := Tryd.underlying0
  a0 := Tryd.isAgg0
  z0 := Tryd.sizeOf0
  v0 := Tryd.zeroValue0
  t2 := Tryd.underlying2
  a2 := Tryd.isAgg2
  z2 := Tryd.sizeOf2
  v2 := Tryd.zeroValue2
  t3 := Tryd.underlying3
  a3 := Tryd.isAgg3
  z3 := Tryd.sizeOf3
  v3 := Tryd.zeroValue3
  t4 := Tryd.underlying4
  a4 := Tryd.isAgg4
  z4 := Tryd.sizeOf4
  v4 := Tryd.zeroValue4
  t5 := Tryd.underlying5
  a5 := Tryd.isAgg5
  z5 := Tryd.sizeOf5
  v5 := Tryd.zeroValue5
  t9 := Tryd.underlying9
  a9 := Tryd.isAgg9
  z9 := Tryd.sizeOf9
  v9 := Tryd.zeroValue9
  t20 := Tryd.underlying20
  a20 := Tryd.isAgg20
  z20 := Tryd.sizeOf20
  v20 := Tryd.zeroValue20
  t37 := Tryd.underlying63
  a37 := Tryd.isAgg63
  z37 := Tryd.sizeOf63
  v37 := Tryd.zeroValue63
  t46 := Tryd.underlying67
  a46 := Tryd.isAgg67
  z46 := Tryd.sizeOf67
  v46 := Tryd.zeroValue67
  t51 := Tryd.underlying82
  a51 := Tryd.isAgg82
  z51 := Tryd.sizeOf82
  v51 := Tryd.zeroValue82
  t53 := Tryd.underlying85
  a53 := Tryd.isAgg85
  z53 := Tryd.sizeOf85
  v53 := Tryd.zeroValue85
  t171 := Tryd.underlying90
  a171 := Tryd.isAgg90
  z171 := Tryd.sizeOf90
  v171 := Tryd.zeroValue90
  t173 := Tryd.underlying93
  a173 := Tryd.isAgg93
  z173 := Tryd.sizeOf93
  v173 := Tryd.zeroValue93
  t212 := Tryd.underlying99
  a212 := Tryd.isAgg99
  z212 := Tryd.sizeOf99
  v212 := Tryd.zeroValue99
  t213 := Tryd.underlying100
  a213 := Tryd.isAgg100
  z213 := Tryd.sizeOf100
  t232 := Tryd.underlying103
  a232 := Tryd.isAgg103
  z232 := Tryd.sizeOf103
  v232 := Tryd.zeroValue103
  t233 := Tryd.underlying104
  a233 := Tryd.isAgg104
  z233 := Tryd.sizeOf104
  v233 := Tryd.zeroValue104
  g17 := by kernel_rfl
  g18 := by kernel_rfl
  g19 := by kernel_rfl
  i0 := by kernel_rfl
  i2 := by kernel_rfl
  i3 := by kernel_rfl
  i4 := by kernel_rfl
  i5 := by kernel_rfl
  i9 := by kernel_rfl
  i20 := by kernel_rfl
  i37 := by kernel_rfl
  i46 := by kernel_rfl
  i51 := by kernel_rfl
  i53 := by kernel_rfl
  i171 := by kernel_rfl
  i173 := by kernel_rfl
  i212 := by kernel_rfl
  i232 := by kernel_rfl
  i233 := by kernel_rfl
  m17 := by kernel_rfl
  m18 := by kernel_rfl
  m19 := by kernel_rfl }
def Tryd.lays105_ren : Go.Shelf.Ren := ⟨fun | 105 => 71 | 212 => 75 | 99 => 76 | 165 => 77 | 166 => 78 | 170 => 79 | 169 => 80 | 263 => 86 | 264 => 87 | 206 => 72 | 240 => 88 | 241 => 89 | 276 => 96 | 277 => 97 | n => n, fun | 9 => 9 | 3 => 3 | 4 => 4 | 20 => 20 | 0 => 0 | 46 => 67 | 109 => 68 | 5 => 5 | 72 => 72 | 76 => 76 | 51 => 82 | 146 => 83 | 53 => 85 | 148 => 86 | 70 => 70 | 37 => 63 | 75 => 75 | 127 => 88 | 164 => 95 | 80 => 79 | n => n, fun | n => n⟩
theorem Tryd.lays105 : Go.Proofs.Lays.n105 Tryd.prog Tryd.lays105_ren := {
  mixed := by kernel_rfl
  f99 := Tryd.func76.trans (congrArg some (by kernel_rfl))
  f105 := Tryd.func71.trans (congrArg some (by kernel_rfl))
  f165 := Tryd.func77.trans (congrArg some (by kernel_rfl))
  f166 := Tryd.func78.trans (congrArg some (by kernel_rfl))
  f169 := Tryd.func80.trans (congrArg some (by kernel_rfl))
  f170 := Tryd.func79.trans (congrArg some (by kernel_rfl))
  f206 := Tryd.func72.trans (congrArg some (by kernel_rfl))
  f212 := Tryd.func75.trans (congrArg some (by kernel_rfl))
  f240 := Tryd.func88.trans (congrArg some (by kernel_rfl))
  f241 := Tryd.func89.trans (congrArg some (by kernel_rfl))
  f263 := Tryd.func86.trans (congrArg some (by kernel_rfl))
  f264 := Tryd.func87.trans (congrArg some (by kernel_rfl))
  f276 := Tryd.func96.trans (congrArg some (by kernel_rfl))
  f277 := Tryd.func97.trans (congrArg some (by kernel_rfl))
  t0 := Tryd.underlying0
  a0 := Tryd.isAgg0
  z0 := Tryd.sizeOf0
  v0 := Tryd.zeroValue0
  t3 := Tryd.underlying3
  a3 := Tryd.isAgg3
  z3 := Tryd.sizeOf3
  v3 := Tryd.zeroValue3
  t4 := Tryd.underlying4
  a4 := Tryd.isAgg4
  z4 := Tryd.sizeOf4
  v4 := Tryd.zeroValue4
  t5 := Tryd.underlying5
  a5 := Tryd.isAgg5
  z5 := Tryd.sizeOf5
  v5 := Tryd.zeroValue5
  t9 := Tryd.underlying9
  a9 := Tryd.isAgg9
  z9 := Tryd.sizeOf9
  v9 := Tryd.zeroValue9
  t20 := Tryd.underlying20
  a20 := Tryd.isAgg20
  z20 := Tryd.sizeOf20
  v20 := Tryd.zeroValue20
  t37 := Tryd.underlying63
  a37 := Tryd.isAgg63
  z37 := Tryd.sizeOf63
  v37 := Tryd.zeroValue63
  t46 := Tryd.underlying67
  a46 := Tryd.isAgg67
  z46 := Tryd.sizeOf67
  v46 := Tryd.zeroValue67
  t51 := Tryd.underlying82
  a51 := Tryd.isAgg82
  z51 := Tryd.sizeOf82
  v51 := Tryd.zeroValue82
  t53 := Tryd.underlying85
  a53 := Tryd.isAgg85
  z53 := Tryd.sizeOf85
  v53 := Tryd.zeroValue85
  t70 := Tryd.underlying70
  a70 := Tryd.isAgg70
  z70 := Tryd.sizeOf70
  v70 := Tryd.zeroValue70
  t72 := Tryd.underlying72
  a72 := Tryd.isAgg72
  z72 := Tryd.sizeOf72
  v72 := Tryd.zeroValue72
  t75 := Tryd.underlying75
  a75 := Tryd.isAgg75
  z75 := Tryd.sizeOf75
  v75 := Tryd.zeroValue75
  t76 := Tryd.underlying76
  a76 := Tryd.isAgg76
  z76 := Tryd.sizeOf76
  v76 := Tryd.zeroValue76
  t109 := Tryd.underlying68
  a109 := Tryd.isAgg68
  z109 := Tryd.sizeOf68
  v109 := Tryd.zeroValue68
  t127 := Tryd.underlying88
  a127 := Tryd.isAgg88
  z127 := Tryd.sizeOf88
  v127 := Tryd.zeroValue88
  t146 := Tryd.underlying83
  a146 := Tryd.isAgg83
  z146 := Tryd.sizeOf83
  v146 := Tryd.zeroValue83
  t148 := Tryd.underlying86
  a148 := Tryd.isAgg86
  z148 := Tryd.sizeOf86
  v148 := Tryd.zeroValue86
  t164 := Tryd.underlying95
  a164 := Tryd.isAgg95
  z164 := Tryd.sizeOf95
  v164 := Tryd.zeroValue95 }
theorem Tryd.builder105 : Builder.Extra Tryd.prog Tryd.lays105_ren := {
  sizeBuilder := by kernel_rfl
  liesBuilder := by kernel_rfl
  t5 := Tryd.underlying5
  a5 := Tryd.isAgg5
  z5 := Tryd.sizeOf5
  v5 := Tryd.zeroValue5
  infoByte := by kernel_rfl
  cellsByte := by kernel_rfl
  sizeByte := by kernel_rfl
  neB5 := by decide }
end Go.Proofs
namespace Go.Proofs.YtpcagheghmbjfaaDoor
open Go.RowKit

theorem itoa_any (n : Int) (h0 : -9223372036854775808 ≤ n) (h1 : n ≤ 9223372036854775807) (w : World) (htab : Lib.TabIs Tryd.prog w "internal/strconv.uint64pow10" .u64 Lib.pow10Tab) :
    Calls Tryd.prog 70 #[.int .i64 n] w fun e w' => e = .returned (.string ⟨(Lib.itoa n).toArray⟩) ∧ Below w.heap.size w w' := by
  have h := Any.strconv_Itoa Tryd.laysM171 n h0 h1 w htab
  refine Calls.mono (show Calls Tryd.prog 70 #[.int .i64 n] w _ from h) ?_
  rintro e w' ⟨he, k, os, rfl⟩
  exact ⟨he, Lib.below_grow _ _ (Nat.le_refl _) k os⟩
set_option maxHeartbeats 2000000 in
set_option maxRecDepth 100000 in
theorem pFormat_any (n : Int) (h0 : -9223372036854775808 ≤ n) (h1 : n ≤ 9223372036854775807) (w : World) (htab : Lib.TabIs Tryd.prog w "internal/strconv.uint64pow10" .u64 Lib.pow10Tab) :
    Calls Tryd.prog 59 #[.int .i64 n] w fun e w' => e = .returned (.string ⟨(Lib.itoa n).toArray⟩) ∧ Below w.heap.size w w' := by
  have h := itoa_any n h0 h1 w htab
  obtain ⟨T, HT⟩ : ∃ v, Hid (Lib.itoa n = v) := ⟨_, rfl⟩
  rw [HT.out] at h ⊢
  clear htab
  go_enter Tryd.func59, Tryd.ntmps59
  go_wp2_with (first | (go_at_call 70; (with_reducible refine h.mono ?_); rintro e w1 ⟨rfl, g1⟩) | fail)
  go_ret
  exact ⟨rfl, g1⟩
set_option maxHeartbeats 2000000 in
set_option maxRecDepth 100000 in
theorem rFormat_any (n : Int) (h0 : -9223372036854775808 ≤ n) (h1 : n ≤ 9223372036854775807) (w : World) (htab : Lib.TabIs Tryd.prog w "internal/strconv.uint64pow10" .u64 Lib.pow10Tab) :
    Calls Tryd.prog 61 #[.int .i64 n] w fun e w' => e = .returned (.string ⟨(Lib.itoa n).toArray⟩) ∧ Below w.heap.size w w' := by
  have h := itoa_any n h0 h1 w htab
  obtain ⟨T, HT⟩ : ∃ v, Hid (Lib.itoa n = v) := ⟨_, rfl⟩
  rw [HT.out] at h ⊢
  clear htab
  go_enter Tryd.func61, Tryd.ntmps61
  go_wp2_with (first | (go_at_call 70; (with_reducible refine h.mono ?_); rintro e w1 ⟨rfl, g1⟩) | fail)
  go_ret
  exact ⟨rfl, g1⟩
theorem dgn {d : Nat} (h : d < 10) : (UInt8.ofNat (48 + d)).toNat = 48 + d := by
  simp [UInt8.toNat_ofNat]; omega
theorem dec_small {u : Nat} (h : u < 10) : Lib.decDigits u = [UInt8.ofNat (48 + u)] := by rw [Lib.decDigits, dif_pos h]
theorem dec_big {u : Nat} (h : ¬ u < 10) : Lib.decDigits u = Lib.decDigits (u / 10) ++ [UInt8.ofNat (48 + u % 10)] := by rw [Lib.decDigits, dif_neg h]
theorem dec_ok : ∀ u : Nat, 0 < (Lib.decDigits u).length ∧ (Lib.decDigits u).all dgOk = true ∧ decN (Lib.decDigits u) = u ∧ (0 < u → (bAt (Lib.decDigits u) 0).toNat ≠ 48) := by
  intro u
  induction u using Nat.strongRecOn with
  | ind u ih =>
    by_cases h : u < 10
    · rw [dec_small h]
      have h1 := dgn h
      refine ⟨by simp, ?_, ?_, ?_⟩
      · simp only [List.all_cons, List.all_nil, Bool.and_true, dgOk, h1]; simp; omega
      · show 10 * 0 + ((UInt8.ofNat (48 + u)).toNat - 48) = u
        rw [h1]; omega
      · intro h2
        show (UInt8.ofNat (48 + u)).toNat ≠ 48
        rw [h1]; omega
    · rw [dec_big h]
      obtain ⟨i1, i2, i3, i4⟩ := ih (u / 10) (by omega)
      have h1 := dgn (show u % 10 < 10 by omega)
      refine ⟨by simp, ?_, ?_, ?_⟩
      · rw [List.all_append, i2]
        simp only [List.all_cons, List.all_nil, Bool.and_true, dgOk, h1]; simp; omega
      · rw [decN_snoc, i3, h1]; omega
      · intro _
        have h2 : bAt (Lib.decDigits (u / 10) ++ [UInt8.ofNat (48 + u % 10)]) 0 = bAt (Lib.decDigits (u / 10)) 0 := by
          unfold bAt
          simp [List.getD, List.getElem?_append, i1]
        rw [h2]
        exact i4 (by omega)
theorem pow_le_dig : ∀ (k u : Nat), 0 < u → k < Lib.nDigits u → 10 ^ k ≤ u
  | 0, u, h0, _ => by simp; omega
  | k + 1, u, h0, hk => by
    by_cases h : u < 10
    · rw [Lib.nDigits_small h] at hk; omega
    · rw [Lib.nDigits_big h] at hk
      have := pow_le_dig k (u / 10) (by omega) (by omega)
      rw [Nat.pow_succ]; omega

theorem ccallT {w w1 w2 : World} (h : Below w.heap.size w w1) (h2 : Below w1.heap.size w1 w2) : Below w.heap.size w w2 := h.trans (h2.mono h.size)
def RetT (w : World) (l : List UInt8) (e : Ending) (w' : World) : Prop := e = .returned (.string ⟨l.toArray⟩) ∧ Below w.heap.size w w'
theorem repeat48 : ∀ c, Lib.repeatL [48] c = List.replicate c 48
  | 0 => rfl
  | c + 1 => by
    show [48] ++ Lib.repeatL [48] c = _
    rw [repeat48 c, List.replicate_succ]; rfl
theorem repeat0_any (c : Nat) (hc : c ≤ 1000000) (w : World) : Calls Tryd.prog 71 #[.string ⟨#[48]⟩, .int .i64 (c : Int)] w (RetT w (List.replicate c 48)) := by
  have h := Any.strings_Repeat Tryd.lays105 Tryd.builder105 ⟨#[48]⟩ c w (by omega) (by show 1 * c ≤ _; omega)
  refine Calls.mono (show Calls Tryd.prog 71 #[.string ⟨#[48]⟩, .int .i64 (c : Int)] w _ from h) ?_
  rintro e w' ⟨he, hb⟩
  refine ⟨?_, hb⟩
  rw [he, ← repeat48]
def strLen : Value → Nat
  | .string b => b.size
  | _ => 0
def PowT (w : World) : Prop := Lib.TabIs Tryd.prog w "internal/strconv.uint64pow10" .u64 Lib.pow10Tab
theorem PowT.below {B : Nat} {w w' : World} (h : PowT w) (hb : Below B w w') (hB : w.heap.size ≤ B) : PowT w' :=
  Go.Joins.tab_stays (g := 2) (by kernel_rfl) h hb hB
def padN (u wd : Nat) : List UInt8 := List.replicate (wd - (Lib.decDigits u).length) 48 ++ Lib.decDigits u
theorem dig_le {u k : Nat} (h : u < 10 ^ k) (hk : 1 ≤ k) : (Lib.decDigits u).length ≤ k := by
  rw [Lib.decDigits_length]
  rcases Nat.lt_or_ge k (Lib.nDigits u) with h1 | h1
  · exfalso
    rcases Nat.eq_zero_or_pos u with h0 | h0
    · rw [h0, Lib.nDigits_small (by omega)] at h1; omega
    · have := pow_le_dig k u h0 h1
      omega
  · exact h1
theorem pad_len {u wd : Nat} (h : (Lib.decDigits u).length ≤ wd) : (padN u wd).length = wd := by
  unfold padN; rw [List.length_append, List.length_replicate]; omega
theorem pad_all (u wd : Nat) : (padN u wd).all dgOk = true := by
  unfold padN
  rw [List.all_append, (dec_ok u).2.1, Bool.and_true, List.all_eq_true]
  intro x hx
  rw [List.eq_of_mem_replicate hx]; rfl
theorem fold_zero : ∀ j : Nat, (List.replicate j (48 : UInt8)).foldl (fun v b => 10 * v + (b.toNat - 48)) 0 = 0
  | 0 => rfl
  | j + 1 => by rw [List.replicate_succ]; exact fold_zero j
theorem pad_dec (u wd : Nat) : decN (padN u wd) = u := by
  unfold padN decN
  rw [List.foldl_append, fold_zero]
  exact (dec_ok u).2.2.1

set_option maxHeartbeats 2000000 in
set_option maxRecDepth 100000 in
theorem padded_any (u wd : Nat) (h : (Lib.decDigits u).length ≤ wd) (hw : wd ≤ 1000) (hu : u ≤ 9223372036854775807) (w : World) (hP : PowT w) : Calls Tryd.prog 60 #[.int .i64 (u : Int), .int .i64 (wd : Int)] w (RetT w (padN u wd)) := by
  have hf := pFormat_any (u : Int) (by omega) (by omega) w hP
  rw [Lib.itoa_nonneg] at hf
  have hd : padN u wd = List.replicate (wd - (Lib.decDigits u).length) 48 ++ Lib.decDigits u := rfl
  have hsz := bsize (Lib.decDigits u)
  obtain ⟨P, HP⟩ : ∃ v, Hid (padN u wd = v) := ⟨_, rfl⟩
  rw [HP.out] at hd ⊢
  obtain ⟨D, HD⟩ : ∃ v, Hid (Lib.decDigits u = v) := ⟨_, rfl⟩
  rw [HD.out] at hf hd h hsz
  obtain ⟨L, HL⟩ : ∃ v, Hid (D.length = v) := ⟨_, rfl⟩
  rw [HL.out] at hd h hsz
  obtain ⟨k, Hk⟩ : ∃ v, Hid (wd - L = v) := ⟨_, rfl⟩
  rw [Hk.out] at hd
  have hrp := repeat0_any k (by have := Hk.out; omega)
  obtain ⟨Z, HZ⟩ : ∃ v, Hid (List.replicate k (48 : UInt8) = v) := ⟨_, rfl⟩
  rw [HZ.out] at hrp hd
  have hzl : Z.length ≤ 1000 := by rw [← HZ.out, List.length_replicate]; have := Hk.out; omega
  have hkk : (wd : Int) - (L : Int) = (k : Int) := by have := Hk.out; omega
  have ha := str_app Z D
  rw [← hd] at ha
  have hzs := bsize Z
  have b1 : ¬ 9223372036854775807 < Z.length + L := by omega
  clear hd hP
  go_enter Tryd.func60, Tryd.ntmps60
  go_wp2_with (first
    | (go_at_call 59; (with_reducible refine hf.mono ?_); rintro e w1 ⟨rfl, g1⟩)
    | (go_at_call 71; (with_reducible refine (hrp _).mono ?_); rintro e w2 ⟨rfl, g2⟩)
    | fail)
  go_ret
  exact ⟨rfl, ccallT g1 g2⟩
set_option maxHeartbeats 2000000 in
set_option maxRecDepth 100000 in
theorem rtwo_any (u wd : Nat) (hw : wd ≤ 1000) (hu : u ≤ 9223372036854775807) (w : World) (hP : PowT w) : Calls Tryd.prog 53 #[.int .i64 (u : Int), .int .i64 (wd : Int)] w (RetT w (padN u wd)) := by
  have hf := rFormat_any (u : Int) (by omega) (by omega) w hP
  have hlen := Lib.itoa_length_le (u : Int) (by omega) (by omega)
  rw [Lib.itoa_nonneg] at hf hlen
  have hd : padN u wd = List.replicate (wd - (Lib.decDigits u).length) 48 ++ Lib.decDigits u := rfl
  obtain ⟨P, HP⟩ : ∃ v, Hid (padN u wd = v) := ⟨_, rfl⟩
  rw [HP.out] at hd ⊢
  obtain ⟨D, HD⟩ : ∃ v, Hid (Lib.decDigits u = v) := ⟨_, rfl⟩
  rw [HD.out] at hf hd hlen
  obtain ⟨L, HL⟩ : ∃ v, Hid (D.length = v) := ⟨_, rfl⟩
  rw [HL.out] at hd hlen
  have HDD := Lib.hid hd
  clear hd hP
  go_enter Tryd.func53, Tryd.ntmps53
  go_wp2_with (first
    | (go_at_call 61; (with_reducible refine hf.mono ?_); rintro e w1 ⟨rfl, g1⟩)
    | fail)
  go_loop [5] (fun s => ∃ (j : Nat) (Z : List UInt8), j ≤ wd - L ∧ s = .string ⟨Z.toArray⟩ ∧ Hid (Z = List.replicate j 48 ++ D)) (fun s => wd - strLen s)
  case atStart => exact ⟨0, D, by omega, rfl, rfl⟩
  case round =>
    obtain ⟨j, Z, hj, rfl, hz⟩ := hrel
    have hzs := bsize Z
    have hzl : Z.length = j + L := by rw [hz.out, List.length_append, List.length_replicate, HL.out]
    rw [hzl] at hzs
    by_cases hlt : j + L < wd
    · have i1 : (j : Int) + (L : Int) < (wd : Int) := by omega
      have ha := str_app [48] Z
      have ha2 : (⟨#[48]⟩ : ByteArray) ++ ⟨Z.toArray⟩ = ⟨((48 :: Z : List UInt8)).toArray⟩ := ha
      have HN : Hid ((48 :: Z : List UInt8) = List.replicate (j + 1) 48 ++ D) := by unfold Hid; rw [hz.out, List.replicate_succ]; rfl
      have hN : (48 :: Z : List UInt8).length = j + 1 + L := by rw [List.length_cons, hzl]; omega
      obtain ⟨Y, HY⟩ : ∃ v, Hid ((48 :: Z : List UInt8) = v) := ⟨_, rfl⟩
      rw [HY.out] at ha2 HN hN
      have hys := bsize Y
      rw [hN] at hys
      clear ha
      go_wp2_with fail
      go_round
      case rel => exact ⟨j + 1, Y, by omega, rfl, HN⟩
      case measure => simp only [strLen, hys, hzs]; omega
    · obtain rfl : j = wd - L := by omega
      have HF : Hid (Z = P) := by unfold Hid; rw [hz.out, HDD.out]
      have i1 : ¬ ((wd - L : Nat) : Int) + (L : Int) < (wd : Int) := by omega
      go_wp2_with fail
      go_ret
      exact ⟨by rw [HF.out]; rfl, g1⟩
end Go.Proofs.YtpcagheghmbjfaaDoor

