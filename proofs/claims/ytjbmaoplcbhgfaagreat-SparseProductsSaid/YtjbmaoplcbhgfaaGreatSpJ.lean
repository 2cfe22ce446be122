/-
  The reference's AddScaled.
-/
import Derived.Test.YtjbmaoplcbhgfaaGreatRatN
import Derived.Deep.RegionHeld3
set_option linter.unusedVariables false
set_option linter.unusedSimpArgs false
namespace Go.Proofs.YtjbmaoplcbhgfaaGreat
open Go.RowKit

/-- A list of canonical fractions is returned, in a row of its own. -/
def RetFO (w : World) (vals : List (Int × Int)) (e : Ending) (w' : World) : Prop :=
  ∃ G C, e = .returned (.tuple #[.slice (some ⟨G, 0, none⟩) C.length C.length, .int .i64 0]) ∧ St w w' [(G, 28, flatF C)] [] ∧ (∀ e ∈ C, FE.C w' e) ∧ C.map FE.v = vals
theorem Vars.join {w : World} {B B' : Nat} {l' l : List (Nat × TypeId × List Value)} (h' : Vars w B' l') (h : Vars w B l) (hlt : ∀ p ∈ l, p.1 < B') (hB : B ≤ B') : Vars w B (l' ++ l) := by
  induction l' with
  | nil => exact h
  | cons q l' ih =>
    refine ⟨⟨h'.1.1, h'.1.2.1, Nat.le_trans hB h'.1.2.2.1, fun p hp => ?_⟩, ih h'.2⟩
    rcases List.mem_append.1 hp with hp | hp
    · exact h'.1.2.2.2 p hp
    · have h1 := hlt p hp
      have h2 := h'.1.2.2.1
      omega
theorem St.join {w0 w1 w : World} {l l' : List (Nat × TypeId × List Value)} {k : List (Bool × Option Addr × Nat × Nat × Int × Bool)} (h : St w0 w1 l k) (h' : St w1 w l' []) : St w0 w (l' ++ l) k :=
  ⟨h'.1.join (h.call h'.2.2).1 h.1.lt h.2.2.size, (h.call h'.2.2).2.1, bcall h.2.2 h'.2.2⟩
theorem range_set {α : Type} (N : Nat) (f g : Nat → α) (i : Nat) (h : ∀ j, j ≠ i → f j = g j) : ((List.range N).map f).set i (g i) = (List.range N).map g := by
  apply List.ext_getElem?
  intro j
  rw [List.getElem?_set]
  simp only [List.length_map, List.length_range]
  by_cases hj : i = j
  · subst hj
    rw [if_pos rfl]
    by_cases hlt : i < N
    · rw [if_pos hlt, List.getElem?_map, List.getElem?_range hlt]; rfl
    · rw [if_neg hlt, List.getElem?_eq_none (by simp; omega)]
  · rw [if_neg hj, List.getElem?_map, List.getElem?_map]
    by_cases hlt : j < N
    · rw [List.getElem?_range hlt]
      simp only [Option.map_some]
      rw [h j (fun e => hj e.symm)]
    · rw [List.getElem?_eq_none (by simp; omega)]; rfl

set_option maxHeartbeats 8000000 in
set_option maxRecDepth 100000 in
theorem rtoDenseO_at {w : World} {A : Option Addr} {c : Nat} {l : List VE} {n : Int} (hF : VL w A l) (hS : ∀ x ∈ l, FE.S 1900 x.e) (hl : l.length ≤ 1000000) (hn1 : -9223372036854775808 ≤ n) (hn2 : n ≤ 9223372036854775807) (hok : valid l n = 0) :
    Calls Tryz.prog 34 #[.slice A l.length c, .int .i64 n] w (RetFO w (dnV l n.toNat)) := by
  have hv := rvalid_at (w := w) (A := A) (c := c) (l := l) (n := n) hF hS hl hn1 hn2
  rw [hok] at hv
  obtain ⟨h0, h4096, hr⟩ := valid_zero hok
  have HR := Lib.hid hr
  clear hok hr
  obtain ⟨N, rfl⟩ : ∃ N : Nat, n = N := ⟨n.toNat, by omega⟩
  rw [Int.toNat_natCast]
  have HF := Lib.hid hF
  have HSS := Lib.hid hS
  clear hF hS
  obtain ⟨L, HL⟩ : ∃ v, Hid (l.length = v) := ⟨_, rfl⟩
  rw [HL.out] at hl hv
  rw [HL.out]
  go_enter Tryz.func34, Tryz.ntmps34
  go_upto_region 6 with (first
    | (go_at_call 26; (with_reducible refine hv.mono ?_); rintro e w1 ⟨rfl, g1⟩; have hmk := make_n w1 N (by omega); have K0 : St w (w1.alloc (.cells (flatF (List.replicate N zeroFE)).toArray 28)) [(w1.heap.size, 28, flatF (List.replicate N zeroFE))] [] := ((St.start w).call g1).new 28 (flatF_plain _))
    | fail)
  clear hmk hv
  generalize w1.alloc (.cells (flatF (List.replicate N zeroFE)).toArray 28) = W1 at K0 ⊢
  generalize w1.heap.size = G at K0 ⊢
  clear g1
  obtain ⟨D, HD⟩ : ∃ v, Hid (List.replicate N zeroFE = v) := ⟨_, rfl⟩
  have HP : Hid (D.length = N) := by unfold Hid; rw [← HD.out, List.length_replicate]
  rw [HD.out] at K0
  go_loopg [8] N (fun r q wr => ∃ (k : Nat) (C : List FE), k + r = N ∧ q = .int .i64 k ∧ C.length = k ∧ St w wr [(G, 28, flatF (C ++ D.drop k))] [] ∧ (∀ e ∈ C, FE.C wr e) ∧ C.map FE.v = dnV l k)
  case atStart => exact ⟨0, [], by omega, rfl, rfl, K0, fun e he => (by cases he), rfl⟩
  case round =>
    obtain ⟨k, C, hk, rfl, hC, K, hCC, hM⟩ := hrel
    by_cases hlt : k < N
    · obtain ⟨f, hf⟩ : ∃ f, D[k]? = some f := ⟨D[k]'(by rw [HP.out]; exact hlt), List.getElem?_eq_getElem _⟩
      have hget := (get_snoc C D k hC).trans hf
      have hset := fun e => set_snoc C D k e hC (by rw [HP.out]; exact hlt)
      have hdn := dnV_succ l k
      have hlenD : (C ++ D.drop k).length = N := by rw [List.length_append, List.length_drop, HP.out]; omega
      obtain ⟨x, HX⟩ : ∃ v, Hid ((atV l (k : Int)).1 = v) := ⟨_, rfl⟩
      obtain ⟨y, HY⟩ : ∃ v, Hid ((atV l (k : Int)).2 = v) := ⟨_, rfl⟩
      have hxy : atV l (k : Int) = (x, y) := by rw [← HX.out, ← HY.out]
      rw [hxy] at hdn
      have HDN := Lib.hid hdn
      have HM := Lib.hid hM
      have HCL := Lib.hid hC
      have HSET := Lib.hid hset
      have HXY := Lib.hid hxy
      have j0 : (0 : Int) ≤ (k : Int) := by omega
      have j1 : (k : Int) < (N : Int) := by omega
      have HK := Lib.hid hk
      have HLT := Lib.hid hlt
      clear hk hdn hM hset hC hxy
      have hGlt : G < wr.heap.size := K.lt (i := 0) rfl
      have I0 := HF.out.call K.below
      have hat := rat_at (c := c) (i := (k : Int)) I0 HSS.out (by rw [HL.out]; exact hl)
      rw [HL.out, HX.out, HY.out] at hat
      have HGET := Lib.hid hget
      clear I0 hget hf
      go_wp2_with (first
        | (go_at_call 29; (with_reducible refine hat.mono ?_); rintro ee w3 ⟨D1, o1, r1, D2, o2, r2, rfl, e1, e2, g3⟩; have K3 := K.call g3; have hC3 := fun e he => (hCC e he).call g3; have fz := fun j => (K3.1.get (i := 0) rfl).1.frozen j; have z0 := fz (k * 4); have z1 := fz (k * 4 + 1); have z2 := fz (k * 4 + 2); have z3 := fz (k * 4 + 3); have dd := flatF_in (K3.1.get (i := 0) rfl).1 k _ HGET.out; simp only [Nat.zero_add] at dd; obtain ⟨d0, d1, d2, d3⟩ := dd)
        | fail)
      have own3 := (K3.1.get (i := 0) rfl).1
      have K4 := K3.putF k (by rw [hlenD]; exact HLT.out) ⟨decide (x < 0), D1, o1, r1, decide (y < 0), D2, o2, r2, x, y⟩
      rw [HSET.out] at K4
      have hC4 : ∀ e ∈ C ++ [(⟨decide (x < 0), D1, o1, r1, decide (y < 0), D2, o2, r2, x, y⟩ : FE)], FE.C _ e := fun e he => by
        have h0 : FE.C w3 e := by
          rcases List.mem_append.1 he with he | he
          · exact hC3 e he
          · rw [List.mem_singleton.1 he]; exact ⟨e1, e2⟩
        exact h0.putF own3 (flatF_plain _) k ⟨decide (x < 0), D1, o1, r1, decide (y < 0), D2, o2, r2, x, y⟩
      simp only at K4 hC4
      go_roundg (gk - 1)
      case rel => exact ⟨k + 1, _, by have := HK.out; have := HLT.out; omega, by go_num, by rw [List.length_append, HCL.out]; rfl, K4, hC4, by rw [HDN.out, ← HM.out, List.map_append]; rfl⟩
      case measure => have := HK.out; have := HLT.out; omega
    · obtain rfl : k = N := by omega
      have hnil : D.drop k = [] := List.drop_eq_nil_of_le (by rw [HP.out]; exact Nat.le_refl _)
      rw [hnil, List.append_nil] at K
      have j1 : ¬ (k : Int) < (k : Int) := by omega
      have own := (K.1.get (i := 0) rfl).1
      have hFC := FC.of_own own hCC
      have hB := K.below
      go_wp2_with fail
      go_ret2
      exact ⟨G, C, by rw [hC]; rfl, K, hCC, hM⟩

set_option maxHeartbeats 32000000 in
set_option maxRecDepth 100000 in
theorem raddScaled_at {w : World} {A B : Option Addr} {c d : Nat} {l m : List VE} {n : Int} {ks kt : Bool} {kA kB : Option Addr} {kn kc km kd : Nat} {e f : Int} (hA : VL w A l) (hB : VL w B m) (hk1 : IntAt w ks kA kn kc e) (hk2 : IntAt w kt kB km kd f)
    (h1 : valid l n = 0) (h2 : valid m n = 0) (hSa : ∀ x ∈ l, FE.S 12 x.e) (hSb : ∀ x ∈ m, FE.S 12 x.e) (hN : ∀ x ∈ m, LtE x) (zk1 : Sz e 12) (zk2 : Sz f 12) (hkn : kn ≤ 12 ∧ km ≤ 12) (hl : l.length + m.length ≤ 60) :
    Calls Tryz.prog 12 #[.slice A l.length c, .slice B m.length d, .agg #[.bool ks, .slice kA kn kc, .bool kt, .slice kB km kd], .int .i64 n] w (RetV w ((addQ (qv e f) (l.length + m.length) (l.map VE.q) (m.map VE.q)).map nd) 0) := by
  obtain ⟨hn0, hn1, hr1⟩ := valid_zero h1
  obtain ⟨_, _, hr2⟩ := valid_zero h2
  have o1 := ok_q.1 hr1
  have o2 := ok_q.1 hr2
  have htd := fun w' (hb : Below w.heap.size w w') => rtoDenseO_at (w := w') (c := c) (n := n) (hA.call hb) (fun e he => (hSa e he).mono (by decide)) (by omega) (by omega) (by omega) h1
  have hv2 := fun w' (hb : Below w.heap.size w w') => rvalid_at (w := w') (c := d) (n := n) (hB.call hb) (fun e he => (hSb e he).mono (by decide)) (by omega) (by omega) (by omega)
  simp only [h2] at hv2
  obtain ⟨N, rfl⟩ : ∃ N : Nat, n = N := ⟨n.toNat, by omega⟩
  simp only [Int.toNat_natCast] at htd
  have hN4096 : N ≤ 4096 := by omega
  have HKEY : Hid (∀ x ∈ m, 0 ≤ x.k ∧ x.k < N) := fun x hx => by have := vrest_zero hr2 x hx; omega
  obtain ⟨QA, EA⟩ : ∃ q, q = l.map VE.q := ⟨_, rfl⟩
  obtain ⟨QB, EB⟩ : ∃ q, q = m.map VE.q := ⟨_, rfl⟩
  have lenA : QA.length = l.length := by rw [EA, List.length_map]
  have lenB : QB.length = m.length := by rw [EB, List.length_map]
  have qsa := ve_szq hSa (by decide)
  have qsb := ve_szq hSb (by decide)
  rw [← EA] at o1 qsa
  rw [← EB] at o2 qsb
  rw [← EA, ← EB]
  have qk : SzQ (qv e f) 14 := SzQ.of zk1 zk2 (by decide)
  have hat14 : ∀ (q : QV) (i : Int), (∀ y ∈ q, SzQ y.2 14) → SzQ (atQ q i) 14 := by
    intro q i
    induction q with
    | nil => intro _; exact ⟨Sz.zero _, (sz_i64 (x := 1) (by decide) (by decide)).mono (by decide)⟩
    | cons y q ih =>
      intro h
      unfold atQ
      split
      · exact h y (by simp)
      · exact ih fun z hz => h z (by simp [hz])
  -- the value at an index after the first ones of b
  obtain ⟨F, EF⟩ : ∃ F : Nat → Nat → Rat, F = fun (j i : Nat) => atQ QA (i : Int) + qv e f * atQ (QB.take j) (i : Int) := ⟨_, rfl⟩
  have HSF : Hid (∀ j i, SzQ (F j i) 47) := fun j i => by
    rw [EF]
    exact ((hat14 QA i qsa).add (qk.mul (hat14 (QB.take j) i (fun y hy => qsb y (List.mem_of_mem_take hy))) (by decide) (by decide)) (by decide) (by decide)).mono (by decide)
  have HF0 : Hid (dnV l N = (List.range N).map fun i => nd2 (F 0 i)) := by
    unfold Hid dnV
    refine List.map_congr_left fun i _ => ?_
    rw [atV_q, ← EA, EF]
    show _ = nd2 (atQ QA i + qv e f * 0)
    rw [show atQ QA i + qv e f * 0 = atQ QA i by grind]
    rfl
  have HFS : Hid (∀ (j : Nat) (x : VE) (i : Nat), m[j]? = some x → x.k = (i : Int) → F (j + 1) i = F j i + qv e f * qv x.e.a x.e.b ∧ ∀ i', i' ≠ i → F j i' = F (j + 1) i') := fun j x i hx hi => by
    have hq : QB[j]? = some (VE.q x) := by rw [EB, List.getElem?_map, hx]; rfl
    rw [EF]
    refine ⟨?_, fun i' hne => ?_⟩
    · show atQ QA i + qv e f * atQ (QB.take (j + 1)) i = atQ QA i + qv e f * atQ (QB.take j) i + qv e f * qv x.e.a x.e.b
      rw [atQ_take o2 hq, if_pos (show (VE.q x).1 = i from hi)]
      have h0 := atQ_take_new o2 hq
      rw [show (VE.q x).1 = (i : Int) from hi] at h0
      rw [h0]
      show _ = atQ QA i + qv e f * 0 + qv e f * (VE.q x).2
      grind
    · show atQ QA i' + qv e f * atQ (QB.take j) i' = atQ QA i' + qv e f * atQ (QB.take (j + 1)) i'
      rw [atQ_take o2 hq, if_neg (by show ¬ x.k = (i' : Int); omega)]
  have HFE : Hid (fdP 0 ((List.range N).map fun i => nd2 (F m.length i)) = (addQ (qv e f) (l.length + m.length) QA QB).map nd) := by
    unfold Hid
    rw [fdP_lQ, EF]
    have ht : QB.take m.length = QB := List.take_of_length_le (by rw [lenB]; exact Nat.le_refl _)
    simp only [ht]
    rw [dense_add o1 o2 (by rw [lenA, lenB]; exact Nat.le_refl _)]
  obtain ⟨V, HV⟩ : ∃ v, Hid ((addQ (qv e f) (l.length + m.length) QA QB).map nd = v) := ⟨_, rfl⟩
  simp only [HV.out] at HFE ⊢
  clear h1 h2 hr1 hr2 o1 o2 qsa qsb lenA lenB EA EB EF qk hat14 hSa
  have HG := Lib.hid hB
  have HSB := Lib.hid hSb
  have HNN := Lib.hid hN
  have ka9 : Sz e 900 := zk1.mono (by decide)
  have kb9 : Sz f 900 := zk2.mono (by decide)
  have H0 := (((St.start w).addI hk2).addI hk1).new 28 (Plains.four ks kA kn kc kt kB km kd)
  have HH := Lib.hid H0
  have HZ12 := Lib.hid (And.intro zk1 zk2)
  have HKN := Lib.hid hkn
  clear hA hB hSb hN H0 hk1 hk2 zk1 zk2 hkn HV
  obtain ⟨L, HL⟩ : ∃ v, Hid (l.length = v) := ⟨_, rfl⟩
  obtain ⟨M, HM⟩ : ∃ v, Hid (m.length = v) := ⟨_, rfl⟩
  have hM60 : M ≤ 60 := by rw [← HM.out]; omega
  simp only [HL.out, HM.out] at htd hv2 HFE ⊢
  clear hl
  go_enter Tryz.func12, Tryz.ntmps12
  go_upto_region 8 with (first
    | (go_at_call 34; (with_reducible refine (htd _ HH.out.below).mono ?_); clear htd; rintro e1 w1 ⟨G, C, rfl, KD, hC, hM⟩; have K1 := HH.out.join KD)
    | (go_at_call 26; (with_reducible refine (hv2 _ K1.below).mono ?_); clear hv2; rintro e2 w2 ⟨rfl, g2⟩; have K2 := K1.call g2; have hC2 := fun e he => (hC e he).call g2)
    | fail)
  have hlenC : C.length = N := by
    have := congrArg List.length hM
    rw [List.length_map, HF0.out, List.length_map, List.length_range] at this
    exact this
  rw [HF0.out] at hM
  rw [hlenC]
  clear HH KD K1 hC g2
  simp only [List.cons_append, List.nil_append] at K2
  have HLC := Lib.hid hlenC
  clear hlenC
  have HK2 := Lib.hid K2
  have HC2 := Lib.hid hC2
  clear K2 hC2
  go_loopg [13] M (fun r q wr => ∃ (k : Nat) (D : List FE), k + r = M ∧ q = .int .i64 k ∧ D.length = N ∧ St w wr [(G, 28, flatF D), vf w.heap.size ks kA kn kc kt kB km kd] [(ks, kA, kn, kc, e, false), (kt, kB, km, kd, f, false)] ∧ (∀ e ∈ D, FE.C wr e) ∧ D.map FE.v = (List.range N).map fun i => nd2 (F k i))
  case atStart => exact ⟨0, C, by omega, rfl, HLC.out, HK2.out, HC2.out, hM⟩
  case round =>
    clear HK2 HC2 hM HLC
    obtain ⟨k, D, hk, rfl, hD, K, hCC, hM⟩ := hrel
    have hsz : ∀ e ∈ D, FE.S 47 e := fun e he => by
      have h3 : FE.v e ∈ D.map FE.v := List.mem_map.2 ⟨e, he, rfl⟩
      rw [hM] at h3
      obtain ⟨i, _, hi⟩ := List.mem_map.1 h3
      have h4 := HSF.out k i
      unfold nd2 FE.v at hi
      simp only [Prod.mk.injEq] at hi
      unfold FE.S
      rw [← hi.1, ← hi.2]
      exact h4
    by_cases hlt : k < M
    · obtain ⟨z, hz⟩ : ∃ z, m[k]? = some z := ⟨m[k]'(by rw [HM.out]; exact hlt), List.getElem?_eq_getElem _⟩
      have hmem : z ∈ m := List.mem_of_getElem? hz
      obtain ⟨g, o, hAA, hg, hcell⟩ := HG.out.2 (by rw [HM.out]; omega)
      have hin := (hcell k z hz).call hg K.below
      have hkey := HKEY.out z hmem
      obtain ⟨i, hi⟩ : ∃ i : Nat, z.k = i := ⟨z.k.toNat, by omega⟩
      have hfs := HFS.out k z i hz hi
      have hfat := HG.out.1 z hmem
      have hsm := HSB.out z hmem
      have hn12 := HNN.out z hmem
      have hiN : i < N := by omega
      obtain ⟨b, hb⟩ : ∃ b, D[i]? = some b := ⟨D[i]'(by rw [hD]; exact hiN), List.getElem?_eq_getElem _⟩
      have hbv : FE.v b = nd2 (F k i) := by
        have h3 : (D.map FE.v)[i]? = ((List.range N).map fun i => nd2 (F k i))[i]? := by rw [hM]
        rw [List.getElem?_map, List.getElem?_map, hb, List.getElem?_range hiN] at h3
        simpa using h3
      have hbS := hsz b (List.mem_of_getElem? hb)
      have hbC := hCC b (List.mem_of_getElem? hb)
      obtain ⟨x, HX⟩ : ∃ v, Hid ((F k i).num = v) := ⟨_, rfl⟩
      obtain ⟨y, HY⟩ : ∃ v, Hid (((F k i).den : Int) = v) := ⟨_, rfl⟩
      obtain ⟨u, HU⟩ : ∃ v, Hid ((F (k + 1) i).num = v) := ⟨_, rfl⟩
      obtain ⟨v, HV⟩ : ∃ v, Hid (((F (k + 1) i).den : Int) = v) := ⟨_, rfl⟩
      obtain ⟨p, HP⟩ : ∃ v, Hid ((qv e f * qv z.e.a z.e.b).num = v) := ⟨_, rfl⟩
      obtain ⟨q, HQ⟩ : ∃ v, Hid (((qv e f * qv z.e.a z.e.b).den : Int) = v) := ⟨_, rfl⟩
      have HMUL : Hid (rn (e * z.e.a) (f * z.e.b) = p ∧ rd (e * z.e.a) (f * z.e.b) = q) := by unfold Hid; rw [← HP.out, ← HQ.out]; exact mul_q e f z.e.a z.e.b
      have HADD : Hid (aN x y p q = u ∧ aD x y p q = v) := by
        have := aN_q x y p q
        rw [show qv x y = F k i by rw [← HX.out, ← HY.out, qv_nd], show qv p q = qv e f * qv z.e.a z.e.b by rw [← HP.out, ← HQ.out, qv_nd], ← hfs.1] at this
        unfold Hid
        rw [← HU.out, ← HV.out]
        exact this
      have HNEW : Hid ((D.map FE.v).set i (u, v) = (List.range N).map fun i => nd2 (F (k + 1) i)) := by
        unfold Hid
        rw [hM, show (u, v) = nd2 (F (k + 1) i) by unfold nd2; rw [HU.out, HV.out]]
        exact range_set N (fun i => nd2 (F k i)) (fun i => nd2 (F (k + 1) i)) i fun j hj => by show nd2 _ = nd2 _; rw [hfs.2 j hj]
      obtain ⟨zk, s, P, pn, pc, s', P', qn, qc, a, bb⟩ := z
      obtain ⟨ck, c0, c1, c2, c3⟩ := hin
      simp only at hi
      subst hi
      simp only at ck c0 c1 c2 c3 HMUL
      obtain ⟨za, zb⟩ := hsm
      simp only at za zb
      have za9 : Sz a 900 := za.mono (by decide)
      have zb9 : Sz bb 900 := zb.mono (by decide)
      have HZM : Hid (Sz p 910 ∧ Sz q 910) := by
        unfold Hid
        rw [← HMUL.out.1, ← HMUL.out.2]
        exact ⟨(sz_rn (HZ12.out.1.mul za)).mono (by decide), (sz_rd (HZ12.out.2.mul zb) (by decide)).mono (by decide)⟩
      obtain ⟨bs, bA, bn, bc, bt, bB, bm, bd, bx, by_⟩ := b
      unfold FE.v nd2 at hbv
      simp only [Prod.mk.injEq] at hbv
      rw [HX.out, HY.out] at hbv
      obtain ⟨rfl, rfl⟩ := hbv
      have zx9 : Sz bx 910 := hbS.1.mono (by decide)
      have zy9 : Sz by_ 910 := hbS.2.mono (by decide)
      have HBC := Lib.hid hbC
      have HBB := Lib.hid hb
      have HFA := Lib.hid hfat
      have HHN := Lib.hid hn12
      have HCC := Lib.hid hCC
      have HLD := Lib.hid hD
      have HIN := Lib.hid hiN
      subst hAA
      have HK := Lib.hid hk
      have HLT := Lib.hid hlt
      have j0 : (0 : Int) ≤ (k : Int) := by omega
      have j1 : (k : Int) < (M : Int) := by omega
      have j2 : (0 : Int) ≤ (i : Int) := by omega
      have j3 : (i : Int) < (N : Int) := by omega
      have HG0 := Lib.hid hg
      have HNE : Hid (¬ G = g) := by have h9 := K.1.1.2.2.1; unfold Hid; omega
      have HNK : Hid (¬ G = w.heap.size) := (K.ne 0 1 rfl rfl (by decide)).1
      clear hk hfat hn12 hfs hkey hcell hz hmem hbS hbC hb hCC hD hM hsz
      go_upto_region 10 with fail
      have KD := K.drew
      have HGD := Lib.hid (show g < wr.drew.heap.size from Nat.lt_of_lt_of_le HG0.out K.below.size)
      obtain ⟨_, ⟨k0, k1, k2, k3⟩, _⟩ := K.facts
      have dd := flatF_in (K.1.get (i := 0) rfl).1 i _ HBB.out
      simp only [Nat.zero_add] at dd
      obtain ⟨p0, p1, p2, p3⟩ := dd
      clear K
      refine wp_region_held_drew (S := fun w' => w'.cell? ⟨g, o + k * 5, none⟩ = some (.int .i64 (i : Int)) ∧ w'.cell? ⟨g, o + k * 5 + 1, none⟩ = some (.bool s) ∧ w'.cell? ⟨g, o + k * 5 + 1 + 1, none⟩ = some (.slice P pn pc) ∧ w'.cell? ⟨g, o + k * 5 + 1 + 2, none⟩ = some (.bool s') ∧ w'.cell? ⟨g, o + k * 5 + 1 + 3, none⟩ = some (.slice P' qn qc) ∧ w'.cell? ⟨w.heap.size, 0, none⟩ = some (.bool ks) ∧ w'.cell? ⟨w.heap.size, 1, none⟩ = some (.slice kA kn kc) ∧ w'.cell? ⟨w.heap.size, 2, none⟩ = some (.bool kt) ∧ w'.cell? ⟨w.heap.size, 3, none⟩ = some (.slice kB km kd)) (by kernel_rfl) ?_ (fun hHeld0 => ?_)
      · ((try dsimp only); first | exact ⟨ck, c0, c1, c2, c3, k0, k1, k2, k3⟩ | go_keep | (trace_state; fail))
      refine wpAnyH_take (i := 0) (oi := ⟨some 37, _, _, _, _, _⟩) (v := ?_) rfl (by kernel_rfl) (by kernel_rfl) (by kernel_rfl) (fun _ _ _ h => h) (Or.inl ⟨by rfl, ?_⟩) (by assumption) ?_
      rotate_left
      · (intro w' hSw; (try dsimp only at hSw); go_simp; (try with_reducible rfl))
      (try simp only [Act.put, List.setIfInBounds_toArray, List.set_cons_zero, List.set_cons_succ])
      refine wpAnyH_take (i := 1) (oi := ⟨some 38, _, _, _, _, _⟩) (v := ?_) rfl (by kernel_rfl) (by kernel_rfl) (by kernel_rfl) (fun _ _ _ h => h) (Or.inl ⟨by rfl, ?_⟩) (by assumption) ?_
      rotate_left
      · (intro w' hSw; (try dsimp only at hSw); go_simp; (try with_reducible rfl))
      (try simp only [Act.put, List.setIfInBounds_toArray, List.set_cons_zero, List.set_cons_succ])
      refine wpAnyH_take (i := 2) (oi := ⟨some 39, _, _, _, _, _⟩) (v := ?_) rfl (by kernel_rfl) (by kernel_rfl) (by kernel_rfl) (fun _ _ _ h => h) (Or.inl ⟨by rfl, ?_⟩) (by assumption) ?_
      rotate_left
      · (intro w' hSw; (try dsimp only at hSw); go_simp; (try with_reducible rfl))
      (try simp only [Act.put, List.setIfInBounds_toArray, List.set_cons_zero, List.set_cons_succ])
      refine wpAnyH_take (i := 3) (oi := ⟨some 40, _, _, _, _, _⟩) (v := ?_) rfl (by kernel_rfl) (by kernel_rfl) (by kernel_rfl) (fun _ _ _ h => h) (Or.inl ⟨by rfl, ?_⟩) (by assumption) ?_
      rotate_left
      · (intro w' hSw; (try dsimp only at hSw); go_simp; (try with_reducible rfl))
      (try simp only [Act.put, List.setIfInBounds_toArray, List.set_cons_zero, List.set_cons_succ])
      refine wpAnyH_take (i := 4) (oi := ⟨some 41, _, _, _, _, _⟩) (v := ?_) rfl (by kernel_rfl) (by kernel_rfl) (by kernel_rfl) (fun _ _ _ h => h) (Or.inl ⟨by rfl, ?_⟩) (by assumption) ?_
      rotate_left
      · (intro w' hSw; (try dsimp only at hSw); go_simp; (try with_reducible rfl))
      (try simp only [Act.put, List.setIfInBounds_toArray, List.set_cons_zero, List.set_cons_succ])
      refine wpAnyH_take (i := 5) (oi := ⟨some 42, _, _, _, _, _⟩) (v := ?_) rfl (by kernel_rfl) (by kernel_rfl) (by kernel_rfl) (fun _ _ _ h => h) (Or.inl ⟨by rfl, ?_⟩) (by assumption) ?_
      rotate_left
      · (intro w' hSw; (try dsimp only at hSw); go_simp; (try with_reducible rfl))
      (try simp only [Act.put, List.setIfInBounds_toArray, List.set_cons_zero, List.set_cons_succ])
      refine wpAnyH_take (i := 6) (oi := ⟨some 43, _, _, _, _, _⟩) (v := ?_) rfl (by kernel_rfl) (by kernel_rfl) (by kernel_rfl) (fun _ _ _ h => h) (Or.inl ⟨by rfl, ?_⟩) (by assumption) ?_
      rotate_left
      · (intro w' hSw; (try dsimp only at hSw); go_simp; (try with_reducible rfl))
      (try simp only [Act.put, List.setIfInBounds_toArray, List.set_cons_zero, List.set_cons_succ])
      refine wpAnyH_take (i := 7) (oi := ⟨some 44, _, _, _, _, _⟩) (v := ?_) rfl (by kernel_rfl) (by kernel_rfl) (by kernel_rfl) (fun _ _ _ h => h) (Or.inl ⟨by rfl, ?_⟩) (by assumption) ?_
      rotate_left
      · (intro w' hSw; (try dsimp only at hSw); go_simp; (try with_reducible rfl))
      (try simp only [Act.put, List.setIfInBounds_toArray, List.set_cons_zero, List.set_cons_succ])
      refine wpAnyH_take (i := 8) (oi := ⟨some 45, _, _, _, _, _⟩) (v := ?_) rfl (by kernel_rfl) (by kernel_rfl) (by kernel_rfl) (fun _ _ _ h => h) (Or.inl ⟨by rfl, ?_⟩) (by assumption) ?_
      rotate_left
      · (intro w' hSw; (try dsimp only at hSw); go_simp; (try with_reducible rfl))
      (try simp only [Act.put, List.setIfInBounds_toArray, List.set_cons_zero, List.set_cons_succ])
      refine wpAnyH_take (i := 9) (oi := ⟨some 46, _, _, _, _, _⟩) (v := ?_) rfl (by kernel_rfl) (by kernel_rfl) (by kernel_rfl) (fun _ _ _ h => h) (Or.inl ⟨by rfl, ?_⟩) (by assumption) ?_
      rotate_left
      · (intro w' hSw; (try dsimp only at hSw); go_simp; (try with_reducible rfl))
      (try simp only [Act.put, List.setIfInBounds_toArray, List.set_cons_zero, List.set_cons_succ])
      refine wpAnyH_take (i := 10) (oi := ⟨some 47, _, _, _, _, _⟩) (v := ?_) rfl (by kernel_rfl) (by kernel_rfl) (by kernel_rfl) (fun _ _ _ h => h) (Or.inl ⟨by rfl, ?_⟩) (by assumption) ?_
      rotate_left
      · (intro w' hSw; (try dsimp only at hSw); go_simp; (try with_reducible rfl))
      (try simp only [Act.put, List.setIfInBounds_toArray, List.set_cons_zero, List.set_cons_succ])
      refine wpAnyH_take (i := 11) (oi := ⟨some 48, _, _, _, _, _⟩) (v := ?_) rfl (by kernel_rfl) (by kernel_rfl) (by kernel_rfl) (fun _ _ _ h => h) (Or.inl ⟨by rfl, ?_⟩) (by assumption) ?_
      rotate_left
      · (intro w' hSw; (try dsimp only at hSw); go_simp; (try with_reducible rfl))
      (try simp only [Act.put, List.setIfInBounds_toArray, List.set_cons_zero, List.set_cons_succ])
      refine wpAnyH_take (i := 12) (oi := ⟨some 49, _, _, _, _, _⟩) (v := ?_) rfl (by kernel_rfl) (by kernel_rfl) (by kernel_rfl) (fun _ _ _ h => h) (Or.inl ⟨by rfl, ?_⟩) (by assumption) ?_
      rotate_left
      · (intro w' hSw; (try dsimp only at hSw); go_simp; (try with_reducible rfl))
      (try simp only [Act.put, List.setIfInBounds_toArray, List.set_cons_zero, List.set_cons_succ])
      refine wpAnyH_take (i := 14) (oi := ⟨some 51, _, _, _, _, _⟩) (v := ?_) rfl (by kernel_rfl) (by kernel_rfl) (by kernel_rfl) (fun _ _ _ h => h) (Or.inl ⟨by rfl, ?_⟩) (by assumption) ?_
      rotate_left
      · (intro w' hSw; (try dsimp only at hSw); go_simp; (try with_reducible rfl))
      (try simp only [Act.put, List.setIfInBounds_toArray, List.set_cons_zero, List.set_cons_succ])
      refine wpAnyH_take (i := 15) (oi := ⟨some 52, _, _, _, _, _⟩) (v := ?_) rfl (by kernel_rfl) (by kernel_rfl) (by kernel_rfl) (fun _ _ _ h => h) (Or.inl ⟨by rfl, ?_⟩) (by assumption) ?_
      rotate_left
      · (intro w' hSw; (try dsimp only at hSw); go_simp; (try with_reducible rfl))
      (try simp only [Act.put, List.setIfInBounds_toArray, List.set_cons_zero, List.set_cons_succ])
      refine wpAnyH_take (i := 16) (oi := ⟨some 53, _, _, _, _, _⟩) (v := ?_) rfl (by kernel_rfl) (by kernel_rfl) (by kernel_rfl) (fun _ _ _ h => h) (Or.inl ⟨by rfl, ?_⟩) (by assumption) ?_
      rotate_left
      · (intro w' hSw; (try dsimp only at hSw); go_simp; (try with_reducible rfl))
      (try simp only [Act.put, List.setIfInBounds_toArray, List.set_cons_zero, List.set_cons_succ])
      refine wpAnyH_take (i := 17) (oi := ⟨some 54, _, _, _, _, _⟩) (v := ?_) rfl (by kernel_rfl) (by kernel_rfl) (by kernel_rfl) (fun _ _ _ h => h) (Or.inl ⟨by rfl, ?_⟩) (by assumption) ?_
      rotate_left
      · (intro w' hSw; (try dsimp only at hSw); go_simp; (try with_reducible rfl))
      (try simp only [Act.put, List.setIfInBounds_toArray, List.set_cons_zero, List.set_cons_succ])
      refine wpAnyH_take (i := 18) (oi := ⟨some 55, _, _, _, _, _⟩) (v := ?_) rfl (by kernel_rfl) (by kernel_rfl) (by kernel_rfl) (fun _ _ _ h => h) (Or.inl ⟨by rfl, ?_⟩) (by assumption) ?_
      rotate_left
      · (intro w' hSw; (try dsimp only at hSw); go_simp; (try with_reducible rfl))
      (try simp only [Act.put, List.setIfInBounds_toArray, List.set_cons_zero, List.set_cons_succ])
      refine wpAnyH_take (i := 19) (oi := ⟨some 56, _, _, _, _, _⟩) (v := ?_) rfl (by kernel_rfl) (by kernel_rfl) (by kernel_rfl) (fun _ _ _ h => h) (Or.inl ⟨by rfl, ?_⟩) (by assumption) ?_
      rotate_left
      · (intro w' hSw; (try dsimp only at hSw); go_simp; (try with_reducible rfl))
      (try simp only [Act.put, List.setIfInBounds_toArray, List.set_cons_zero, List.set_cons_succ])
      refine wpAnyH_ready (rs := [13, 20]) (by kernel_rfl) (by simp) ?_
      refine AllReadyH.cons (o := ⟨some 50, _, _, _, _, _⟩) rfl (fun K hK => ?_) ?_
      · skip
        go_simp
        refine hK.out _ _ ?_ (fun hHeld1 => ?_)
        · ((try dsimp only); first | exact ⟨ck, c0, c1, c2, c3, k0, k1, k2, k3⟩ | go_keep | (trace_state; fail))
        clear hK K hHeld0
        (try simp only [Act.put, List.setIfInBounds_toArray, List.set_cons_zero, List.set_cons_succ])
        refine wpAnyH_ready (rs := [20]) (by kernel_rfl) (by simp) ?_
        refine AllReadyH.cons (o := ⟨some 57, _, _, _, _, _⟩) rfl (fun K hK => ?_) AllReadyH.nil
        go_simp
        have a1 := KD.ints.1.i
        have a2 := KD.ints.2.1.i
        have a3 := HFA.out.1.call KD.below
        have a4 := HFA.out.2.call KD.below
        have l12 := HHN.out
        unfold LtE at l12
        simp only at a3 a4 l12
        (go_at_call 28; (with_reducible refine (rmulF_at a1 a2 a3 a4 ka9 kb9 za9 zb9 (by have := HKN.out; omega) (by have := HKN.out; omega) (by omega) (by omega)).mono ?_); rw [HMUL.out.1, HMUL.out.2]; rintro ee w5 ⟨D3, o3, r3, D4, o4, r4, rfl, i3, i4, g5⟩)
        (try go_wp2_with fail)
        have K5 := ((KD.call g5).add i4).add i3
        have HG5 := Lib.hid (Nat.lt_of_lt_of_le HGD.out g5.size)
        clear a1 a2 a3 a4 l12
        have eck := ((bcell g5).1 g _ HGD.out).trans ck
        have ec0 := ((bcell g5).1 g _ HGD.out).trans c0
        have ec1 := ((bcell g5).1 g _ HGD.out).trans c1
        have ec2 := ((bcell g5).1 g _ HGD.out).trans c2
        have ec3 := ((bcell g5).1 g _ HGD.out).trans c3
        obtain ⟨_, ⟨ek0, ek1, ek2, ek3⟩, _⟩ := K5.facts
        refine hK.out _ _ ?_ (fun hHeld2 => ?_)
        · ((try dsimp only); first | exact ⟨eck, ec0, ec1, ec2, ec3, ek0, ek1, ek2, ek3⟩ | go_keep | (trace_state; fail))
        clear hK K hHeld1
        (try simp only [Act.put, List.setIfInBounds_toArray, List.set_cons_zero, List.set_cons_succ])
        refine wpAnyH_ready (rs := [21]) (by kernel_rfl) (by simp) ?_
        refine AllReadyH.cons (o := ⟨some 58, _, _, _, _, _⟩) rfl (fun K hK => ?_) AllReadyH.nil
        go_simp
        have b1 := (K5.ints.1.c).at_ HZM.out.1.ok
        have b2 := (K5.ints.2.1.c).at_ HZM.out.2.ok
        have b3 := ((HBC.out.call (Below.refl _ wr).drew).call g5).1.at_ zx9.ok
        have b4 := ((HBC.out.call (Below.refl _ wr).drew).call g5).2.at_ zy9.ok
        (go_at_call 27; (with_reducible refine (raddF_at b3 b4 b1 b2 zx9 zy9 HZM.out.1 HZM.out.2).mono ?_); rw [HADD.out.1, HADD.out.2]; rintro ee w6 ⟨D5, o5, r5, D6, o6, r6, rfl, i5, i6, g6⟩)
        (try go_wp2_with fail)
        have K6 := K5.call g6
        clear b1 b2 b3 b4
        have fck := ((bcell g6).1 g _ HG5.out).trans eck
        have fc0 := ((bcell g6).1 g _ HG5.out).trans ec0
        have fc1 := ((bcell g6).1 g _ HG5.out).trans ec1
        have fc2 := ((bcell g6).1 g _ HG5.out).trans ec2
        have fc3 := ((bcell g6).1 g _ HG5.out).trans ec3
        obtain ⟨_, ⟨fk0, fk1, fk2, fk3⟩, _⟩ := K6.facts
        have dd := flatF_in (K6.1.get (i := 0) rfl).1 i _ HBB.out
        simp only [Nat.zero_add] at dd
        obtain ⟨v0, v1, v2, v3⟩ := dd
        have fz := fun j => (K6.1.get (i := 0) rfl).1.frozen j
        have z0 := fz (i * 4)
        have z1 := fz (i * 4 + 1)
        have z2 := fz (i * 4 + 2)
        have z3 := fz (i * 4 + 3)
        have ne1 : ¬ G = g := HNE.out
        have ne2 : ¬ g = G := fun h => HNE.out h.symm
        have ne3 : ¬ G = w.heap.size := HNK.out
        have ne4 : ¬ w.heap.size = G := fun h => HNK.out h.symm
        clear fz
        refine hK.out _ _ ?_ (fun hHeld3 => ?_)
        · ((try dsimp only); first | exact ⟨fck, fc0, fc1, fc2, fc3, fk0, fk1, fk2, fk3⟩ | go_keep | (trace_state; fail))
        clear hK K hHeld2
        (try simp only [Act.put, List.setIfInBounds_toArray, List.set_cons_zero, List.set_cons_succ])
        refine wpAnyH_take (i := 22) (oi := ⟨some 59, _, _, _, _, _⟩) (v := ?_) rfl (by kernel_rfl) (by kernel_rfl) (by kernel_rfl) (fun _ _ _ h => h) (Or.inl ⟨by rfl, ?_⟩) (by assumption) ?_
        rotate_left
        · (intro w' hSw; (try dsimp only at hSw); go_simp; (try with_reducible rfl))
        (try simp only [Act.put, List.setIfInBounds_toArray, List.set_cons_zero, List.set_cons_succ])
        refine wpAnyH_ready (rs := [23]) (by kernel_rfl) (by simp) ?_
        refine AllReadyH.cons (o := ⟨none, _, _, _, _, _⟩) rfl (fun K hK => ?_) AllReadyH.nil
        go_simp
        refine hK.out _ _ ?_ (fun hHeld4 => ?_)
        · ((try dsimp only); first | exact ⟨fck, fc0, fc1, fc2, fc3, fk0, fk1, fk2, fk3⟩ | go_keep | (trace_state; fail))
        clear hK K hHeld3
        (try simp only [Act.put, List.setIfInBounds_toArray, List.set_cons_zero, List.set_cons_succ])
        refine wpAnyH_done (by kernel_rfl) ?_ _
        have own6 := (K6.1.get (i := 0) rfl).1
        have K7 := K6.putF i (by rw [HLD.out]; exact HIN.out) ⟨decide (u < 0), D5, o5, r5, decide (v < 0), D6, o6, r6, u, v⟩
        have hC7 : ∀ e ∈ D.set i (⟨decide (u < 0), D5, o5, r5, decide (v < 0), D6, o6, r6, u, v⟩ : FE), FE.C _ e := fun e he => by
          have h0 : FE.C w6 e := by
            rcases List.mem_or_eq_of_mem_set he with he | rfl
            · exact (((HCC.out e he).call (Below.refl _ wr).drew).call g5).call g6
            · exact ⟨i5, i6⟩
          exact h0.putF own6 (flatF_plain _) i ⟨decide (u < 0), D5, o5, r5, decide (v < 0), D6, o6, r6, u, v⟩
        simp only at K7 hC7
        go_wp2_with fail
        go_roundg (gk - 1)
        case rel => exact ⟨k + 1, _, by have := HK.out; have := HLT.out; omega, by go_num, by rw [List.length_set]; exact HLD.out, K7.ints_ ⟨K7.ints.2.2.1, K7.ints.2.2.2.1, trivial⟩, hC7, by rw [List.map_set]; exact HNEW.out⟩
        case measure => have := HK.out; have := HLT.out; omega
      refine AllReadyH.cons (o := ⟨some 57, _, _, _, _, _⟩) rfl (fun K hK => ?_) AllReadyH.nil
      go_simp
      have a1 := KD.ints.1.i
      have a2 := KD.ints.2.1.i
      have a3 := HFA.out.1.call KD.below
      have a4 := HFA.out.2.call KD.below
      have l12 := HHN.out
      unfold LtE at l12
      simp only at a3 a4 l12
      (go_at_call 28; (with_reducible refine (rmulF_at a1 a2 a3 a4 ka9 kb9 za9 zb9 (by have := HKN.out; omega) (by have := HKN.out; omega) (by omega) (by omega)).mono ?_); rw [HMUL.out.1, HMUL.out.2]; rintro ee w5 ⟨D3, o3, r3, D4, o4, r4, rfl, i3, i4, g5⟩)
      (try go_wp2_with fail)
      have K5 := ((KD.call g5).add i4).add i3
      have HG5 := Lib.hid (Nat.lt_of_lt_of_le HGD.out g5.size)
      clear a1 a2 a3 a4 l12
      have eck := ((bcell g5).1 g _ HGD.out).trans ck
      have ec0 := ((bcell g5).1 g _ HGD.out).trans c0
      have ec1 := ((bcell g5).1 g _ HGD.out).trans c1
      have ec2 := ((bcell g5).1 g _ HGD.out).trans c2
      have ec3 := ((bcell g5).1 g _ HGD.out).trans c3
      obtain ⟨_, ⟨ek0, ek1, ek2, ek3⟩, _⟩ := K5.facts
      clear p0 p1 p2 p3
      have dd := flatF_in (K5.1.get (i := 0) rfl).1 i _ HBB.out
      simp only [Nat.zero_add] at dd
      obtain ⟨p0, p1, p2, p3⟩ := dd
      refine hK.out _ _ ?_ (fun hHeld1 => ?_)
      · ((try dsimp only); first | exact ⟨eck, ec0, ec1, ec2, ec3, ek0, ek1, ek2, ek3⟩ | go_keep | (trace_state; fail))
      clear hK K hHeld0
      (try simp only [Act.put, List.setIfInBounds_toArray, List.set_cons_zero, List.set_cons_succ])
      refine wpAnyH_ready (rs := [13]) (by kernel_rfl) (by simp) ?_
      refine AllReadyH.cons (o := ⟨some 50, _, _, _, _, _⟩) rfl (fun K hK => ?_) AllReadyH.nil
      go_simp
      refine hK.out _ _ ?_ (fun hHeld2 => ?_)
      · ((try dsimp only); first | exact ⟨eck, ec0, ec1, ec2, ec3, ek0, ek1, ek2, ek3⟩ | go_keep | (trace_state; fail))
      clear hK K hHeld1
      (try simp only [Act.put, List.setIfInBounds_toArray, List.set_cons_zero, List.set_cons_succ])
      refine wpAnyH_ready (rs := [21]) (by kernel_rfl) (by simp) ?_
      refine AllReadyH.cons (o := ⟨some 58, _, _, _, _, _⟩) rfl (fun K hK => ?_) AllReadyH.nil
      go_simp
      have b1 := (K5.ints.1.c).at_ HZM.out.1.ok
      have b2 := (K5.ints.2.1.c).at_ HZM.out.2.ok
      have b3 := ((HBC.out.call (Below.refl _ wr).drew).call g5).1.at_ zx9.ok
      have b4 := ((HBC.out.call (Below.refl _ wr).drew).call g5).2.at_ zy9.ok
      (go_at_call 27; (with_reducible refine (raddF_at b3 b4 b1 b2 zx9 zy9 HZM.out.1 HZM.out.2).mono ?_); rw [HADD.out.1, HADD.out.2]; rintro ee w6 ⟨D5, o5, r5, D6, o6, r6, rfl, i5, i6, g6⟩)
      (try go_wp2_with fail)
      have K6 := K5.call g6
      clear b1 b2 b3 b4
      have fck := ((bcell g6).1 g _ HG5.out).trans eck
      have fc0 := ((bcell g6).1 g _ HG5.out).trans ec0
      have fc1 := ((bcell g6).1 g _ HG5.out).trans ec1
      have fc2 := ((bcell g6).1 g _ HG5.out).trans ec2
      have fc3 := ((bcell g6).1 g _ HG5.out).trans ec3
      obtain ⟨_, ⟨fk0, fk1, fk2, fk3⟩, _⟩ := K6.facts
      have dd := flatF_in (K6.1.get (i := 0) rfl).1 i _ HBB.out
      simp only [Nat.zero_add] at dd
      obtain ⟨v0, v1, v2, v3⟩ := dd
      have fz := fun j => (K6.1.get (i := 0) rfl).1.frozen j
      have z0 := fz (i * 4)
      have z1 := fz (i * 4 + 1)
      have z2 := fz (i * 4 + 2)
      have z3 := fz (i * 4 + 3)
      have ne1 : ¬ G = g := HNE.out
      have ne2 : ¬ g = G := fun h => HNE.out h.symm
      have ne3 : ¬ G = w.heap.size := HNK.out
      have ne4 : ¬ w.heap.size = G := fun h => HNK.out h.symm
      clear fz
      refine hK.out _ _ ?_ (fun hHeld3 => ?_)
      · ((try dsimp only); first | exact ⟨fck, fc0, fc1, fc2, fc3, fk0, fk1, fk2, fk3⟩ | go_keep | (trace_state; fail))
      clear hK K hHeld2
      (try simp only [Act.put, List.setIfInBounds_toArray, List.set_cons_zero, List.set_cons_succ])
      refine wpAnyH_take (i := 22) (oi := ⟨some 59, _, _, _, _, _⟩) (v := ?_) rfl (by kernel_rfl) (by kernel_rfl) (by kernel_rfl) (fun _ _ _ h => h) (Or.inl ⟨by rfl, ?_⟩) (by assumption) ?_
      rotate_left
      · (intro w' hSw; (try dsimp only at hSw); go_simp; (try with_reducible rfl))
      (try simp only [Act.put, List.setIfInBounds_toArray, List.set_cons_zero, List.set_cons_succ])
      refine wpAnyH_ready (rs := [23]) (by kernel_rfl) (by simp) ?_
      refine AllReadyH.cons (o := ⟨none, _, _, _, _, _⟩) rfl (fun K hK => ?_) AllReadyH.nil
      go_simp
      refine hK.out _ _ ?_ (fun hHeld4 => ?_)
      · ((try dsimp only); first | exact ⟨fck, fc0, fc1, fc2, fc3, fk0, fk1, fk2, fk3⟩ | go_keep | (trace_state; fail))
      clear hK K hHeld3
      (try simp only [Act.put, List.setIfInBounds_toArray, List.set_cons_zero, List.set_cons_succ])
      refine wpAnyH_done (by kernel_rfl) ?_ _
      have own6 := (K6.1.get (i := 0) rfl).1
      have K7 := K6.putF i (by rw [HLD.out]; exact HIN.out) ⟨decide (u < 0), D5, o5, r5, decide (v < 0), D6, o6, r6, u, v⟩
      have hC7 : ∀ e ∈ D.set i (⟨decide (u < 0), D5, o5, r5, decide (v < 0), D6, o6, r6, u, v⟩ : FE), FE.C _ e := fun e he => by
        have h0 : FE.C w6 e := by
          rcases List.mem_or_eq_of_mem_set he with he | rfl
          · exact (((HCC.out e he).call (Below.refl _ wr).drew).call g5).call g6
          · exact ⟨i5, i6⟩
        exact h0.putF own6 (flatF_plain _) i ⟨decide (u < 0), D5, o5, r5, decide (v < 0), D6, o6, r6, u, v⟩
      simp only at K7 hC7
      go_wp2_with fail
      go_roundg (gk - 1)
      case rel => exact ⟨k + 1, _, by have := HK.out; have := HLT.out; omega, by go_num, by rw [List.length_set]; exact HLD.out, K7.ints_ ⟨K7.ints.2.2.1, K7.ints.2.2.2.1, trivial⟩, hC7, by rw [List.map_set]; exact HNEW.out⟩
      case measure => have := HK.out; have := HLT.out; omega
    · obtain rfl : k = M := by omega
      have j1 : ¬ (k : Int) < (k : Int) := by omega
      have hFC := FC.of_own (K.1.get (i := 0) rfl).1 hCC
      have hfd := rfromDense_at (w := wr) (c := N) (l := D) (hFC.fl hsz) (fun e he => (hsz e he).mono (by decide)) (by omega)
      rw [fdV_P, hM, HFE.out, hD] at hfd
      have HB := Lib.hid K.below
      clear hFC hM hsz hCC K
      go_wp2_with (first
        | (go_at_call 35; (with_reducible refine hfd.mono ?_); rintro e3 w3 ⟨A3, q3, l3, rfl, m3, v3, g3⟩)
        | fail)
      go_ret2
      exact ⟨A3, q3, l3, rfl, m3, v3, bcall HB.out g3⟩
end Go.Proofs.YtjbmaoplcbhgfaaGreat

