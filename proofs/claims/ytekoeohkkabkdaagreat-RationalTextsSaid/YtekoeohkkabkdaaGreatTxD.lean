/-
  Texts of integers: digits times a factor, and a summand.
-/
import Derived.Test.YtekoeohkkabkdaaGreatTxC
import Derived.Test.YtekoeohkkabkdaaGreatLongB
set_option linter.unusedVariables false
set_option linter.unusedSimpArgs false
namespace Go.Proofs.YtekoeohkkabkdaaGreat
open Go.RowKit

/-- A row of digits with its room. -/
def RowC (w : World) (g cap : Nat) (xs : List Nat) : Prop := ∃ rest : List Value, w.heap[g]? = some (.cells (xs.map dcell ++ rest).toArray 74 (0, 0)) ∧ xs.length + rest.length = cap
theorem RowC.row {w : World} {g cap : Nat} {xs : List Nat} (h : RowC w g cap xs) : Row w g xs := by obtain ⟨rest, h, _⟩ := h; exact ⟨rest, h⟩
theorem RowC.le {w : World} {g cap : Nat} {xs : List Nat} (h : RowC w g cap xs) : xs.length ≤ cap := by obtain ⟨rest, _, h⟩ := h; omega
theorem RowC.set {w : World} {g cap : Nat} {xs : List Nat} (h : RowC w g cap xs) {i : Nat} (hi : i < xs.length) (v : Nat) : RowC (w.setCell ⟨g, i, none⟩ (.int .u32 (v : Nat))) g cap (xs.set i v) := by
  obtain ⟨rest, h, hl⟩ := h
  refine ⟨rest, ?_, by rw [List.length_set]; exact hl⟩
  have e : ((xs.set i v).map dcell ++ rest).toArray = ((xs.map dcell ++ rest).toArray).setIfInBounds i (dcell v) := by
    apply Array.ext'
    simp [List.map_set, List.set_append, hi]
  rw [e]
  simp [World.setCell, Array.getElem?_modify, h, dcell]
theorem RowC.own {w : World} {g cap B n : Nat} {xs : List Nat} (h : RowC w g cap xs) (hn : xs.length = n) (hB : B ≤ g) (hc : cap ≤ maxLen) : World.ownsRow w B 74 1 (.slice (some ⟨g, 0, none⟩) n cap) n (dcells xs) := by
  obtain ⟨rest, h, hl⟩ := h
  refine ⟨by rw [dcells_length]; omega, .inr ⟨g, cap, _, rfl, hB, h, by omega, hc, by simp; omega, ?_⟩⟩
  simp
  rw [List.take_append_of_le_length (by simp; omega), List.take_of_length_le (by simp; omega)]
  rfl
theorem RowC.of_own {w : World} {g cap B n : Nat} {xs : List Nat} (h : World.ownsRow w B 74 1 (.slice (some ⟨g, 0, none⟩) n cap) n (dcells xs)) : RowC w g cap xs ∧ B ≤ g ∧ xs.length = n ∧ cap ≤ maxLen := by
  have h1 := h.1
  rw [dcells_length] at h1
  rcases h.2 with ⟨hv, _⟩ | ⟨g', cap', cur, hv, hb, hh, hnc, hcm, hsz, ht⟩
  · cases hv
  · injection hv with e1 e2 e3
    injection e1 with e1
    injection e1 with e1
    subst e1
    subst e3
    refine ⟨⟨cur.toList.drop (n * 1), ?_, ?_⟩, hb, by omega, hcm⟩
    · have e : (xs.map dcell) = dcells xs := rfl
      rw [e, ← ht, List.take_append_drop]
      exact hh
    · have e4 : cur.toList.length = cap * 1 := by rw [← hsz]; exact Array.length_toList
      rw [List.length_drop, e4]; omega

/-- A row of its own is handed back: these digits, above B. -/
def RetMa (B : Nat) (w : World) (n : Nat) (V : Nat) (e : Ending) (w' : World) : Prop :=
  ∃ g m cap ds, e = .returned (.slice (some ⟨g, 0, none⟩) m cap) ∧ RowC w' g cap ds ∧ ds.length = m ∧ m ≤ n + 1 ∧ Dig ds ∧ val ds = V ∧ B ≤ g ∧ cap ≤ maxLen ∧ Below B w w'

theorem RetMa.of_own {B n V m : Nat} {w w' : World} {ds : List Nat} {v : Value} (h : World.ownsRow w' B 74 1 v m (dcells ds)) (h0 : 0 < m) (hmn : m ≤ n + 1) (hd : Dig ds) (hv : val ds = V) (hb : Below B w w') : RetMa B w n V (.returned v) w' := by
  have h2 := h
  rcases h2.2 with ⟨_, e⟩ | ⟨g, cap, cur, rfl, _⟩
  · omega
  · obtain ⟨k1, k2, k3, k4⟩ := RowC.of_own h
    exact ⟨g, m, cap, ds, rfl, k1, k3, hmn, hd, hv, k2, k4, hb⟩
theorem drop_getD {ds : List Nat} {k : Nat} (h : k < ds.length) : ds.drop k = ds.getD k 0 :: ds.drop (k + 1) := by
  rw [List.drop_eq_getElem_cons h]; simp [List.getD, h]
theorem set_at (cs : List Nat) (d v : Nat) (r : List Nat) : (cs ++ d :: r).set cs.length v = cs ++ [v] ++ r := by simp

/-- k digits are done. -/
def MaI (w wr : World) (g cap k cy F S : Nat) (ds cs : List Nat) : Prop :=
  RowC wr g cap (cs ++ ds.drop k) ∧ cs.length = k ∧ Dig cs ∧ val cs + BB ^ k * cy = val (ds.take k) * F + S ∧ cy < 4294967296 ∧ Only g w wr
theorem ma_arith (p v c x F A S : Nat) (h : v + p * c = A * F + S) : (v + p * ((c + x * F) % BB)) + p * BB * ((c + x * F) / BB) = (A + p * x) * F + S := by
  have h1 : p * ((c + x * F) % BB) + p * BB * ((c + x * F) / BB) = p * (c + x * F) := by
    rw [Nat.mul_assoc, ← Nat.mul_add, Nat.mod_add_div]
  have h2 : p * (c + x * F) = p * c + p * (x * F) := Nat.mul_add _ _ _
  have h3 : (A + p * x) * F = A * F + p * (x * F) := by rw [Nat.add_mul, Nat.mul_assoc]
  omega
theorem MaI.step {w wr : World} {g cap k cy F S n x : Nat} {ds cs : List Nat} (h : MaI w wr g cap k cy F S ds cs) (hl : ds.length = n) (hk : k < n) (hx : x = ds.getD k 0) (hc : (cy + x * F) / 4294967296 < 4294967296) {v : Int} (hv : v = ((cy + x * F) % 4294967296 : Nat)) :
    MaI w (wr.setCell ⟨g, k, none⟩ (.int .u32 v)) g cap (k + 1) ((cy + x * F) / 4294967296) F S ds (cs ++ [(cy + x * F) % 4294967296]) := by
  obtain ⟨h1, h2, h3, h4, h5, h6⟩ := h
  subst hv hx
  refine ⟨?_, by simp [h2], h3.append (Dig.cons (by rw [BB_eq]; omega) Dig.nil), ?_, hc, h6.setCell _ _⟩
  · have := h1.set (i := k) (by simp; omega) ((cy + ds.getD k 0 * F) % 4294967296)
    have e : (cs ++ ds.drop k).set k ((cy + ds.getD k 0 * F) % 4294967296) = (cs ++ [(cy + ds.getD k 0 * F) % 4294967296]) ++ ds.drop (k + 1) := by
      have h7 := set_at cs (ds.getD k 0) ((cy + ds.getD k 0 * F) % 4294967296) (ds.drop (k + 1))
      rw [h2] at h7
      rw [drop_getD (by omega : k < ds.length)]
      exact h7
    rwa [e] at this
  · rw [val_snoc, h2, val_take_any, Nat.pow_succ, ← BB_eq]
    exact ma_arith _ _ _ _ _ _ _ h4

theorem cell_one_new (w : World) (a : Value) (t : TypeId) : ∀ j u, [a][j]? = some u → (w.alloc (.cells #[a] t)).cell? ((⟨w.heap.size, 0, none⟩ : Addr).add j) = some u := by
  intro j u hj
  have hh := Go.Deep.blk_alloc_new w (.cells #[a] t)
  match j, hj with
  | 0, hj => simp at hj; subst hj; simp [Addr.add]
  | (j + 1), hj => simp at hj

set_option maxHeartbeats 4000000 in
set_option maxRecDepth 100000 in
theorem mulAddSmall_any (g n cap F S B : Nat) (ds : List Nat) (w : World) (h : RowC w g cap ds) (hn : ds.length = n) (hd : Dig ds) (hF : F < 4294967296) (hS : S < 4294967296) (hs : n ≤ 1000000) (hB : B ≤ g) (hBw : B ≤ w.heap.size) (hm : cap ≤ maxLen) :
    Calls Tryz.prog 89 #[.slice (some ⟨g, 0, none⟩) n cap, .int .u32 F, .int .u32 S] w (RetMa B w n (val ds * F + S)) := by
  obtain ⟨i0, hi, hz0, hz1, hz2⟩ := info_parts u32_info
  have HL := Lib.hid hn
  have hcn := h.le
  rw [HL.out] at hcn
  have H0 : MaI w w g cap 0 S F S ds [] := ⟨by simpa using h, rfl, Dig.nil, by simp [val], hS, Only.refl _ _⟩
  obtain ⟨V, HV⟩ : ∃ V, Hid (V = val ds * F + S) := ⟨_, Lib.hid rfl⟩
  rw [← HV.out]
  go_enter Tryz.func89, Tryz.ntmps89
  go_upto_region 3 with fail
  go_loopg [7, 14] n (fun r cv iv wr => ∃ (k cy : Nat) (cs : List Nat), k + r = n ∧ iv = .int .i64 k ∧ cv = .int .u64 cy ∧ MaI w wr g cap k cy F S ds cs)
  case atStart => exact ⟨0, S, [], by omega, rfl, rfl, H0⟩
  case round =>
    clear H0
    obtain ⟨k, cy, cs, hk, rfl, rfl, HI⟩ := hrel
    by_cases hlt : k < n
    · have hx := HI.1.row.cell (j := k) (by have := HI.2.1; have := HL.out; simp; omega)
      have hxv : (cs ++ ds.drop k).getD k 0 = ds.getD k 0 := by
        have h2 := HI.2.1
        rw [drop_getD (by have := HL.out; omega : k < ds.length)]
        subst h2
        simp [List.getD]
      rw [hxv] at hx
      have hxl := hd.getD k
      rw [BB_eq] at hxl
      obtain ⟨x, HX⟩ : ∃ x, Hid (x = ds.getD k 0) := ⟨_, rfl⟩
      rw [← HX.out] at hx hxl
      have hfr := HI.1.row.frozen k
      have hcy := HI.2.2.2.2.1
      have hml := mul_le x F hxl hF
      obtain ⟨m, HM⟩ : ∃ m, Hid (m = x * F) := ⟨_, rfl⟩
      rw [← HM.out] at hml
      have hmm : (x : Int) * (F : Int) = (m : Int) := by rw [HM.out]; exact (Int.natCast_mul x F).symm
      have j0 : (0 : Int) ≤ (k : Int) := by omega
      have j1 : (k : Int) < (n : Int) := by omega
      have l5 : IntKind.u64.wrap ((x : Int) * (F : Int)) = (m : Int) := by rw [hmm]; exact IntWalk.u64_in _ (by omega)
      have l7 : IntKind.u64.wrap ((cy : Int) + (m : Int)) = ((cy + m : Nat) : Int) := by rw [IntWalk.u64_in _ (by omega)]; omega
      have HI2 := Lib.hid HI
      clear HI hxv
      go_wp2_with fail
      go_roundg (gk - 1)
      case rel =>
        refine ⟨k + 1, (cy + m) / 4294967296, cs ++ [(cy + m) % 4294967296], by omega, by go_num, by go_num, ?_⟩
        have := HI2.out.step HL.out hlt HX.out (by rw [← HM.out]; omega) (v := ((cy : Int) + (m : Int)) % 4294967296) (by rw [← HM.out]; omega)
        rw [← HM.out] at this
        exact this
      case measure => omega
    · have hkn : k = n := by omega
      subst hkn
      obtain ⟨r1, r2, r3, r4, r5, r6⟩ := HI
      rw [List.drop_of_length_le (by rw [HL.out]; exact Nat.le_refl _), List.append_nil] at r1
      rw [List.take_of_length_le (by rw [HL.out]; exact Nat.le_refl _), ← HV.out] at r4
      have R1 := Lib.hid r1
      have R2 := Lib.hid r2
      have R3 := Lib.hid r3
      have R4 := Lib.hid r4
      have R6 := Lib.hid r6
      clear r1 r2 r3 r4 r6 hd h hn HL
      have j1 : ¬ (k : Int) < (k : Int) := by omega
      by_cases hc0 : cy = 0
      · subst hc0
        go_wp2_with fail
        go_ret
        exact ⟨g, k, cap, cs, rfl, R1.out, R2.out, by omega, R3.out, by have := R4.out; omega, hB, hm, R6.out.below hB⟩
      · have q1 : ((cy : Int) == 0) = false := by simp; omega
        have q2 : ¬ (cy : Int) = 0 := by omega
        have hown := R1.out.own R2.out hB hm
        have hnew := cell_one_new wr (.int .u32 (cy : Nat)) 74
        have hsz : B ≤ wr.heap.size := by rw [R6.out.size]; exact hBw
        have hlt2 := R1.out.row.lt
        have hdl := dcells_length cs
        have hcc : dcells cs ++ [.int .u32 (cy : Nat)] = dcells (cs ++ [cy]) := by unfold dcells; simp
        go_wp2_with (first
          | (at_builtin; refine wpList_append_own_at _ rfl _ _ 22 rfl B 74 i0 (.int .u32 0) 1 4 Tryz.underlying22 hi hz0 hz1 hz2 rfl (by omega) (.slice (some ⟨g, 0, none⟩) k cap) k (dcells cs) rfl (hown.alloc _) ⟨wr.heap.size, 0, none⟩ 1 1 [.int .u32 (cy : Nat)] rfl rfl hnew (by intro u hu; simp at hu; subst hu; rfl) (by unfold maxLen; omega) (by omega) (by simp; omega) ?_; intro v1 w1 hown1 hg1 hnn hat)
          | fail)
        go_ret
        rw [hcc] at hown1
        exact RetMa.of_own hown1 (by omega) (by omega) (R3.out.append (Dig.cons (by rw [BB_eq]; exact r5) Dig.nil)) (by rw [val_snoc, R2.out]; exact R4.out)
          (((R6.out.below hB).alloc (by omega) _).grown hg1 (by simp; omega) (fun j hj => by simp [Value.ownBlock] at hj; omega))
end Go.Proofs.YtekoeohkkabkdaaGreat

