/-
  Texts of integers: the reference reads a decimal number.
-/
import Derived.Test.YtekoeohkkabkdaaGreatTxF
set_option linter.unusedVariables false
set_option linter.unusedSimpArgs false
namespace Go.Proofs.YtekoeohkkabkdaaGreat
open Go.RowKit

/-- Digits that grew by append: none, or a row of its own. -/
def OwnN (B : Nat) (w : World) (v : Value) (m : Nat) (ds : List Nat) : Prop :=
  (v = .slice none 0 0 ∧ m = 0 ∧ ds = []) ∨ ∃ g cap, v = .slice (some ⟨g, 0, none⟩) m cap ∧ RowC w g cap ds ∧ ds.length = m ∧ B ≤ g ∧ cap ≤ maxLen
theorem OwnN.of_own {B m : Nat} {w : World} {v : Value} {ds : List Nat} (h : World.ownsRow w B 74 1 v m (dcells ds)) (h0 : 0 < m) : OwnN B w v m ds := by
  rcases h.2 with ⟨_, e⟩ | ⟨g, cap, cur, rfl, _⟩
  · omega
  · obtain ⟨k1, k2, k3, k4⟩ := RowC.of_own h
    exact .inr ⟨g, cap, rfl, k1, k3, k2, k4⟩
/-- Digits of this value are handed back. -/
def RetV2 (w : World) (n V : Nat) (e : Ending) (w' : World) : Prop :=
  ∃ A m c ds, e = .returned (.slice A m c) ∧ Dgs w' w'.heap.size A m ds ∧ m ≤ c ∧ c ≤ maxLen ∧ m ≤ n ∧ val ds = V ∧ Below w.heap.size w w'
theorem OwnN.ret {w w' : World} {v : Value} {m n : Nat} {ds : List Nat} (h : OwnN w.heap.size w' v m ds) (hd : Dig ds) (hm : m ≤ n) (hb : Below w.heap.size w w') : RetV2 w n (val ds) (.returned v) w' := by
  rcases h with ⟨rfl, rfl, rfl⟩ | ⟨g, cap, rfl, k1, k2, k3, k4⟩
  · exact ⟨none, 0, 0, [], rfl, Dgs.none_, Nat.le_refl _, by unfold maxLen; omega, hm, rfl, hb⟩
  · have := k1.row.dgs hd
    rw [k2] at this
    exact ⟨_, m, cap, ds, rfl, this, by have := k1.le; omega, k4, hm, rfl, hb⟩

set_option maxHeartbeats 8000000 in
set_option maxRecDepth 100000 in
theorem rread_any (l : List UInt8) (hl : l.length ≤ 100000) (hD : allD l = true) (w : World) : Calls Tryz.prog 27 #[.string ⟨l.toArray⟩] w (RetV2 w 100000 (decV l)) := by
  obtain ⟨L, HL⟩ : ∃ v, Hid (l.length = v) := ⟨_, rfl⟩
  have hsz := str_size l
  rw [HL.out] at hl hsz
  obtain ⟨i0, hi, hz0, hz1, hz2⟩ := info_parts u32_info
  obtain ⟨V0, HV0⟩ : ∃ v, Hid (decV l = v) := ⟨_, rfl⟩
  rw [HV0.out]
  go_enter Tryz.func27, Tryz.ntmps27
  go_upto_region 3 with fail
  go_loopg [3, 4] L (fun r ov av wr => ∃ (k m : Nat) (ds : List Nat), k + r = L ∧ av = .int .i64 k ∧ OwnN w.heap.size wr ov m ds ∧ Dig ds ∧ m ≤ k ∧ val ds = decV (l.take k) ∧ Below w.heap.size w wr)
  case atStart => exact ⟨0, 0, [], by omega, rfl, .inl ⟨rfl, rfl, rfl⟩, Dig.nil, Nat.le_refl _, rfl, Below.refl _ _⟩
  case round =>
    obtain ⟨k, m, ds, hk, rfl, HO, hdg, hmk, hv, hb⟩ := hrel
    have HDG := Lib.hid hdg
    have HV := Lib.hid hv
    have HB := Lib.hid hb
    clear hdg hv hb
    by_cases hlt : k < L
    · have hgt := str_get (l := l) (k := k) (by rw [HL.out]; omega)
      have hcb := allD_at hD (k := k) (by rw [HL.out]; omega)
      have hts := Lib.hid (take_snocB (l := l) (k := k) (by rw [HL.out]; omega))
      obtain ⟨d, hd0⟩ : ∃ d, (byteAt l k).toNat = d + 48 := ⟨_, (Nat.sub_add_cancel hcb.1).symm⟩
      have HC := Lib.hid hd0
      rw [hd0] at hcb
      clear hd0
      have hd9 : d ≤ 9 := by omega
      clear hcb
      have hg2 : ∀ h, ((⟨l.toArray⟩ : ByteArray)[k]'h).toNat = d + 48 := fun h => by rw [hgt h]; exact HC.out
      clear hgt
      have hnew : Hid (decV (l.take (k + 1)) = 10 * decV (l.take k) + d) := by unfold Hid; rw [hts.out, decV_snoc, HC.out]; omega
      have j0 : (0 : Int) ≤ (k : Int) := by omega
      have j1 : (k : Int) < (L : Int) := by omega
      have hBw : w.heap.size ≤ wr.heap.size := HB.out.size
      rcases HO with ⟨rfl, rfl, rfl⟩ | ⟨g, cap, rfl, r1, r2, r3, r4⟩
      · go_upto_region 7 with fail
        go_loopw [5, 6] (fun cv iv wi => cv = .int .u64 d ∧ iv = .int .i64 0 ∧ wi = wr) (fun _ _ _ => 0)
        case atStart => exact ⟨by go_num, rfl, rfl⟩
        case round =>
          obtain ⟨rfl, rfl, rfl⟩ := hrel
          by_cases h0 : d = 0
          · subst h0
            go_wp2_with fail
            go_roundg (gk - 1)
            case rel => exact ⟨k + 1, 0, [], by omega, by go_num, .inl ⟨rfl, rfl, rfl⟩, Dig.nil, by omega, by rw [hnew.out, ← HV.out]; rfl, HB.out⟩
            case measure => omega
          · have q1 : (0 : Int) < (d : Int) := by omega
            have hnew1 := cell_one_new wr (.int .u32 (d : Nat)) 74
            go_wp2_with (first
              | (at_builtin; refine wpList_append_own_at _ rfl _ _ 22 rfl w.heap.size 74 i0 (.int .u32 0) 1 4 Tryz.underlying22 hi hz0 hz1 hz2 rfl (by omega) (.slice none 0 0) 0 [] rfl (World.ownsRow_nil _ _ _ _) ⟨wr.heap.size, 0, none⟩ 1 1 [.int .u32 (d : Nat)] rfl rfl hnew1 (by intro u hu; simp at hu; subst hu; rfl) (by unfold maxLen; omega) (by omega) (by simp; omega) ?_; intro v1 w1 hown1 hg1 hnn hat)
              | fail)
            go_roundg (gk - 1)
            case rel =>
              refine ⟨k + 1, 1, [d], by omega, by go_num, OwnN.of_own (ds := [d]) hown1 (by omega), Dig.cons (by rw [BB_eq]; omega) Dig.nil, by omega, ?_, ((HB.out.alloc (by omega) _).grown hg1 (by simp; omega) (fun j hj => by simp [Value.ownBlock] at hj))⟩
              rw [hnew.out, ← HV.out]; simp [val]
            case measure => omega
      · have R1 := Lib.hid r1
        have R2 := Lib.hid r2
        have hcn := r1.le
        rw [r2] at hcn
        have H0 : Hid (MaI wr wr g cap 0 d 10 d ds []) := ⟨by simpa using r1, rfl, Dig.nil, by simp [val], by omega, Only.refl _ _⟩
        clear r1 r2
        go_upto_region 7 with fail
        go_loopw [5, 6] (fun cv iv wi => ∃ (i cy : Nat) (cs : List Nat), i ≤ m ∧ iv = .int .i64 i ∧ cv = .int .u64 cy ∧ MaI wr wi g cap i cy 10 d ds cs) (fun _ iv _ => m - (intOf iv).toNat)
        case atStart => exact ⟨0, d, [], by omega, rfl, by go_num, H0.out⟩
        case round =>
          clear H0
          obtain ⟨i, cy, cs, him, rfl, rfl, HI⟩ := hrel
          by_cases hin : i < m
          · have hx := HI.1.row.cell (j := i) (by have := HI.2.1; have := R2.out; simp; omega)
            have hxv : (cs ++ ds.drop i).getD i 0 = ds.getD i 0 := by
              have h2 := HI.2.1
              rw [drop_getD (by have := R2.out; omega : i < ds.length)]
              subst h2
              simp [List.getD]
            rw [hxv] at hx
            have hxl := HDG.out.getD i
            rw [BB_eq] at hxl
            obtain ⟨x, HX⟩ : ∃ x, Hid (x = ds.getD i 0) := ⟨_, rfl⟩
            rw [← HX.out] at hx hxl
            have hfr := HI.1.row.frozen i
            have hcy := HI.2.2.2.2.1
            have j2 : (0 : Int) ≤ (i : Int) := by omega
            have j3 : (i : Int) < (m : Int) := by omega
            have HI2 := Lib.hid HI
            clear HI hxv
            go_wp2_with fail
            go_roundw
            case rel =>
              refine ⟨i + 1, (cy + x * 10) / 4294967296, cs ++ [(cy + x * 10) % 4294967296], by omega, by go_num, by go_num, ?_⟩
              exact HI2.out.step R2.out hin HX.out (by omega) (by omega)
            case measure => simp [intOf]; omega
          · have him2 : i = m := by omega
            subst him2
            obtain ⟨r1, r2, r3, r4, r5, r6⟩ := HI
            rw [List.drop_of_length_le (by rw [R2.out]; exact Nat.le_refl _), List.append_nil] at r1
            rw [List.take_of_length_le (by rw [R2.out]; exact Nat.le_refl _)] at r4
            have S1 := Lib.hid r1
            have S2 := Lib.hid r2
            have S3 := Lib.hid r3
            have S4 := Lib.hid r4
            have S6 := Lib.hid r6
            clear r1 r2 r4 r6
            have j2 : ¬ (i : Int) < (i : Int) := by omega
            have hBi : w.heap.size ≤ wr.heap.size := by rw [S6.out.size]; exact hBw
            by_cases hc0 : cy = 0
            · subst hc0
              go_wp2_with fail
              go_roundg (gk - 1)
              case rel =>
                refine ⟨k + 1, i, cs, by omega, by go_num, .inr ⟨g, cap, rfl, S1.out, S2.out, by assumption, by assumption⟩, S3.out, by omega, ?_, HB.out.trans (S6.out.below (by assumption))⟩
                rw [hnew.out, ← HV.out]; have := S4.out; omega
              case measure => omega
            · have q1 : (0 : Int) < (cy : Int) := by omega
              have hown := S1.out.own (B := w.heap.size) S2.out (by assumption) (by assumption)
              have hnew1 := cell_one_new wr (.int .u32 (cy : Nat)) 74
              have hcc : dcells cs ++ [.int .u32 (cy : Nat)] = dcells (cs ++ [cy]) := by unfold dcells; simp
              go_wp2_with (first
                | (at_builtin; refine wpList_append_own_at _ rfl _ _ 22 rfl w.heap.size 74 i0 (.int .u32 0) 1 4 Tryz.underlying22 hi hz0 hz1 hz2 rfl (by omega) (.slice (some ⟨g, 0, none⟩) i cap) i (dcells cs) rfl (hown.alloc _) ⟨wr.heap.size, 0, none⟩ 1 1 [.int .u32 (cy : Nat)] rfl rfl hnew1 (by intro u hu; simp at hu; subst hu; rfl) (by unfold maxLen; omega) (by omega) (by simp; omega) ?_; intro v1 w1 hown1 hg1 hnn hat)
                | fail)
              rw [hcc] at hown1
              go_roundg (gk - 1)
              case rel =>
                refine ⟨k + 1, i + 1, cs ++ [cy], by omega, by go_num, OwnN.of_own hown1 (by omega), S3.out.append (Dig.cons (by rw [BB_eq]; exact r5) Dig.nil), by omega, ?_, (((HB.out.trans (S6.out.below (by assumption))).alloc (by omega) _).grown hg1 (by simp; omega) (fun j hj => by simp [Value.ownBlock] at hj; omega))⟩
                rw [hnew.out, ← HV.out, val_snoc, S2.out]; have := S4.out; omega
              case measure => omega
    · have hkL : k = L := by omega
      subst hkL
      have ht : l.take k = l := List.take_of_length_le (by rw [HL.out]; exact Nat.le_refl _)
      have hfin : Hid (val ds = V0) := by unfold Hid; rw [HV.out, ht, HV0.out]
      have j1 : ¬ (k : Int) < (k : Int) := by omega
      have HO2 := Lib.hid HO
      clear HO ht
      go_wp2_with fail
      go_ret
      rw [← hfin.out]
      exact HO2.out.ret HDG.out (by omega) HB.out
end Go.Proofs.YtekoeohkkabkdaaGreat

