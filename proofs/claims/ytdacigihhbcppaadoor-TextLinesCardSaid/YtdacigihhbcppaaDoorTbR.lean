/-
  The reference's Lines, at every string of at most 30000 bytes.
-/
import Derived.Test.YtdacigihhbcppaaDoorTbQ
set_option linter.unusedVariables false
set_option linter.unusedSimpArgs false
namespace Go.Proofs.YtdacigihhbcppaaDoor
open Go.RowKit

theorem RetSE.of_owns {w w' : World} {v : Value} {ls : List (List UInt8)} {err : Int} (ho : w'.ownsRow w.heap.size 9 1 v ls.length (ls.map strV)) (hb : Below w.heap.size w w') : RetSE w ls err (.returned (.tuple #[v, .int .i64 err])) w' := by
  obtain ⟨a, c, rfl, h1, h2, h3, h4⟩ := SIn.of_owns ho
  refine ⟨a, _, c, rfl, h3, h1, h2, fun x hx => ?_, hb⟩
  subst hx
  obtain ⟨_, o, h5, _⟩ := ownsRow_block ho x.block rfl
  exact (Array.getElem?_eq_some_iff.1 h5).1
theorem RetSE.none {w : World} {err : Int} : RetSE w [] err (.returned (.tuple #[.slice none 0 0, .int .i64 err])) w :=
  RetSE.of_owns (World.ownsRow_nil _ _ _ _) (Below.refl _ _)
theorem lw_len : ∀ (r cur : List UInt8), (lw cur r).length ≤ r.length + 1
  | [], cur => by unfold lw one; split <;> simp
  | c :: r, cur => by
    unfold lw
    split
    · have := lw_len r []; simp only [List.length_cons]; omega
    · have := lw_len r (cur ++ [c]); simp only [List.length_cons]; omega
set_option maxHeartbeats 8000000 in
set_option maxRecDepth 100000 in
theorem rlines_any (l : List UInt8) (hl : l.length ≤ 30000) (w : World) : Calls Tryd.prog 12 #[.string ⟨l.toArray⟩] w (RetSE w (linesL l) (linesE l)) := by
  obtain ⟨i0, hi, hz0, hz1, hz2⟩ := info_parts str_info
  have hsz := bsize l
  have hE : linesE l = if 20000 < l.length then 10 else if l.all plOk = true then (if 1000 < (lp l).length then 10 else 0) else 1 := rfl
  have hLL : linesL l = if linesE l = 0 then (lp l).map trim else [] := rfl
  have hlw := lines_lw l
  have hlen : (lp l).length = ((lp l).map trim).length := by rw [List.length_map]
  obtain ⟨TT, HT⟩ : ∃ v, Hid ((lp l).map trim = v) := ⟨_, rfl⟩
  rw [HT.out] at hLL hlw hlen
  rw [hlen] at hE
  obtain ⟨E, HEE⟩ : ∃ v, Hid (linesE l = v) := ⟨_, rfl⟩
  rw [HEE.out] at hE hLL ⊢
  obtain ⟨LL, HLL⟩ : ∃ v, Hid (linesL l = v) := ⟨_, rfl⟩
  rw [HLL.out] at hLL ⊢
  obtain ⟨L, HL⟩ : ∃ v, Hid (l.length = v) := ⟨_, rfl⟩
  rw [HL.out] at hsz hE hl
  by_cases h2 : 20000 < L
  · have q1 : (20000 : Int) < (L : Int) := by omega
    rw [if_pos h2] at hE
    subst hE
    rw [if_neg (by decide)] at hLL
    subst hLL
    clear hlw hlen h2
    go_enter Tryd.func12, Tryd.ntmps12
    go_wp2_with fail
    go_ret2
    exact RetSE.none
  rw [if_neg h2] at hE
  have q1 : decide ((20000 : Int) < (L : Int)) = false := by simp; omega
  have HE := Lib.hid hE
  have HLX := Lib.hid hLL
  have HLW := Lib.hid hlw
  clear hE hLL hlw hlen
  go_enter Tryd.func12, Tryd.ntmps12
  go_wp2_with fail
  go_loop [4] (fun i => ∃ k : Nat, k ≤ L ∧ i = .int .i64 k ∧ Hid ((l.take k).all plOk = true)) (fun i => L - (intOf i).toNat)
  case atStart => exact ⟨0, by omega, rfl, by unfold Hid; simp⟩
  case round =>
    obtain ⟨k, hk, rfl, hall⟩ := hrel
    by_cases hlt : k < L
    · have hta := all_take plOk (l := l) (k := k) (by rw [HL.out]; exact hlt)
      have hbad := all_bad plOk (l := l) (k := k) (by rw [HL.out]; exact hlt)
      have hg := bget (l := l) (k := k) (by rw [HL.out]; exact hlt)
      obtain ⟨b, Hb⟩ : ∃ v, Hid (bAt l k = v) := ⟨_, rfl⟩
      rw [Hb.out] at hta hbad hg
      rw [show plOk b = (decide (b.toNat = 10) || decide (32 ≤ b.toNat ∧ b.toNat ≤ 126)) from rfl] at hta hbad
      obtain ⟨m, Hm⟩ : ∃ v, Hid (b.toNat = v) := ⟨_, rfl⟩
      rw [Hm.out] at hta hbad
      have hg2 : ∀ h, ((⟨l.toArray⟩ : ByteArray)[k]'h).toNat = m := fun h => by rw [hg h]; exact Hm.out
      have j0 : (0 : Int) ≤ (k : Int) := by omega
      have j1 : (k : Int) < (L : Int) := by omega
      have HTA := Lib.hid hta
      have HBAD := Lib.hid hbad
      clear hta hbad hg
      by_cases h10 : m = 10
      · have u1 : ((m : Int) != 10) = false := by simp; omega
        have HA : Hid ((l.take (k + 1)).all plOk = true) := by unfold Hid; rw [HTA.out, hall.out]; simp [h10]
        clear h10
        go_wp2_with fail
        go_round
        case rel => exact ⟨k + 1, by omega, by go_num, HA⟩
        case measure => simp [intOf]; omega
      have u1 : ((m : Int) != 10) = true := by simp; omega
      by_cases h32 : 32 ≤ m
      · have u2 : decide ((m : Int) < 32) = false := by simp; omega
        by_cases h126 : m ≤ 126
        · have u3 : decide ((126 : Int) < (m : Int)) = false := by simp; omega
          have HA : Hid ((l.take (k + 1)).all plOk = true) := by unfold Hid; rw [HTA.out, hall.out]; simp; omega
          clear h10
          go_wp2_with fail
          go_round
          case rel => exact ⟨k + 1, by omega, by go_num, HA⟩
          case measure => simp [intOf]; omega
        · have u3 : (126 : Int) < (m : Int) := by omega
          have hb0 := HBAD.out (by simp; omega)
          have hE := HE.out
          rw [if_neg (by rw [hb0]; decide)] at hE
          have hL := HLX.out
          rw [hE, if_neg (by decide)] at hL
          subst hE hL
          clear h10
          go_wp2_with fail
          go_ret2
          exact RetSE.none
      · have u2 : (m : Int) < 32 := by omega
        have hb0 := HBAD.out (by simp; omega)
        have hE := HE.out
        rw [if_neg (by rw [hb0]; decide)] at hE
        have hL := HLX.out
        rw [hE, if_neg (by decide)] at hL
        subst hE hL
        clear h10
        go_wp2_with fail
        go_ret2
        exact RetSE.none
    · obtain rfl : k = L := by omega
      have hE : Hid (E = if 1000 < TT.length then 10 else 0) := by
        unfold Hid
        have h := HE.out
        rwa [if_pos (by rw [← hall.out, List.take_of_length_le (by rw [HL.out]; exact Nat.le_refl _)])] at h
      have j1 : ¬ (k : Int) < (k : Int) := by omega
      clear HE hall
      go_wp2_with fail
      go_loopw [5, 6, 7] (fun v fr i wr => ∃ (m f : Nat) (acc : List (List UInt8)), m ≤ k ∧ i = .int .i64 m ∧ fr = .int .i64 f ∧ f ≤ m ∧ wr.ownsRow w.heap.size 9 1 v acc.length (acc.map strV) ∧ Below w.heap.size w wr ∧ Hid (TT = acc ++ lw ((l.take m).drop f) (l.drop m)) ∧ acc.length ≤ m)
        (fun _ _ i _ => k - (intOf i).toNat)
      case atStart => exact ⟨0, 0, [], by omega, rfl, rfl, by omega, World.ownsRow_nil _ _ _ _, Below.refl _ _, by unfold Hid; rw [HLW.out]; rfl, by simp⟩
      case round =>
        obtain ⟨m, f, acc, hm, rfl, rfl, hf, hrow, hB, HA, hal⟩ := hrel
        have hBs := hB.size
        have hM1 : acc.length + 1 ≤ maxLen := by unfold maxLen; omega
        have hM2 : (acc.length + 1) * 16 ≤ 140737488355328 := by omega
        by_cases hlt : m < k
        · have hg := bget (l := l) (k := m) (by rw [HL.out]; exact hlt)
          have hdr := drop_bAt (l := l) (k := m) (by rw [HL.out]; exact hlt)
          have hcn := cur_next (l := l) (k := m) (f := f) (by rw [HL.out]; exact hlt) hf
          obtain ⟨b, Hb⟩ : ∃ v, Hid (bAt l m = v) := ⟨_, rfl⟩
          rw [Hb.out] at hg hdr hcn
          rw [hdr] at HA
          obtain ⟨n, HN⟩ : ∃ v, Hid (b.toNat = v) := ⟨_, rfl⟩
          have hg2 : ∀ h, ((⟨l.toArray⟩ : ByteArray)[m]'h).toNat = n := fun h => by rw [hg h]; exact HN.out
          have HA0 := HA.out
          unfold lw at HA0
          rw [HN.out] at HA0
          have j0 : (0 : Int) ≤ (m : Int) := by omega
          have j2 : (m : Int) < (k : Int) := by omega
          have hx : (⟨l.toArray⟩ : ByteArray).extract f m = ⟨((l.take m).drop f).toArray⟩ := ext_take l f m
          obtain ⟨cur, HC⟩ : ∃ v, Hid ((l.take m).drop f = v) := ⟨_, rfl⟩
          rw [HC.out] at hx hcn HA0
          have HCN := Lib.hid hcn
          clear hg hdr HA hcn
          by_cases h10 : n = 10
          · rw [if_pos h10] at HA0
            have u1 : ((n : Int) == 10) = true := by simp; omega
            have HA1 := Lib.hid HA0
            have q1 : (0 : Int) ≤ (f : Int) := by omega
            have q2 : (f : Int) ≤ (m : Int) := by omega
            clear HA0 h10
            go_wp2_with (at_builtin; refine wpList_append_own_at _ rfl _ _ 23 rfl w.heap.size 9 i0 (.string ⟨#[]⟩) 1 16 Tryd.underlying23 hi hz0 hz1 hz2 rfl (by decide) _ _ _ rfl (hrow.alloc _) ⟨wr.heap.size, 0, none⟩ 1 1 [.string ⟨cur.toArray⟩] rfl rfl (cell_one_new _ _ _) (by simp [Value.oneCell']) hM1 hM2 (by rw [World.size_alloc]; omega) ?_; intro v' w1 hown' hgrow _ _; have hB2 := below_append hB hrow hgrow hB.size; have hown2 := owns_snoc hown'; clear hgrow)
            go_roundw
            case rel => exact ⟨m + 1, m + 1, acc ++ [cur], by omega, by go_num, by go_num, by omega, hown2, hB2, by unfold Hid; rw [HA1.out, show (l.take (m + 1)).drop (m + 1) = [] from List.drop_eq_nil_of_le (by rw [List.length_take]; omega)]; simp, by simp; omega⟩
            case measure => simp [intOf]; omega
          · rw [if_neg h10] at HA0
            have u1 : ((n : Int) == 10) = false := by simp; omega
            have HA1 := Lib.hid HA0
            clear HA0 h10
            go_wp2_with fail
            go_roundw
            case rel => exact ⟨m + 1, f, acc, by omega, by go_num, rfl, by omega, hrow, hB, by unfold Hid; rw [HCN.out]; exact HA1.out, by omega⟩
            case measure => simp [intOf]; omega
        · obtain rfl : m = k := by omega
          have j3 : ¬ (m : Int) < (m : Int) := by omega
          have htk : l.take m = l := List.take_of_length_le (by rw [HL.out]; exact Nat.le_refl _)
          have hdk : l.drop m = [] := List.drop_eq_nil_of_le (by rw [HL.out]; exact Nat.le_refl _)
          have HA0 := HA.out
          rw [htk, hdk] at HA0
          unfold lw at HA0
          have hx : (⟨l.toArray⟩ : ByteArray).extract f m = ⟨(l.drop f).toArray⟩ := by rw [ext_take, htk]
          have hcl : (l.drop f).length = m - f := by rw [List.length_drop, HL.out]
          obtain ⟨cur, HC⟩ : ∃ v, Hid (l.drop f = v) := ⟨_, rfl⟩
          rw [HC.out] at hx HA0 hcl
          clear HA htk hdk
          by_cases hfk : f < m
          · have hone : TT = acc ++ [cur] := by rw [HA0]; unfold one; rw [if_pos (by omega)]
            have q1 : (0 : Int) ≤ (f : Int) := by omega
            have q2 : (f : Int) ≤ (m : Int) := by omega
            have q3 : (f : Int) < (m : Int) := by omega
            have htl : TT.length = acc.length + 1 := by rw [hone]; simp
            have hE2 := hE.out
            rw [htl] at hE2
            have HONE := Lib.hid hone
            clear HA0 hcl htl hone
            by_cases hbig : 1000 < acc.length + 1
            · rw [if_pos hbig] at hE2
              have hL := HLX.out
              rw [hE2, if_neg (by decide)] at hL
              subst hE2 hL
              go_wp2_with (at_builtin; refine wpList_append_own_at _ rfl _ _ 23 rfl w.heap.size 9 i0 (.string ⟨#[]⟩) 1 16 Tryd.underlying23 hi hz0 hz1 hz2 rfl (by decide) _ _ _ rfl (hrow.alloc _) ⟨wr.heap.size, 0, none⟩ 1 1 [.string ⟨cur.toArray⟩] rfl rfl (cell_one_new _ _ _) (by simp [Value.oneCell']) hM1 hM2 (by rw [World.size_alloc]; omega) ?_; intro v' w1 hown' hgrow _ _; have hB2 := below_append hB hrow hgrow hB.size; have hown2 := owns_snoc hown'; clear hgrow; obtain ⟨g', cap', rfl⟩ := ownsRow_succ hown')
              go_ret2
              exact RetSE.of_owns (World.ownsRow_nil _ _ _ _) hB2
            · rw [if_neg hbig] at hE2
              have hL := HLX.out
              rw [hE2, if_pos rfl] at hL
              have HLE := Lib.hid hL
              subst hE2
              clear hL
              go_wp2_with (at_builtin; refine wpList_append_own_at _ rfl _ _ 23 rfl w.heap.size 9 i0 (.string ⟨#[]⟩) 1 16 Tryd.underlying23 hi hz0 hz1 hz2 rfl (by decide) _ _ _ rfl (hrow.alloc _) ⟨wr.heap.size, 0, none⟩ 1 1 [.string ⟨cur.toArray⟩] rfl rfl (cell_one_new _ _ _) (by simp [Value.oneCell']) hM1 hM2 (by rw [World.size_alloc]; omega) ?_; intro v' w1 hown' hgrow _ _; have hB2 := below_append hB hrow hgrow hB.size; have hown2 := owns_snoc hown'; clear hgrow; obtain ⟨g', cap', rfl⟩ := ownsRow_succ hown')
              go_ret2
              rw [HLE.out, HONE.out]
              exact RetSE.of_owns hown2 hB2
          · have hone : TT = acc := by rw [HA0]; unfold one; rw [if_neg (by omega), List.append_nil]
            have q3 : decide ((f : Int) < (m : Int)) = false := by simp; omega
            obtain ⟨av, cv, rfl, _⟩ := SIn.of_owns hrow
            subst hone
            have hE2 := hE.out
            clear HA0 hcl
            by_cases hbig : 1000 < TT.length
            · rw [if_pos hbig] at hE2
              have hL := HLX.out
              rw [hE2, if_neg (by decide)] at hL
              subst hE2 hL
              go_wp2_with fail
              go_ret2
              exact RetSE.of_owns (World.ownsRow_nil _ _ _ _) hB
            · rw [if_neg hbig] at hE2
              have hL := HLX.out
              rw [hE2, if_pos rfl] at hL
              have HLE := Lib.hid hL
              subst hE2
              clear hL
              go_wp2_with fail
              go_ret2
              rw [HLE.out]
              exact RetSE.of_owns hrow hB
end Go.Proofs.YtdacigihhbcppaaDoor

