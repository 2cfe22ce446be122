/-
  The reference's integers: cutting off leading zeros, and canonical integers.
-/
import Derived.Test.YtehoafpnmfkniaaWord
import Derived.Deep.AppendLies
import Derived.OwnWalk
import Derived.Laws.AppendOwnNone
set_option linter.unusedVariables false
set_option linter.unusedSimpArgs false
namespace Go.Proofs.Ytehoafpnmfkniaa
open Go.RowKit

set_option maxRecDepth 100000 in
theorem rtrim_any (A : Option Addr) (n c B : Nat) (ds : List Nat) (w : World) (h : Dgs w B A n ds) (hc : n ≤ c) (hm : c ≤ maxLen) :
    Calls Try.prog 113 #[.slice A n c] w fun e w' => e = .returned (.slice A (trimLen ds) c) ∧ w = w' := by
  unfold maxLen at hm
  have hl := h.len
  go_enter Try.func113, Try.ntmps113
  go_wp2
  go_loop [3] (fun i => ∃ k : Nat, k ≤ n ∧ i = .int .i64 k ∧ trimLen (ds.take k) = trimLen ds) (fun i => (intOf i).toNat)
  case atStart => exact ⟨n, Nat.le_refl _, rfl, by rw [List.take_of_length_le (by omega)]⟩
  case round =>
    obtain ⟨k, hk, rfl, ht⟩ := hrel
    have HT := Lib.hid ht; clear ht
    by_cases hk0 : k = 0
    · subst hk0
      go_wp2
      go_ret
      have ht := HT.out
      simp [trimLen] at ht
      exact ⟨by rw [← ht]; rfl, rfl⟩
    · obtain ⟨b, off, rfl, _, hcell⟩ := h.at_ (by omega)
      obtain ⟨j, rfl⟩ : ∃ j, k = j + 1 := ⟨k - 1, by omega⟩
      have hx : w.cell? ⟨b, off + j, none⟩ = some (.int .u32 (ds.getD j 0 : Nat)) := hcell j (by omega)
      obtain ⟨x, HX⟩ : ∃ x, Hid (x = ds.getD j 0) := ⟨_, rfl⟩
      rw [← HX.out] at hx
      clear hcell
      by_cases hz : x = 0
      · subst hz
        go_wp2
        go_round
        case rel => exact ⟨j, by omega, rfl, by rw [← HT.out]; exact (trimLen_take_zero (by omega) HX.out.symm).symm⟩
        case measure => simp [intOf]
      · go_wp2
        go_ret
        have e : trimLen ds = j + 1 := by rw [← HT.out]; exact trimLen_take_pos (by omega) (by rw [← HX.out]; exact hz)
        exact ⟨by rw [e]; rfl, rfl⟩

/-- The digits after the leading zeros are cut off, the capacity left as it is. -/
def RetR (w : World) (B : Nat) (A : Option Addr) (v n c : Nat) (e : Ending) (w' : World) : Prop :=
  ∃ t, e = .returned (.slice A t c) ∧ Dgs w B A t (digs v) ∧ t ≤ n ∧ w = w'

theorem rtrim_ret (A : Option Addr) (n c B : Nat) (ds : List Nat) (w : World) (h : Dgs w B A n ds) (hc : n ≤ c) (hm : c ≤ maxLen) :
    Calls Try.prog 113 #[.slice A n c] w (RetR w B A (val ds) n c) :=
  (rtrim_any A n c B ds w h hc hm).mono fun e w' ⟨he, hw⟩ => ⟨trimLen ds, he, by rw [← take_trimLen h.dig]; exact h.take (by rw [← h.len]; exact trimLen_le ds), by rw [← h.len]; exact trimLen_le ds, hw⟩

theorem u32_info : (Try.prog.info? 74).map (fun i => (i.zero, i.size, i.bytes)) = some (some (.int .u32 0), 1, 4) := by kernel_rfl

/-- Cells that read as digits. -/
def dcells (ds : List Nat) : List Value := ds.map fun d => Value.int .u32 (d : Nat)
theorem dcells_get {ds : List Nat} {j : Nat} {u : Value} (h : (dcells ds)[j]? = some u) : j < ds.length ∧ u = .int .u32 (ds.getD j 0 : Nat) := by
  unfold dcells at h
  rw [List.getElem?_map] at h
  rcases hj : ds[j]? with _ | d
  · rw [hj] at h; cases h
  · rw [hj] at h
    have hlt := (List.getElem?_eq_some_iff.1 hj).1
    simp only [Option.map_some, Option.some.injEq] at h
    exact ⟨hlt, by rw [← h]; simp [List.getD, hj]⟩
theorem dcells_one (ds : List Nat) : ∀ u ∈ dcells ds, u.oneCell' = true := by
  intro u hu
  obtain ⟨_, _, rfl⟩ := List.mem_map.1 hu
  rfl
theorem dcells_length (ds : List Nat) : (dcells ds).length = ds.length := by simp [dcells]

theorem World.ownsRow.le {w : World} {base : Nat} {e : TypeId} {size : Nat} {A : Option Addr} {n c : Nat} {xs : List Value} (h : World.ownsRow w base e size (.slice A n c) n xs) : n ≤ c ∧ c ≤ maxLen := by
  rcases h.2 with ⟨hv, hn⟩ | ⟨g, cap, cur, hv, _, _, h1, h2, _⟩
  · injection hv with _ _ hc; subst hn hc; exact ⟨Nat.le_refl _, by unfold maxLen; omega⟩
  · injection hv with _ _ hc; subst hc; exact ⟨h1, h2⟩

/-- What the call owns reads as digits. -/
theorem Dgs.of_own {w : World} {base n : Nat} {A : Option Addr} {c : Nat} {ds : List Nat} (h : World.ownsRow w base 74 1 (.slice A n c) n (dcells ds)) (hd : Dig ds) : Dgs w w.heap.size A n ds := by
  have hl : ds.length = n := by have := h.1; rw [dcells_length] at this; omega
  refine ⟨hl, hd, fun hn => ?_⟩
  obtain ⟨g, cap, hv, _, hlt⟩ := World.ownsRow.form h hn
  have hA : A = some ⟨g, 0, none⟩ := by injection hv
  subst hA
  refine ⟨g, 0, rfl, hlt, fun j hj => ?_⟩
  have := World.ownsRow.cells h (g := g) rfl j (.int .u32 (ds.getD j 0 : Nat)) (by unfold dcells; simp [List.getD, show j < ds.length by omega])
  rw [Addr.add_lit] at this
  exact this

theorem Own.grown {w w' : World} {g : Nat} {t : TypeId} {v0 v1 : Value} {row : Option Nat} (h : Own w g t v0 v1) (hb : w.grownBy w' row) (hg : some g ≠ row) : Own w' g t v0 v1 := (hb.block g h.lt hg).trans h

theorem Dgs.news {w : World} {B n b off : Nat} {ds : List Nat} (h : Dgs w B (some ⟨b, off, none⟩) n ds) : ∀ j u, (dcells ds)[j]? = some u → w.cell? ((⟨b, off, none⟩ : Addr).add j) = some u := by
  intro j u hu
  obtain ⟨hj, rfl⟩ := dcells_get hu
  obtain ⟨b', off', e, _, hc⟩ := h.at_ (by rw [← h.len]; omega)
  injection e with e
  injection e with e1 e2
  subst e1 e2
  rw [Addr.add_lit]
  exact hc j (by rw [← h.len]; exact hj)

theorem digs_pos_len {v : Nat} (h : v ≠ 0) : 0 < (digs v).length := by
  rcases Nat.eq_zero_or_pos (digs v).length with h0 | h0
  · exact absurd (digs_nil h0) h
  · exact h0

set_option maxRecDepth 100000 in
theorem make_any (neg : Bool) (A : Option Addr) (n c : Nat) (ds : List Nat) (w : World) (h : Dgs w w.heap.size A n ds) (hc : n ≤ c) (hm : c ≤ maxLen) (hs : n ≤ 1000000) :
    Calls Try.prog 84 #[.bool neg, .slice A n c] w (RetZ w (zOf neg (val ds))) := by
  obtain ⟨i0, hi, hz0, hz1, hz2⟩ := info_parts u32_info
  by_cases hv : val ds = 0
  · go_enter Try.func84, Try.ntmps84
    go_wp2_with (go_at_call 113; refine (rtrim_ret A n c _ ds _ (h.alloc (Nat.le_refl _) _) hc hm).mono ?_; rintro e w' ⟨t, rfl, hd, ht, rfl⟩; obtain rfl : t = 0 := by (have := hd.len; rw [hv, digs_zero] at this; exact this.symm))
    refine bodyPost_ret (v := .agg #[.bool false, .slice none 0 0]) (by simp [results, Try.results84, go_sem]) rfl (RetZ.mk_ ?_ ?_ (Nat.le_refl _) (Nat.zero_le _) (bnew _ _))
    · rw [hv]; cases neg <;> rfl
    · rw [hv]; cases neg <;> (simp [zOf, digs_zero]; exact Dgs.none_)
  · have HP := digs_pos_len hv
    obtain ⟨N, HN⟩ : ∃ N, Hid (N = val ds) := ⟨_, rfl⟩
    have HV := Lib.hid hv
    rw [← HN.out] at HP
    clear hv
    go_enter Try.func84, Try.ntmps84
    go_wp2_with (first
      | (go_at_call 113; refine (rtrim_ret A n c _ ds _ (h.alloc (Nat.le_refl _) _) hc hm).mono ?_; rintro e w' ⟨t, rfl, hd, ht, rfl⟩; rw [← HN.out] at hd; obtain ⟨k, rfl⟩ : ∃ k, t = k + 1 := ⟨t - 1, by have := hd.len; omega⟩; obtain ⟨b, off, rfl, hbb, hcell⟩ := hd.at_ (Nat.succ_pos _); clear hcell)
      | (at_builtin; refine wpList_append_lies _ rfl _ _ 22 rfl w.heap.size 74 i0 (.int .u32 0) 1 4 Try.underlying22 hi hz0 hz1 hz2 rfl (by omega) (.slice none 0 0) 0 [] (by rfl) (World.ownsRow_nil _ _ _ _) ⟨b, off, none⟩ (k + 1) c (dcells (digs N)) (by rfl) (by rw [dcells_length, hd.len]; omega) hd.news (dcells_one _) (Nat.succ_pos _) (by unfold maxLen; omega) (by omega) (by simp) _ rfl ?_; intro g cap w1 hown hg hat hlt; simp only [Nat.zero_add, List.nil_append] at hown; have O1 := (Own.new w 24 (.bool false) (.slice none 0 0)).grown hg (by simp [Value.ownBlock]); obtain ⟨q0, q1, q2, q3⟩ := O1.facts))
    have hd1 := Dgs.of_own hown hd.dig
    refine bodyPost_ret (v := .agg #[.bool neg, .slice (some ⟨g, 0, none⟩) (k + 1) cap]) (by simp [results, Try.results84, go_sem, q0, q1, q2, q3]) rfl
      (RetZ.store_ O1 (Nat.le_refl _) (zOf_neg HV.out).symm (by rw [zOf_natAbs, ← HN.out]; exact hd1) ?_ ?_ ((bnew _ _).grown hg (by simp) (fun k hk => by simp [Value.ownBlock] at hk)) _ _)
    · exact (World.ownsRow.le hown).1
    · exact (World.ownsRow.le hown).2
end Go.Proofs.Ytehoafpnmfkniaa
