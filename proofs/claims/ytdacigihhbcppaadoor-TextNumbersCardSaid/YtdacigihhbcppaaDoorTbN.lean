/-
  The library's iterator over the lines of a text of bytes.
-/
import Derived.Test.YtdacigihhbcppaaDoorTbM
set_option linter.unusedVariables false
set_option linter.unusedSimpArgs false
namespace Go.Proofs.YtdacigihhbcppaaDoor
open Go.RowKit Go.Shelf
attribute [local go_sem] Oper.semAt_some

/-- The state of the iterator between two rounds. -/
structure LnI (S : Nat → Prop) (w wr : World) (bs : Nat) (l : List UInt8) (J : List (List UInt8) → World → Prop) (pre : List (List UInt8)) (a : Option Addr) (r : List UInt8) (n c : Nat) : Prop where
  j : J pre wr
  ps : lp l = pre ++ lp r
  box : Boxed wr bs 29 (.slice a n c)
  inn : BIn S wr a r
  len : r.length = n
  cap : n ≤ c
  max : c ≤ 9223372036854775807
  old : ∀ k, S k → wr.heap[k]? = w.heap[k]?

theorem keep_drew {S : Nat → Prop} {bs : Nat} {W W' : World} (h : KeepS S bs W W') : KeepS S bs W W'.drew := h
set_option maxHeartbeats 4000000 in
set_option maxRecDepth 100000 in
theorem lines_iter {S : Nat → Prop} (w : World) (bs n c : Nat) (a : Option Addr) (l : List UInt8) (hSs : ¬ S bs) (hlt : ∀ k, S k → k < w.heap.size) (hbs : bs < w.heap.size)
    (h2 : Boxed w bs 29 (.slice a n c)) (hn : l.length = n) (hc : n ≤ c) (hm : c ≤ 9223372036854775807) (h5 : BIn S w a l) :
    IterB Tryd.prog 40 bs #[.pointer (some ⟨bs, 0, none⟩)] encP (BIn S) (KeepS S bs) (lp l) w := by
  intro ly J Jx W hW hJ hJx hY h0
  have hold : ∀ k, k < w.heap.size → W.heap[k]? = w.heap[k]? := fun k hk => hW.block k hk
  have hstart : LnI S w W bs l J [] a l n c := ⟨h0, rfl, (hold bs hbs).trans h2, h5.kept (fun k hk => hold k (hlt k hk)), hn, hc, hm, fun k hk => hold k (hlt k hk)⟩
  clear h2 h5 hW
  refine callsIn_of_wp Tryd.func40 rfl trivial ?_ rfl
  simp only [Tryd.ntmps40, List.size_toArray, List.length_cons, List.length_nil, Nat.reduceAdd, Nat.reduceSub, Array.replicate_succ, Array.replicate_zero, List.push_toArray, List.append_toArray, List.nil_append, List.cons_append]
  gi_wp2
  gi_loopw [3, 4] (fun _ _ wr => ∃ pre a r n c, LnI S w wr bs l J pre a r n c) (fun _ _ wr => lenAt bs wr)
  case atStart => exact ⟨[], a, l, n, c, hstart⟩
  case round =>
    clear hstart h0 hold
    obtain ⟨pre, a, r, n, c, K⟩ := hrel
    have hix := indexByte_any a n c r 10 wr K.len K.inn
    rw [show ((10 : Int).toNat.toUInt8) = 10 from rfl] at hix
    have hlo := idx_lo r 10
    have hhi := idx_hi r 10
    rw [K.len] at hhi
    have hcap := K.cap
    have hmax := K.max
    have bc := K.box.cell
    have bf := K.box.frozen
    have HK := Lib.hid K
    have HY := Lib.hid hY
    clear hY
    by_cases hn0 : n = 0
    · have hr : r = [] := List.eq_nil_of_length_eq_zero (K.len.trans hn0)
      subst hn0
      clear hix hlo hhi
      gi_wp2
      go_end0
      exact ⟨⟨_, rfl⟩, .inl (by rw [K.ps, hr, lp, List.append_nil]; exact K.j)⟩
    have p0 : (0 : Int) < (n : Int) := by omega
    clear K
    by_cases hneg : idx r 10 = -1
    · have jn := hJ _ _ _ (some bs) HK.out.j (grownBy_setCell' wr bs (.slice none 0 0)) (fun r e => by cases e; rfl)
      have hkp : ∀ k, S k → (wr.setCell ⟨bs, 0, none⟩ (.slice none 0 0)).heap[k]? = wr.heap[k]? := fun k hk => Below.heap_setCell _ _ _ k (fun e => hSs (by have e' : k = bs := e; rw [← e']; exact hk))
      have hps : lp l = pre ++ [r] := by rw [HK.out.ps, lp_none r (by rw [HK.out.len]; omega) hneg]
      obtain ⟨fn, tmps, assign, body, hy, hR⟩ := HY.out pre r [] a _ hps (HK.out.inn.kept hkp) jn
      dsimp only [encP] at hy
      rw [HK.out.len] at hy
      rw [hneg] at hix
      have HPS := Lib.hid hps
      have HKP := Lib.hid hkp
      clear hneg hlo hhi hps hkp
      gi_wp2_with ((refine ⟨trivial, rfl, ?_⟩; (with_reducible refine (callsIn_wide.2 hix).mono ?_); rintro e w1 ⟨rfl, rfl⟩))
      refine ⟨rfl, hR.mono ?_⟩
      rintro e W3 (⟨rfl, hJ3, hk3⟩ | ⟨rfl, hJx3⟩)
      · gi_wp2
        have b3 : Boxed W3 bs 29 (.slice none 0 0) := (hk3 bs (.inr rfl)).trans (HK.out.box.set _)
        go_roundw
        case rel => exact ⟨pre ++ [r], none, [], 0, 0, hJ3, by rw [HPS.out, lp, List.append_nil], b3, BIn.nil _ _ _, rfl, by omega, by omega, fun k hk => (hk3 k (.inl hk)).trans ((HKP.out k hk).trans (HK.out.old k hk))⟩
        case measure => rw [lenAt_box b3, lenAt_box HK.out.box]; omega
      · gi_wp2
        refine bodyPost_ret (results_none rfl _ _ _) rfl ?_
        exact ⟨⟨_, rfl⟩, .inr ⟨pre, r, [], HPS.out, hJx3⟩⟩
    · obtain ⟨i, hi⟩ : ∃ i : Nat, idx r 10 = (i : Int) := ⟨(idx r 10).toNat, by omega⟩
      have hps := lp_some r i hi
      rw [hi] at hix hhi
      have k1 : (i : Int) + 1 ≤ (n : Int) := by omega
      have k2 : (i : Int) + 1 ≤ (c : Int) := by omega
      have k3 : (0 : Int) ≤ (i : Int) := by omega
      clear hneg hlo hi
      have HPS := Lib.hid hps
      clear hps
      gi_wp2_with ((refine ⟨trivial, rfl, ?_⟩; (with_reducible refine (callsIn_wide.2 hix).mono ?_); rintro e w1 ⟨rfl, rfl⟩))
      gi_region
      obtain ⟨V, hV⟩ : ∃ V, V = Value.slice (if c = i + 1 then a else Option.map (fun x => { block := x.block, off := x.off + (i + 1) }) a) (n - (i + 1)) (c - (i + 1)) := ⟨_, rfl⟩
      rw [← hV]
      have g := grownBy_setCell' wr bs V
      have jn := hJ _ _ _ (some bs) HK.out.j (show wr.grownBy (wr.setCell ⟨bs, 0, none⟩ V).drew (some bs) from ⟨g.1, g.2, g.3, g.4, g.5⟩) (fun r e => by cases e; rfl)
      have hkp : ∀ k, S k → (wr.setCell ⟨bs, 0, none⟩ V).drew.heap[k]? = wr.heap[k]? := fun k hk => Below.heap_setCell _ _ _ k (fun e => hSs (by have e' : k = bs := e; rw [← e']; exact hk))
      have hli : (r.take (i + 1)).length = i + 1 := by rw [List.length_take, HK.out.len]; omega
      obtain ⟨fn, tmps, assign, body, hy, hR⟩ := HY.out pre (r.take (i + 1)) (lp (r.drop (i + 1))) a _ (by rw [HK.out.ps, HPS.out]) ((HK.out.inn.take (i + 1)).kept hkp) jn
      dsimp only [encP] at hy
      rw [hli] at hy
      have HKP := Lib.hid hkp
      have HLI := Lib.hid hli
      clear hkp hli g jn
      have HV := Lib.hid hV
      clear hV
      gi_wp2
      refine ⟨rfl, hR.mono ?_⟩
      rintro e W3 (⟨rfl, hJ3, hk3⟩ | ⟨rfl, hJx3⟩)
      · gi_wp2
        have b3 : Boxed W3 bs 29 V := (hk3 bs (.inr rfl)).trans (HK.out.box.set V)
        rw [HV.out] at b3
        go_roundw
        case rel => exact ⟨pre ++ [r.take (i + 1)], (if c = i + 1 then a else Option.map (fun x => { block := x.block, off := x.off + (i + 1) }) a), r.drop (i + 1), n - (i + 1), c - (i + 1), hJ3, by rw [HK.out.ps, HPS.out]; simp, b3, ((HK.out.inn.dropW (i + 1) c (by rw [HK.out.len]; exact hcap)).kept (fun k hk => (hk3 k (.inl hk)).trans (HKP.out k hk))), by rw [List.length_drop, HK.out.len], by omega, by omega, fun k hk => (hk3 k (.inl hk)).trans ((HKP.out k hk).trans (HK.out.old k hk))⟩
        case measure => rw [lenAt_box b3, lenAt_box HK.out.box]; omega
      · gi_wp2
        refine bodyPost_ret (results_none rfl _ _ _) rfl ?_
        exact ⟨⟨_, rfl⟩, .inr ⟨pre, r.take (i + 1), _, by rw [HK.out.ps, HPS.out], hJx3⟩⟩
end Go.Proofs.YtdacigihhbcppaaDoor

