/-
  Zones: the iterator over the segments between the shifts.
-/
import Derived.Test.YtiohakpbgmignaaZaE
import Derived.Shelf.Abstract
import Derived.Shelf.RegionOpen
import Derived.OwnWalkIn
import Derived.TacticsInMore
import Derived.LoopNIn
import Derived.LoopIn
import Derived.RangeFuncBox
import Derived.Sort.QuietIn
import Derived.Sort.BigQuietIn
set_option linter.unusedVariables false
set_option linter.unusedSimpArgs false
namespace Go.Proofs.Ytiohakpbgmignaa
open Go.RowKit Go.Shelf
attribute [local go_sem] Oper.semAt_some

theorem ShIn.keeps {M : Nat → Obj → Prop} {w w' : World} {a : Option Addr} {n : Nat} {ss : List (Int × Int)} (h : ShIn w a n ss) (hk : KeepsC M w w') (hs : w.heap.size ≤ w'.heap.size) (hM : 0 < n → ∀ x, a = some x → ∀ ob, ¬ M x.block ob) : ShIn w' a n ss := by
  obtain ⟨hl, h⟩ := h
  refine ⟨hl, ?_⟩
  rcases h with h | ⟨g, o, e1, e2, e3⟩
  · exact .inl h
  · rcases Nat.eq_zero_or_pos n with h0 | h0
    · exact .inl h0
    · have hg := hM h0 _ e1
      exact .inr ⟨g, o, e1, Nat.lt_of_lt_of_le e2 hs, fun i hi => ⟨hk.cell hg (e3 i hi).1, hk.cell hg (e3 i hi).2⟩⟩
theorem BoxZ.keeps {M : Nat → Obj → Prop} {w w' : World} {b : Nat} {nm : List UInt8} {o : Int} {a : Option Addr} {n c : Nat} (h : BoxZ w b nm o a n c) (hk : KeepsC M w w') (hM : ∀ ob, ¬ M b ob) : BoxZ w' b nm o a n c := ⟨hk.cell hM h.1, hk.cell hM h.2.1, hk.cell hM h.2.2⟩
theorem BoxS.keeps {M : Nat → Obj → Prop} {w w' : World} {b : Nat} {y z : Int} (h : BoxS w b y z) (hk : KeepsC M w w') (hM : ∀ ob, ¬ M b ob) : BoxS w' b y z := ⟨hk.cell hM h.1, hk.cell hM h.2⟩
theorem BoxS.at {w : World} {b : Nat} {y z : Int} {t : TypeId} {fr : Nat × Nat} (h : w.heap[b]? = some (.cells #[.int .i64 y, .int .i64 z] t fr)) : BoxS w b y z := ⟨by simp [World.cell?, h], by simp [World.cell?, h]⟩

def RetSeg (w : World) (zo so : Obj) (e : Ending) (w' : World) : Prop :=
  e = .returned (.func (.func 54) #[] #[.pointer (some ⟨w.heap.size + 1, 0, none⟩), .pointer (some ⟨w.heap.size, 0, none⟩)]) ∧ w' = (w.alloc zo).alloc so
set_option maxHeartbeats 8000000 in
set_option maxRecDepth 1000000 in
theorem segments_any (nm : List UInt8) (o : Int) (a : Option Addr) (n c : Nat) (y z : Int) (w : World) :
    Calls Try.prog 40 #[.agg #[.string ⟨nm.toArray⟩, .int .i64 o, .slice a n c], .agg #[.int .i64 y, .int .i64 z]] w (RetSeg w (.cells #[.string ⟨nm.toArray⟩, .int .i64 o, .slice a n c] 24) (.cells #[.int .i64 y, .int .i64 z] 40)) := by
  go_enter Try.func40, Try.ntmps40
  go_wp2
  go_ret
  exact ⟨rfl, rfl⟩
theorem seg_one {o z F A T X : Int} {ss : List (Int × Int)} {k : Nat} (asc : ss.Pairwise (fun a b => a.1 < b.1)) (hk : k < ss.length) (hA : atS ss k = A) (off : ∀ u, F ≤ u → u < z → offs o ss u = offs X (ss.drop k) u) (h1 : T ≤ A) (h2 : T ≤ z) :
    ∀ u, F ≤ u → u < T → offs o ss u = X := fun u hu hu2 => by
  rw [off u hu (by omega)]
  exact offs_break asc hk (by omega)
theorem seg_two {o z F F' A X Y : Int} {ss : List (Int × Int)} {k : Nat} (hk : k < ss.length) (hA : atS ss k = A) (hY : ofS ss k = Y) (off : ∀ u, F ≤ u → u < z → offs o ss u = offs X (ss.drop k) u) (h1 : F ≤ F') (h2 : A ≤ F' ∨ z ≤ F') :
    ∀ u, F' ≤ u → u < z → offs o ss u = offs Y (ss.drop (k + 1)) u := fun u hu hu2 => by
  rw [off u (by omega) hu2, offs_step hk, hA, hY, if_pos (by omega)]

def encSeg (x : Int × Int × Int) : Array Value := #[.agg #[.int .i64 x.1, .int .i64 x.2.1], .int .i64 x.2.2]
def SegOk (o : Int) (ss : List (Int × Int)) (y z : Int) (L : List (Int × Int × Int)) : Prop := ∃ t, Seg (offs o ss) y L t ∧ t ≤ z
/-- The state of the iterator at shift k. -/
structure SgI (w wr : World) (zb sb : Nat) (nm : List UInt8) (o : Int) (a : Option Addr) (n c : Nat) (ss : List (Int × Int)) (y z : Int) (J : List (Int × Int × Int) → World → Prop) (pre : List (Int × Int × Int)) (k : Nat) (F X : Int) : Prop where
  seg : Seg (offs o ss) y pre F
  j : J pre wr
  le : F ≤ z
  off : ∀ u, F ≤ u → u < z → offs o ss u = offs X (ss.drop k) u
  bz : BoxZ wr zb nm o a n c
  bs : BoxS wr sb y z
  sh : ShIn wr a n ss
  sz : w.heap.size ≤ wr.heap.size
theorem OwnFrom.drewN {β : Type} {B : Nat} {I : β → World → Prop} (h : OwnFrom B I) {s : β} {W : World} (k : Nat) (hs : I s W) : I s (W.drewN k) := h s W _ none hs ⟨rfl, rfl, rfl, by simp, by simp⟩ (fun r e => by cases e)
theorem SgI.drewN {w wr : World} {zb sb : Nat} {nm : List UInt8} {o : Int} {a : Option Addr} {n c : Nat} {ss : List (Int × Int)} {y z : Int} {J : List (Int × Int × Int) → World → Prop} {pre : List (Int × Int × Int)} {k : Nat} {F X : Int} {B : Nat} (h : SgI w wr zb sb nm o a n c ss y z J pre k F X) (hJ : OwnFrom B J) (q : Nat) : SgI w (wr.drewN q) zb sb nm o a n c ss y z J pre k F X :=
  have hb := below_drewN (Below.refl wr.heap.size wr) q
  ⟨h.seg, OwnFrom.drewN hJ q h.j, h.le, h.off, h.bz.call hb, h.bs.call hb, h.sh.call hb, by simpa using h.sz⟩
set_option maxHeartbeats 8000000 in
set_option maxRecDepth 1000000 in
theorem segments_iter (w : World) (zb sb : Nat) (nm : List UInt8) (o : Int) (a : Option Addr) (n c : Nat) (ss : List (Int × Int)) (y z : Int) (M : Nat → Obj → Prop)
    (hz : BoxZ w zb nm o a n c) (hs : BoxS w sb y z) (hS : ShIn w a n ss) (hn : n ≤ 9223372036854775807) (hMz : ∀ ob, ¬ M zb ob) (hMs : ∀ ob, ¬ M sb ob) (hMg : 0 < n → ∀ x, a = some x → ∀ ob, ¬ M x.block ob)
    (hMt : ∀ k cs, w.heap.size ≤ k → ¬ M k (.cells cs 52 (0, 0))) (hok : ZOk o ss) (hyz : y ≤ z) :
    IterC Try.prog 54 #[.pointer (some ⟨sb, 0, none⟩), .pointer (some ⟨zb, 0, none⟩)] encSeg M (SegOk o ss y z) (fun L => Seg (offs o ss) y L z) w := by
  intro ly J Jx W hW hJ hJx hY h0
  have hstart : SgI w W zb sb nm o a n c ss y z J [] 0 y o := ⟨.nil, h0, hyz, fun u _ _ => rfl, hz.call hW, hs.call hW, hS.call hW, hW.size⟩
  have HOK := Lib.hid hok
  have HM := Lib.hid (And.intro hMz (And.intro hMs (And.intro hMg hMt)))
  obtain ⟨⟨b0, b1, b2⟩, c0, c1⟩ : BoxZ W zb nm o a n c ∧ BoxS W sb y z := ⟨hstart.bz, hstart.bs⟩
  have HST := Lib.hid hstart
  have HY := Lib.hid hY
  have HJ := Lib.hid hJ
  have HSS := Lib.hid hS.1
  have HW0 := Lib.hid hW.size
  clear hz hs hS hok hMz hMs hMg hMt hY hJ hJx hW h0 hstart
  refine callsIn_of_wp Try.func54 rfl trivial ?_ rfl
  simp only [Try.ntmps54, List.size_toArray, List.length_cons, List.length_nil, Nat.reduceAdd, Nat.reduceSub, Array.replicate_succ, Array.replicate_zero, List.push_toArray, List.append_toArray, List.nil_append, List.cons_append]
  gi_wp2
  gi_quiet (fail)
  gi_wp2
  gi_loopw [4, 5, 16] (fun f x i wr => ∃ (k : Nat) (F X : Int) (pre : List (Int × Int × Int)), k ≤ n ∧ f = .int .i64 F ∧ x = .int .i64 X ∧ i = .int .i64 k ∧ SgI w wr zb sb nm o a n c ss y z J pre k F X) (fun _ _ i _ => n - (intOf i).toNat)
  case atStart => exact ⟨0, y, o, [], by omega, rfl, rfl, rfl, HST.out.drewN HJ.out nq⟩
  case round =>
    clear b0 b1 b2 c0 c1
    obtain ⟨k, F, X, pre, hk, rfl, rfl, rfl, K⟩ := hrel
    have HK := Lib.hid K
    obtain ⟨b0, b1, b2⟩ := K.bz
    obtain ⟨c0, c1⟩ := K.bs
    have hle := K.le
    by_cases hkn : k < n
    · obtain ⟨g, x0, e1, e2, e3⟩ : ∃ g x0, a = some ⟨g, x0, none⟩ ∧ g < wr.heap.size ∧ ∀ i, i < n → wr.cell? ⟨g, x0 + i * 2, none⟩ = some (.int .i64 (atS ss i)) ∧ wr.cell? ⟨g, x0 + i * 2 + 1, none⟩ = some (.int .i64 (ofS ss i)) := by
        rcases K.sh.2 with h | h
        · omega
        · exact h
      have s0 := (e3 k hkn).1
      have s1 := (e3 k hkn).2
      have hkl : k < ss.length := by rw [HSS.out]; exact hkn
      obtain ⟨A, HA⟩ : ∃ v, Hid (atS ss k = v) := ⟨_, rfl⟩
      obtain ⟨Y, HYY⟩ : ∃ v, Hid (ofS ss k = v) := ⟨_, rfl⟩
      rw [HA.out] at s0
      rw [HYY.out] at s1
      clear e3 K
      subst e1
      have j0 : (0 : Int) ≤ (k : Int) := by omega
      have j1 : (k : Int) < (n : Int) := by omega
      have j2 : ((k : Int)).toNat = k := rfl
      have nl1 : zb < wr.heap.size := World.block_lt_of_cell? _ _ b0
      have nl2 : sb < wr.heap.size := World.block_lt_of_cell? _ _ c0
      obtain ⟨T, hT⟩ : ∃ v, min A z = v := ⟨_, rfl⟩
      have t1 : T ≤ A := by rw [← hT]; omega
      have t2 : T ≤ z := by rw [← hT]; omega
      have t3 : A ≤ T ∨ z ≤ T := by rw [← hT]; omega
      have HT3 := Lib.hid t3
      clear t3
      by_cases hlt : F < T
      · skip
        obtain ⟨fn, tmps, assign, body, hy, hR⟩ := HY.out pre (F, T, X) (wr.alloc (.cells #[.int .i64 A, .int .i64 Y] 52)) ⟨T, .add T HK.out.seg hlt (seg_one HOK.out.asc hkl HA.out HK.out.off (by omega) (by omega)), by omega⟩ (HJ.out.alloc _ HK.out.j)
        dsimp only [encSeg] at hy
        have HL := Lib.hid hlt
        gi_wp2
        refine ⟨rfl, hR.mono ?_⟩
        rintro e W3 (⟨rfl, hJ3, hk3, hf3⟩ | ⟨rfl, hJx3, hf3⟩)
        · have hc3 := hk3 wr.heap.size _ (HM.out.2.2.2 _ _ HK.out.sz) (World.alloc_heap_new wr _) rfl
          obtain ⟨d0, d1⟩ := BoxS.at hc3
          have HK3 := Lib.hid hk3
          have HJ3 := Lib.hid hJ3
          have HF3 := Lib.hid hf3.size
          clear hJ3 hk3 hf3 hc3
          gi_wp2
          refine ⟨⟨k + 1, T, Y, pre ++ [(F, T, X)], by omega, rfl, rfl, by go_num, ?_⟩, ?_⟩
          · refine ⟨.add T HK.out.seg HL.out (seg_one HOK.out.asc hkl HA.out HK.out.off (by omega) (by omega)), HJ3.out, by omega, seg_two hkl HA.out HYY.out HK.out.off (by have := HL.out; omega) HT3.out, ?_, ?_, ?_, ?_⟩
            · exact (HK.out.bz.call (cnew _ _)).keeps HK3.out HM.out.1
            · exact (HK.out.bs.call (cnew _ _)).keeps HK3.out HM.out.2.1
            · exact (HK.out.sh.call (cnew _ _)).keeps HK3.out HF3.out HM.out.2.2.1
            · have h1 := HF3.out; have h2 := HK.out.sz; simp at h1; omega
          · simp [intOf]; omega
        · gi_wp2
          refine bodyPost_ret (results_none rfl _ _ _) rfl ?_
          exact ⟨⟨_, rfl⟩, .inr ⟨pre ++ [(F, T, X)], ⟨T, .add T HK.out.seg HL.out (seg_one HOK.out.asc hkl HA.out HK.out.off (by omega) (by omega)), by omega⟩, hJx3⟩⟩
      · skip
        have hnl : ¬ F < T := hlt
        gi_wp2
        refine ⟨⟨k + 1, F, Y, pre, by omega, rfl, rfl, by go_num, ?_⟩, ?_⟩
        · refine ⟨HK.out.seg, HJ.out.alloc _ HK.out.j, HK.out.le, seg_two hkl HA.out HYY.out HK.out.off (Int.le_refl _) (by have := HT3.out; have := HK.out.le; omega), HK.out.bz.call (cnew _ _), HK.out.bs.call (cnew _ _), HK.out.sh.call (cnew _ _), ?_⟩
          have h2 := HK.out.sz; simp; omega
        · simp [intOf]; omega
    · obtain rfl : k = n := by omega
      have j1 : ¬ (k : Int) < (k : Int) := by omega
      have hoff : ∀ u, F ≤ u → u < z → offs o ss u = X := fun u h1 h2 => by
        have h := K.off u h1 h2
        have h3 := offs_end ss X u
        rw [HSS.out] at h3
        rw [h, h3]
      by_cases hlt : F < z
      · obtain ⟨fn, tmps, assign, body, hy, hR⟩ := HY.out pre (F, z, X) wr ⟨z, .add z K.seg hlt hoff, by omega⟩ K.j
        dsimp only [encSeg] at hy
        have HOFF := Lib.hid hoff
        have HL := Lib.hid hlt
        clear hoff K
        gi_wp2
        refine ⟨rfl, hR.mono ?_⟩
        rintro e W3 (⟨rfl, hJ3, hk3, hf3⟩ | ⟨rfl, hJx3, hf3⟩)
        · gi_wp2
          go_end0
          exact ⟨⟨_, rfl⟩, .inl ⟨_, .add z HK.out.seg HL.out HOFF.out, hJ3⟩⟩
        · gi_wp2
          go_end0
          exact ⟨⟨_, rfl⟩, .inr ⟨_, ⟨z, .add z HK.out.seg HL.out HOFF.out, by omega⟩, hJx3⟩⟩
      · have he : F = z := by omega
        clear hoff K
        gi_wp2
        go_end0
        exact ⟨⟨_, rfl⟩, .inl ⟨pre, by rw [← he]; exact HK.out.seg, HK.out.j⟩⟩
end Go.Proofs.Ytiohakpbgmignaa

