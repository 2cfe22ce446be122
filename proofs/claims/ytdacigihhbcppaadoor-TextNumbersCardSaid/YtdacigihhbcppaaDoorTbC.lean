/-
  The library's iterator over the parts of a text of bytes between the places of one byte.
-/
import Derived.Test.YtdacigihhbcppaaDoorTbB
import Derived.Test.YtdacigihhbcppaaDoorIter
import Derived.Shelf.Abstract
import Derived.Shelf.RegionOpen
import Derived.OwnWalkIn
import Derived.TacticsInMore
import Derived.LoopNIn
import Derived.LoopIn
import Derived.RangeFuncBox
set_option linter.unusedVariables false
set_option linter.unusedSimpArgs false
namespace Go.Proofs.YtdacigihhbcppaaDoor
open Go.RowKit Go.Shelf
attribute [local go_sem] Oper.semAt_some

/-- The parts of l between the bytes b. -/
def pieces (b : UInt8) : List UInt8 → List (List UInt8)
  | [] => [[]]
  | c :: l => if (c == b) = true then [] :: pieces b l else match pieces b l with
    | [] => [[c]]
    | p :: ps => (c :: p) :: ps
theorem pieces_ne (b : UInt8) : ∀ l, pieces b l ≠ []
  | [] => by simp [pieces]
  | c :: l => by
    unfold pieces
    split
    · simp
    · split <;> simp
theorem idx_cons (c : UInt8) (l : List UInt8) (b : UInt8) : idx (c :: l) b = if (c == b) = true then 0 else if (idx l b == -1) = true then -1 else idx l b + 1 := by
  unfold idx
  conv => lhs; unfold Lib.indexByte
theorem pieces_none (b : UInt8) : ∀ l, idx l b = -1 → pieces b l = [l]
  | [], _ => rfl
  | c :: l, h => by
    rw [idx_cons] at h
    have h0 := idx_lo l b
    unfold pieces
    by_cases hc : (c == b) = true
    · rw [if_pos hc] at h; omega
    · rw [if_neg hc] at h ⊢
      by_cases h1 : idx l b = -1
      · rw [pieces_none b l h1]
      · rw [if_neg (by simpa using h1)] at h; omega
theorem pieces_some (b : UInt8) : ∀ (l : List UInt8) (i : Nat), idx l b = (i : Int) → pieces b l = l.take i :: pieces b (l.drop (i + 1))
  | [], i, h => by
    have : idx [] b = -1 := by simp [idx, Lib.indexByte]
    rw [this] at h; omega
  | c :: l, i, h => by
    rw [idx_cons] at h
    have h0 := idx_lo l b
    conv => lhs; unfold pieces
    by_cases hc : (c == b) = true
    · rw [if_pos hc] at h
      rw [if_pos hc]
      obtain rfl : i = 0 := by omega
      simp
    · rw [if_neg hc] at h ⊢
      by_cases h1 : idx l b = -1
      · rw [if_pos (by simpa using h1)] at h; omega
      · rw [if_neg (by simpa using h1)] at h
        obtain ⟨j, rfl⟩ : ∃ j, i = j + 1 := ⟨i - 1, by omega⟩
        rw [pieces_some b l j (by omega)]
        simp

/-- How many bytes the slice in the box b has: what a round makes less. -/
def lenAt (b : Nat) (w : World) : Nat := match w.cell? ⟨b, 0, none⟩ with
  | some (.slice _ n _) => n
  | _ => 0
theorem lenAt_box {b n c : Nat} {w : World} {t : TypeId} {a : Option Addr} (h : Boxed w b t (.slice a n c)) : lenAt b w = n := by
  unfold lenAt; rw [h.cell]
/-- What a round that goes on keeps. -/
def KeepS (S : Nat → Prop) (bs : Nat) (W W' : World) : Prop := ∀ k, (S k ∨ k = bs) → W'.heap[k]? = W.heap[k]?
def encP (p : Option Addr) (x : List UInt8) : Array Value := #[.slice p x.length x.length]

/-- The state of the iterator between two rounds. -/
structure SpI (S : Nat → Prop) (w wr : World) (bs : Nat) (cv : UInt8) (l : List UInt8) (J : List (List UInt8) → World → Prop) (pre : List (List UInt8)) (a : Option Addr) (r : List UInt8) (n c : Nat) : Prop where
  j : J pre wr
  ps : pieces cv l = pre ++ pieces cv r
  box : Boxed wr bs 29 (.slice a n c)
  inn : BIn S wr a r
  len : r.length = n
  cap : n ≤ c
  max : c ≤ 9223372036854775807
  old : ∀ k, S k → wr.heap[k]? = w.heap[k]?

set_option maxHeartbeats 2000000 in
set_option maxRecDepth 100000 in
theorem split_iter {S : Nat → Prop} (w : World) (bs bp bv g d n c : Nat) (a : Option Addr) (l : List UInt8) (cv : UInt8)
    (hSp : S bp) (hSv : S bv) (hSg : S g) (hSs : ¬ S bs) (hlt : ∀ k, S k → k < w.heap.size) (hbs : bs < w.heap.size)
    (h1 : w.cell? ⟨bp, 0, none⟩ = some (.slice (some ⟨g, 0, none⟩) 1 d)) (h2 : Boxed w bs 29 (.slice a n c)) (h3 : w.cell? ⟨bv, 0, none⟩ = some (.int .i64 0))
    (h4 : w.cell? ⟨g, 0, none⟩ = some (.int .u8 (cv.toNat : Int))) (hn : l.length = n) (hc : n ≤ c) (hm : c ≤ 9223372036854775807) (h5 : BIn S w a l) :
    IterB Tryd.prog 52 bs #[.pointer (some ⟨bp, 0, none⟩), .pointer (some ⟨bs, 0, none⟩), .pointer (some ⟨bv, 0, none⟩)] encP (BIn S) (KeepS S bs) (pieces cv l) w := by
  intro ly J Jx W hW hJ hJx hY h0
  have hold : ∀ k, k < w.heap.size → W.heap[k]? = w.heap[k]? := fun k hk => hW.block k hk
  have hu : ((cv.toNat : Int).toNat.toUInt8) = cv := by simp
  have hcw : ∀ wr : World, (∀ k, S k → wr.heap[k]? = w.heap[k]?) → wr.cell? ⟨bp, 0, none⟩ = some (.slice (some ⟨g, 0, none⟩) 1 d) ∧ wr.cell? ⟨bv, 0, none⟩ = some (.int .i64 0) ∧ wr.cell? ⟨g, 0, none⟩ = some (.int .u8 (cv.toNat : Int)) := fun wr hk =>
    ⟨(World.cell?_of_block (hk bp hSp)).trans h1, (World.cell?_of_block (hk bv hSv)).trans h3, (World.cell?_of_block (hk g hSg)).trans h4⟩
  obtain ⟨c1, c2, c3⟩ := hcw W (fun k hk => hold k (hlt k hk))
  have hstart : SpI S w W bs cv l J [] a l n c := ⟨h0, rfl, (hold bs hbs).trans h2, h5.kept (fun k hk => hold k (hlt k hk)), hn, hc, hm, fun k hk => hold k (hlt k hk)⟩
  clear h1 h2 h3 h4 h5 hW
  refine callsIn_of_wp Tryd.func52 rfl trivial ?_ rfl
  simp only [Tryd.ntmps52, List.size_toArray, List.length_cons, List.length_nil, Nat.reduceAdd, Nat.reduceSub, Array.replicate_succ, Array.replicate_zero, List.push_toArray, List.append_toArray, List.nil_append, List.cons_append]
  gi_wp2
  gi_loopw [7, 8] (fun _ _ wr => ∃ pre a r n c, SpI S w wr bs cv l J pre a r n c) (fun _ _ wr => lenAt bs wr)
  case atStart => exact ⟨[], a, l, n, c, hstart⟩
  case round =>
    clear hstart c1 c2 c3 h0
    obtain ⟨pre, a, r, n, c, K⟩ := hrel
    obtain ⟨c1, c2, c3⟩ := hcw wr K.old
    have hix := index_one a n c g d r (cv.toNat : Int) wr K.len K.inn c3
    rw [hu] at hix
    have hlo := idx_lo r cv
    have hhi := idx_hi r cv
    rw [K.len] at hhi
    have hcap := K.cap
    have hmax := K.max
    have bc := K.box.cell
    have bf := K.box.frozen
    have HK := Lib.hid K
    have HCW := Lib.hid hcw
    have HU := Lib.hid hu
    have HY := Lib.hid hY
    clear hcw hu hold hY
    by_cases hneg : idx r cv = -1
    · obtain ⟨fn, tmps, assign, body, hy, hR⟩ := HY.out pre r [] a wr (by rw [K.ps, pieces_none cv r hneg]) K.inn K.j
      dsimp only [encP] at hy
      rw [K.len] at hy
      rw [hneg] at hix
      have HN := Lib.hid hneg
      clear hneg hlo hhi K
      gi_wp2_with ((refine ⟨trivial, rfl, ?_⟩; (with_reducible refine (callsIn_wide.2 hix).mono ?_); rintro e w1 ⟨rfl, rfl⟩))
      refine ⟨rfl, hR.mono ?_⟩
      rintro e W3 (⟨rfl, hJ3, hk3⟩ | ⟨rfl, hJx3⟩)
      · gi_wp2
        go_end0
        exact ⟨⟨_, rfl⟩, .inl (by rw [HK.out.ps, pieces_none cv r HN.out]; exact hJ3)⟩
      · gi_wp2
        go_end0
        exact ⟨⟨_, rfl⟩, .inr ⟨pre, r, [], by rw [HK.out.ps, pieces_none cv r HN.out], hJx3⟩⟩
    · obtain ⟨i, hi⟩ : ∃ i : Nat, idx r cv = (i : Int) := ⟨(idx r cv).toNat, by omega⟩
      have HI := Lib.hid hi
      have hps := pieces_some cv r i hi
      obtain ⟨fn, tmps, assign, body, hy, hR⟩ := HY.out pre (r.take i) (pieces cv (r.drop (i + 1))) a wr (by rw [K.ps, hps]) (K.inn.take i) K.j
      have hli : (r.take i).length = i := by rw [List.length_take, K.len]; omega
      dsimp only [encP] at hy
      rw [hli] at hy
      have HPS := Lib.hid hps
      rw [hi] at hix hhi
      clear hneg hlo K hi hli hps
      have k0 : decide ((i : Int) < 0) = false := by simp
      have k1 : (i : Int) + 1 ≤ (n : Int) := by omega
      have k2 : (i : Int) ≤ (c : Int) := by omega
      gi_wp2_with ((refine ⟨trivial, rfl, ?_⟩; (with_reducible refine (callsIn_wide.2 hix).mono ?_); rintro e w1 ⟨rfl, rfl⟩))
      refine ⟨rfl, hR.mono ?_⟩
      rintro e W3 (⟨rfl, hJ3, hk3⟩ | ⟨rfl, hJx3⟩)
      · have b3 : Boxed W3 bs 29 (.slice a n c) := (hk3 bs (.inr rfl)).trans HK.out.box
        have o3 : ∀ k, S k → W3.heap[k]? = w.heap[k]? := fun k hk => (hk3 k (.inl hk)).trans (HK.out.old k hk)
        obtain ⟨d1, d2, d3⟩ := HCW.out W3 o3
        have O3 := Lib.hid o3
        have e1 := b3.cell
        have e2 := b3.frozen
        clear o3
        gi_wp2
        refine ⟨⟨pre ++ [r.take i], (if c = i + 1 then a else Option.map (fun x => { block := x.block, off := x.off + (i + 1) }) a), r.drop (i + 1), n - (i + 1), c - (i + 1), ?_⟩, ?_⟩
        · have hle : r.length ≤ c := by rw [HK.out.len]; exact hcap
          have hb := b3.set (.slice (if c = i + 1 then a else Option.map (fun x => { block := x.block, off := x.off + (i + 1) }) a) (n - (i + 1)) (c - (i + 1)))
          have hne : ∀ k, S k → some k ≠ some bs := fun k hk e => hSs (by cases e; exact hk)
          refine ⟨hJ _ _ _ (some bs) hJ3 (grownBy_setCell' W3 bs _) (fun r e => by cases e; rfl), ?_, hb, ?_, ?_, by omega, by omega, ?_⟩
          · rw [HK.out.ps, HPS.out]; simp
          · refine ((HK.out.inn.kept (fun k hk => hk3 k (.inl hk))).dropW (i + 1) c hle).kept (fun k hk => ?_)
            exact Below.heap_setCell _ _ _ k (fun e => hSs (by have e' : k = bs := e; rw [← e']; exact hk))
          · rw [List.length_drop, HK.out.len]
          · intro k hk
            exact (Below.heap_setCell _ _ _ k (fun e => hSs (by have e' : k = bs := e; rw [← e']; exact hk))).trans (O3.out k hk)
        · rw [lenAt_box (b3.set _), lenAt_box HK.out.box]; omega
      · gi_wp2
        refine bodyPost_ret (results_none rfl _ _ _) rfl ?_
        exact ⟨⟨_, rfl⟩, .inr ⟨pre, r.take i, _, by rw [HK.out.ps, HPS.out], hJx3⟩⟩
end Go.Proofs.YtdacigihhbcppaaDoor

