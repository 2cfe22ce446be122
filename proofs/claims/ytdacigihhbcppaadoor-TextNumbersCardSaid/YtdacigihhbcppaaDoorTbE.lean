/-
  The program's Fields: the parts of a line that are no blanks, up to a comment; the line of any bytes.
-/
import Derived.Test.YtdacigihhbcppaaDoorTbD
set_option linter.unusedVariables false
set_option linter.unusedSimpArgs false
namespace Go.Proofs.YtdacigihhbcppaaDoor
open Go.RowKit Go.Shelf
attribute [local go_sem] Oper.semAt_some

theorem str_info : (Tryd.prog.info? 9).map (fun i => (i.zero, i.size, i.bytes)) = some (some (.string ⟨#[]⟩), 1, 16) := by kernel_rfl
def strV (l : List UInt8) : Value := .string ⟨l.toArray⟩
/-- What is not empty. -/
def ne_ (ps : List (List UInt8)) : List (List UInt8) := ps.filter fun p => decide (0 < p.length)
theorem ne_hit (pre : List (List UInt8)) {x : List UInt8} (h : 0 < x.length) : ne_ (pre ++ [x]) = ne_ pre ++ [x] := by simp [ne_, List.filter_append, h]
theorem ne_miss (pre : List (List UInt8)) {x : List UInt8} (h : ¬ 0 < x.length) : ne_ (pre ++ [x]) = ne_ pre := by simp [ne_, List.filter_append, h]
theorem ne_len (pre : List (List UInt8)) : (ne_ pre).length ≤ pre.length := List.length_filter_le _ _
def fieldsV (l : List UInt8) : List (List UInt8) := ne_ (pieces 32 (bef 35 l))
theorem pieces_len (b : UInt8) : ∀ l, (pieces b l).length ≤ l.length + 1
  | [] => by simp [pieces]
  | c :: l => by
    have ih := pieces_len b l
    unfold pieces
    split
    · simp only [List.length_cons]; omega
    · split
      · simp
      · rename_i p ps hp
        rw [hp] at ih
        simp only [List.length_cons] at ih ⊢; omega

theorem ownsRow_less {W : World} {base base' : Nat} {e : TypeId} {size : Nat} {v : Value} {k : Nat} {xs : List Value} (h : W.ownsRow base e size v k xs) (hb : base' ≤ base) : W.ownsRow base' e size v k xs := by
  refine ⟨h.1, ?_⟩
  rcases h.2 with h | ⟨g, cap, cur, h1, h2, h3⟩
  · exact .inl h
  · exact .inr ⟨g, cap, cur, h1, by omega, h3⟩
theorem ownsRow_block {W : World} {base : Nat} {e : TypeId} {size : Nat} {v : Value} {k : Nat} {xs : List Value} (h : W.ownsRow base e size v k xs) : ∀ g, v.ownBlock = some g → base ≤ g ∧ ∃ o : Obj, W.heap[g]? = some o ∧ o.isCells = true := by
  intro g hg
  rcases h.2 with ⟨rfl, _⟩ | ⟨g', cap, cur, rfl, h2, h3, _⟩
  · simp [Value.ownBlock] at hg
  · obtain rfl : g' = g := by simpa [Value.ownBlock] using hg
    exact ⟨h2, _, h3, rfl⟩
/-- What a loop that collects texts keeps: the box holds a list of its own; what lay ahead lies. -/
def Coll (H N B : Nat) (w : World) (f : List (List UInt8) → List (List UInt8)) (pre : List (List UInt8)) (W : World) : Prop :=
  (∃ v, Boxed W B 23 v ∧ W.ownsRow N 9 1 v (f pre).length ((f pre).map strV)) ∧ Below H w W ∧ N ≤ W.heap.size
theorem Coll.minds {H N B bs : Nat} {w : World} {f : List (List UInt8) → List (List UInt8)} (hH : H ≤ w.heap.size) (hbH : H ≤ bs) (hNH : H ≤ N) (hbN : bs < N) (hB : B ≠ bs) : MindsFrom N bs (Coll H N B w f) := by
  rintro s X Y row ⟨⟨v, hv, hr⟩, hb, hs⟩ hg hrow
  refine ⟨⟨v, hv.kept hg (fun e => ?_), hr.kept hg ?_⟩, hb.grown hg (by have := hb.size; omega) (fun k e => ?_), by have := hg.size; omega⟩
  · rcases hrow B e.symm with h | ⟨h1, o, ho, hc⟩
    · exact hB h
    · rw [show X.heap[B]? = _ from hv] at ho; cases ho; cases hc
  · rcases hr.2 with ⟨rfl, _⟩ | ⟨g, cap, cur, rfl, h2, h3, _⟩
    · exact .inl rfl
    · refine .inr fun e => ?_
      rcases hrow g (by simpa [Value.ownBlock] using e.symm) with h | ⟨h1, o, ho, hc⟩
      · omega
      · rw [h3] at ho; cases ho; cases hc
  · rcases hrow k e with h | ⟨h1, _⟩ <;> omega

theorem below_drewN {B : Nat} {a w : World} (h : Below B a w) (q : Nat) : Below B a (w.drewN q) := ⟨h.os, h.tape, h.output, by simpa using h.size, fun k hk => by have := h.block k hk; simpa using this⟩
theorem boxes5 (W : World) (t1 t2 t3 t4 t5 : TypeId) (v1 v2 v3 v4 v5 : Value) (WL : World) (hWL : WL = ((((W.alloc (.cells #[v1] t1)).alloc (.cells #[v2] t2)).alloc (.cells #[v3] t3)).alloc (.cells #[v4] t4)).alloc (.cells #[v5] t5)) :
    Boxed WL W.heap.size t1 v1 ∧ Boxed WL (W.heap.size + 1) t2 v2 ∧ Boxed WL (W.heap.size + 2) t3 v3 ∧ Boxed WL (W.heap.size + 3) t4 v4 ∧ Boxed WL (W.heap.size + 4) t5 v5 ∧ WL.heap.size = W.heap.size + 5 ∧ Below W.heap.size W WL := by
  subst hWL
  refine ⟨((((Boxed.new W t1 v1).alloc _).alloc _).alloc _).alloc _, ?_, ?_, ?_, ?_, by simp, ?_⟩
  · have h := Boxed.new (W.alloc (.cells #[v1] t1)) t2 v2
    rw [World.size_alloc] at h
    exact ((h.alloc _).alloc _).alloc _
  · have h := Boxed.new ((W.alloc (.cells #[v1] t1)).alloc (.cells #[v2] t2)) t3 v3
    rw [World.size_alloc, World.size_alloc] at h
    exact (h.alloc _).alloc _
  · have h := Boxed.new (((W.alloc (.cells #[v1] t1)).alloc (.cells #[v2] t2)).alloc (.cells #[v3] t3)) t4 v4
    rw [World.size_alloc, World.size_alloc, World.size_alloc] at h
    exact h.alloc _
  · have h := Boxed.new ((((W.alloc (.cells #[v1] t1)).alloc (.cells #[v2] t2)).alloc (.cells #[v3] t3)).alloc (.cells #[v4] t4)) t5 v5
    rw [World.size_alloc, World.size_alloc, World.size_alloc, World.size_alloc] at h
    exact h
  · exact (((((Below.refl _ W).alloc (Nat.le_refl _) _).alloc (by simp) _).alloc (by simp; omega) _).alloc (by simp; omega) _).alloc (by simp; omega) _

def RetStrs (w : World) (fs : List (List UInt8)) (e : Ending) (w' : World) : Prop := ∃ v, e = .returned v ∧ w'.ownsRow w.heap.size 9 1 v fs.length (fs.map strV) ∧ Below w.heap.size w w'

set_option maxHeartbeats 4000000 in
set_option maxRecDepth 100000 in
theorem fields_any (l : List UInt8) (hl : l.length ≤ 9223372036854775807) (hb : (bef 35 l).length ≤ 100000) (w : World) : Calls Tryd.prog 14 #[.string ⟨l.toArray⟩] w (RetStrs w (fieldsV l)) := by
  obtain ⟨i0, hi, hz0, hz1, hz2⟩ := info_parts str_info
  have hcv := run_bytes_of_string (P := Tryd.prog) w 9 29 5 ⟨l.toArray⟩ Tryd.underlying9 Tryd.underlying29 Tryd.underlying5
  obtain ⟨C, HC⟩ : ∃ C, Hid (grownCap w (⟨l.toArray⟩ : ByteArray).size 0 5 = C) := ⟨_, rfl⟩
  have hC1 : l.length ≤ C := by rw [← HC.out, ← bsize l]; exact grownCap_ge _ _ _ _
  have hC2 : C ≤ 9223372036854775807 := by
    rw [← HC.out]; exact grownCap_le_maxLen _ _ _ _ (by rw [bsize]; exact hl)
  rw [HC.out, bsize] at hcv
  obtain ⟨T, HT⟩ : ∃ T, Hid ((Obj.cells (bytesRow ⟨l.toArray⟩ C) 5 ((bytesRow ⟨l.toArray⟩ C).size, (bytesRow ⟨l.toArray⟩ C).size + 1)) = T) := ⟨_, rfl⟩
  have hin := BIn.of_row w l C 5 ((bytesRow ⟨l.toArray⟩ C).size, (bytesRow ⟨l.toArray⟩ C).size + 1)
  rw [HT.out] at hcv hin
  have HIN := Lib.hid hin
  clear hin
  obtain ⟨L, HL⟩ : ∃ L, Hid (l.length = L) := ⟨_, rfl⟩
  rw [HL.out] at hcv hl hC1
  refine (callsIn_wide (n := 0)).1 ?_
  refine callsIn_of_wp_marks (n := 0) Tryd.func14 rfl trivial ?_ rfl
  simp only [Tryd.ntmps14, List.size_toArray, List.length_cons, List.length_nil, Nat.reduceAdd, Nat.reduceSub, Array.replicate_succ, Array.replicate_zero, List.push_toArray, List.append_toArray, List.nil_append, List.cons_append]
  gi_wp2_with fail
  obtain ⟨WA, hWA⟩ : ∃ WA, ((w.alloc T).alloc (Obj.cells #[.int .u8 35] 5)).drew = WA := ⟨_, rfl⟩
  rw [hWA]
  have a1 : BIn (· = w.heap.size) WA (some ⟨w.heap.size, 0, none⟩) l := by
    rw [← hWA]
    refine HIN.out.kept (fun k hk => ?_)
    exact Below.heap_alloc (w.alloc T) _ k (by rw [hk]; simp)
  have a2 : WA.cell? ⟨w.heap.size + 1, 0, none⟩ = some (.int .u8 35) := by
    have h := (Boxed.new (w.alloc T) 5 (.int .u8 35)).cell
    rw [World.size_alloc] at h
    rw [← hWA]; exact h
  have a3 : Below w.heap.size w WA := by
    rw [← hWA]
    exact (((Below.refl _ w).alloc (Nat.le_refl _) T).alloc (by simp) _).drew
  have a4 : WA.heap.size = w.heap.size + 2 := by rw [← hWA]; simp
  have hcut := cut_any (some ⟨w.heap.size, 0, none⟩) L C (w.heap.size + 1) 1 l 35 WA HL.out hC1 hC2 a1 a2
  rw [show ((35 : Int).toNat.toUInt8) = 35 from rfl] at hcut
  have A3 := Lib.hid a3
  have A4 := Lib.hid a4
  have A1 := Lib.hid a1
  clear hWA a1 a2 a3 a4 hcv
  refine ⟨trivial, rfl, (callsIn_wide.2 hcut).mono ?_⟩
  rintro e w1 ⟨v2, v3, rfl, q, rfl⟩
  obtain ⟨m, HM⟩ : ∃ m, Hid ((bef 35 l).length = m) := ⟨_, rfl⟩
  rw [HM.out] at hb ⊢
  obtain ⟨W1, hW1⟩ : ∃ W1, WA.drewN q = W1 := ⟨_, rfl⟩
  rw [hW1]
  have b1 : Hid (BIn (· = w.heap.size) W1 (some ⟨w.heap.size, 0, none⟩) (bef 35 l)) := by
    unfold Hid
    obtain ⟨k, hk⟩ := bef_take 35 l
    rw [← hW1, hk]
    exact (A1.out.take k).kept (fun _ _ => by simp)
  have b2 : Hid (Below w.heap.size w W1) := by
    unfold Hid; rw [← hW1]; exact below_drewN A3.out q
  have b3 : Hid (W1.heap.size = w.heap.size + 2) := by
    unfold Hid; rw [← hW1]; simpa using A4.out
  have b4 : m ≤ C := by
    have := bef_len 35 l; rw [HM.out, HL.out] at this; omega
  clear hW1 hcut A1 A3 A4
  gi_wp2_with ((refine ⟨trivial, rfl, ?_⟩; (with_reducible refine (callsIn_wide.2 (splitSeq_any _ _ _ _ _ _ _)).mono ?_); rintro e w2 ⟨rfl, rfl⟩))
  obtain ⟨WL, hWL⟩ : ∃ WL, WL = ((((W1.alloc (.cells #[.slice none 0 0] 23)).alloc (.cells #[.int .u8 32] 5)).alloc (.cells #[.slice (some { block := w.heap.size, off := 0 }) m C] 29)).alloc (.cells #[.slice (some { block := W1.heap.size + 1, off := 0 }) 1 1] 29)).alloc (.cells #[.int .i64 0] 3) := ⟨_, rfl⟩
  rw [← hWL]
  obtain ⟨f1, f2, f3, f4, f5, f6, f7⟩ := boxes5 W1 _ _ _ _ _ _ _ _ _ _ WL hWL
  clear hWL
  have hK := b3.out
  have f8 : Below w.heap.size w WL := b2.out.trans (f7.mono (by omega))
  have f9 : BIn (· = w.heap.size) WL (some ⟨w.heap.size, 0, none⟩) (bef 35 l) := b1.out.kept (fun k hk => f7.block k (by omega))
  obtain ⟨K, HK⟩ : ∃ K, W1.heap.size = K := ⟨_, rfl⟩
  rw [HK] at f1 f2 f3 f4 f5 f6 f7 hK ⊢
  clear b1 b2 b3 HK
  refine range_box (gf := 52) (b := K + 2) (lb := #[.pointer (some ⟨K + 3, 0, none⟩), .pointer (some ⟨K + 2, 0, none⟩), .pointer (some ⟨K + 4, 0, none⟩)]) rfl (enters_of Tryd.func52 (by kernel_rfl) rfl)
    (split_iter (S := fun k => k = w.heap.size ∨ k = K + 1 ∨ k = K + 3 ∨ k = K + 4) WL (K + 2) (K + 3) (K + 4) (K + 1) 1 m C (some ⟨w.heap.size, 0, none⟩) (bef 35 l) 32 (.inr (.inr (.inl rfl))) (.inr (.inr (.inr rfl))) (.inr (.inl rfl)) (fun h => by rcases h with h | h | h | h <;> omega) (fun k hk => by rcases hk with h | h | h | h <;> omega) (by omega)
      f4.cell f3 f5.cell f2.cell HM.out b4 hC2 (f9.weak (fun g hg => .inl hg)))
    (by omega) (fun h1 h2 k hk => (h2 k hk).trans (h1 k hk)) (fun W l o o' h1 h2 h3 k hk => World.putObj_heap_other (by rcases hk with (h | h | h | h) | h <;> omega)) (Below.refl _ _) (fun _ _ => rfl)
    (fun p x W l o o' h1 h2 h3 h4 => h4.kept (fun k hk => World.putObj_heap_other (by rcases hk with h | h | h | h <;> omega)))
    (Coll w.heap.size (K + 5) K w ne_) (fun _ _ => False)
    (by rw [f6]; exact Coll.minds (Nat.le_refl _) (by omega) (by omega) (by omega) (by omega)) (fun _ _ _ _ h _ _ => h)
    ⟨⟨_, f1, World.ownsRow_nil _ _ _ _⟩, f8, by omega⟩
    (fun p x => { tmps := #[Value.string { data := l.toArray }, undef, Value.slice none 0 0, Value.slice (some { block := w.heap.size, off := 0 }) m C, v2, v3, Value.pointer (some { block := K, off := 0 }), .slice p x.length x.length,
          Value.tuple #[Value.slice (some { block := w.heap.size, off := 0 }) m C, v2, v3],
          Value.string { data := l.toArray }, Value.slice (some { block := w.heap.size, off := 0 }) L C,
          Value.slice (some { block := w.heap.size + 1, off := 0 }) 1 1,
          Value.tuple #[Value.slice (some { block := w.heap.size, off := 0 }) m C, v2, v3],
          Value.slice (some { block := w.heap.size, off := 0 }) m C, v2, v3,
          Value.slice (some { block := w.heap.size, off := 0 }) m C,
          Value.slice (some { block := K + 1, off := 0 }) 1 1,
          Value.func (Fn.func 52) #[] #[Value.pointer (some { block := K + 1 + 1 + 1, off := 0 }), Value.pointer (some { block := K + 1 + 1, off := 0 }), Value.pointer (some { block := K + 1 + 1 + 2, off := 0 })],
          .slice p x.length x.length, undef, undef, undef, undef, undef, undef, undef, undef, undef], defers := [] }) ?assign ?body ?done ?stop
  case assign =>
    clear hK f1 f2 f3 f4 f5 f6 f7 f8 f9
    intro l p x W K hK
    dsimp only [encP]
    gi_wp2
    exact hK
  case body =>
    have HK2 := Lib.hid hK
    clear hK f1 f2 f3 f4 f5 f6 f7 f8 f9
    rintro lr pre p x post W hys hx ⟨⟨v, hv, hrow⟩, hB, hs⟩
    have hc := hv.cell
    have hf := hv.frozen
    have hpl : (ne_ pre).length ≤ m := by
      have h1 := pieces_len 32 (bef 35 l)
      rw [hys, HM.out] at h1
      have h2 := ne_len pre
      simp only [List.length_append, List.length_cons] at h1
      omega
    have hM1 : (ne_ pre).length + 1 ≤ maxLen := by unfold maxLen; omega
    have hM2 : ((ne_ pre).length + 1) * 16 ≤ 140737488355328 := by omega
    have hcvx := hx.convert x.length x.length rfl
    obtain ⟨X, HX⟩ : ∃ X, Hid (x.length = X) := ⟨_, rfl⟩
    rw [HX.out] at hcvx ⊢
    have HYS := Lib.hid hys
    clear hys
    by_cases h0 : 0 < X
    · gi_wp2_with (gi_at_builtin; refine wpListIn_append_own _ rfl _ _ 23 rfl (K + 5) 9 i0 (.string ⟨#[]⟩) 1 16 Tryd.underlying23 hi hz0 hz1 hz2 rfl (by decide) _ _ _ rfl (hrow.alloc _) ⟨W.heap.size, 0, none⟩ 1 1 [.string ⟨x.toArray⟩] rfl rfl (cell_one_new _ _ _) (by simp [Value.oneCell']) hM1 hM2 (by simp; omega) ?_; intro v' w1 hown' hgrow _; obtain ⟨g', cap', rfl⟩ := ownsRow_succ hown'; obtain ⟨hv1, hv2, hr2, hk2, hb2⟩ := hv.appended (n₀ := w.heap.size) (by decide) (ownsRow_less hrow (by have := HK2.out; omega)) hB.size (by have := HK2.out; omega) (ownsRow_less hown' (by have := HK2.out; omega)) hgrow; have hc1 := hv1.cell; have hf1 := hv1.frozen)
      have hne := ne_hit pre (x := x) (by rw [HX.out]; exact h0)
      refine ⟨hk2.from _, ?_, ⟨⟨_, hv2, ?_⟩, hB.trans hb2, Nat.le_trans hs hb2.size⟩⟩
      · intro k hk
        have hk5 : k < K + 5 ∧ k ≠ K := by have := HK2.out; rcases hk with (h | h | h | h) | h <;> omega
        refine (Below.heap_setCell _ _ _ k (fun e => hk5.2 e)).trans ((hgrow.block k (by simp; omega) (fun e => ?_)).trans (Below.heap_alloc W _ k (by omega)))
        have := (ownsRow_block hrow k e.symm).1
        omega
      · rw [hne]
        have h := hown'.kept (grownBy_setCell' w1 K (.slice (some ⟨g', 0, none⟩) ((ne_ pre).length + 1) cap')) (.inr (hv1.not_row (by decide) hown').symm)
        simpa [strV] using h
    · gi_wp2_with fail
      exact ⟨KeepsFrom.refl _ _, fun k _ => rfl, ⟨⟨v, hv, by rw [ne_miss pre (by rw [HX.out]; exact h0)]; exact hrow⟩, hB, hs⟩⟩
  case done =>
    have HK2 := Lib.hid hK
    have HF6 := Lib.hid f6
    clear hK f1 f2 f3 f4 f5 f6 f7 f8 f9
    rintro D W hD ⟨⟨v, hv, hrow⟩, hB, hs⟩ hKD
    have hc := hv.cell
    gi_wp2
    refine ⟨by simp, .inl ⟨_, _, rfl, run_takeDeferred hKD, ?_⟩⟩
    have h1 := HK2.out
    have h2 := HF6.out
    exact ⟨_, results_tmp rfl _ _ _, v, rfl, ownsRow_putObj (ownsRow_less hrow (by omega)) _ hKD rfl, hB.trans (belowK_b (w := w) (Nat.le_refl _) W D _ _ (by omega) hKD rfl rfl)⟩
  case stop =>
    intro D pre x post W _ _ h _
    exact h.elim
end Go.Proofs.YtdacigihhbcppaaDoor

