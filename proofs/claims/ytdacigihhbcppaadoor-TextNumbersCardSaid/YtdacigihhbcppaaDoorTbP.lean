/-
  The program's Lines, at every string.
-/
import Derived.Test.YtdacigihhbcppaaDoorTbO
set_option linter.unusedVariables false
set_option linter.unusedSimpArgs false
namespace Go.Proofs.YtdacigihhbcppaaDoor
open Go.RowKit Go.Shelf
attribute [local go_sem] Oper.semAt_some

def linesE (l : List UInt8) : Int := if 20000 < l.length then 10 else if l.all plOk = true then (if 1000 < (lp l).length then 10 else 0) else 1
def linesL (l : List UInt8) : List (List UInt8) := if linesE l = 0 then (lp l).map trim else []
def RetLn (w : World) (ls : List (List UInt8)) (err : Int) (e : Ending) (w' : World) : Prop := ∃ v, e = .returned (.tuple #[v, .int .i64 err]) ∧ w'.ownsRow w.heap.size 9 1 v ls.length (ls.map strV) ∧ Below w.heap.size w w'
theorem bx2 (w : World) (t u : TypeId) (x y : Value) : Boxed ((w.alloc (.cells #[x] t)).alloc (.cells #[y] u)) w.heap.size t x ∧ Boxed ((w.alloc (.cells #[x] t)).alloc (.cells #[y] u)) (w.heap.size + 1) u y := by
  refine ⟨(Boxed.new w t x).alloc _, ?_⟩
  have h := Boxed.new (w.alloc (.cells #[x] t)) u y
  rwa [World.size_alloc] at h
set_option maxHeartbeats 4000000 in
set_option maxRecDepth 100000 in
theorem lines_long (l : List UInt8) (h : 20000 < l.length) (w : World) : Calls Tryd.prog 11 #[.string ⟨l.toArray⟩] w (RetLn w [] 10) := by
  have hsz := bsize l
  obtain ⟨L, HL⟩ : ∃ L, Hid (l.length = L) := ⟨_, rfl⟩
  rw [HL.out] at hsz h
  have q1 : (20000 : Int) < (L : Int) := by omega
  go_enter Tryd.func11, Tryd.ntmps11
  go_wp2_with fail
  refine bodyPost_ret (v := .tuple #[.slice none 0 0, .int .i64 10]) (by simp [results, Tryd.results11, go_sem]) rfl ?_
  refine ⟨_, rfl, World.ownsRow_nil _ _ _ _, ?_⟩
  exact ((Below.refl _ w).alloc (Nat.le_refl _) _).alloc (by simp) _
set_option maxHeartbeats 4000000 in
set_option maxRecDepth 100000 in
theorem lines_bad (l : List UInt8) (h : l.length ≤ 20000) (hp : l.all plOk = false) (w : World) : Calls Tryd.prog 11 #[.string ⟨l.toArray⟩] w (RetLn w [] 1) := by
  have hsz := bsize l
  obtain ⟨C, T, hC1, hC2, hcv, hcell⟩ := conv_facts l (by omega) ((w.alloc (.cells #[.slice none 0 0] 23)).alloc (.cells #[.int .i64 0] 24))
  obtain ⟨W0, hW0⟩ : ∃ W0, (w.alloc (.cells #[.slice none 0 0] 23)).alloc (.cells #[.int .i64 0] 24) = W0 := ⟨_, rfl⟩
  obtain ⟨o1, o2⟩ := bx2 w 23 24 (.slice none 0 0) (.int .i64 0)
  have hB0 : Below w.heap.size w W0 := by rw [← hW0]; exact ((Below.refl _ w).alloc (Nat.le_refl _) _).alloc (by simp) _
  have hs0 : W0.heap.size = w.heap.size + 2 := by rw [← hW0]; simp
  rw [hW0] at o1 o2 hcv hcell
  have hin : BIn (· = W0.heap.size) (W0.alloc T).drew (some ⟨W0.heap.size, 0, none⟩) l := .inr ⟨_, 0, rfl, rfl, fun i hi => by rw [Nat.zero_add]; exact hcell i hi⟩
  have hpl := isPlain_any (some ⟨W0.heap.size, 0, none⟩) l.length C l (W0.alloc T).drew hin rfl hC1 (by omega)
  rw [hp] at hpl
  obtain ⟨L, HL⟩ : ∃ L, Hid (l.length = L) := ⟨_, rfl⟩
  rw [HL.out] at hsz h hpl hcv
  have q1 : decide ((20000 : Int) < (L : Int)) = false := by simp; omega
  have p1 := (o1.alloc T).cell
  have p2 := (o2.alloc T).cell
  have r1 := (o1.alloc T).frozen
  have r2 := (o2.alloc T).frozen
  have HS0 := Lib.hid hs0
  have HB0 := Lib.hid hB0
  have HO1 := Lib.hid (o1.alloc T)
  have HO2 := Lib.hid (o2.alloc T)
  clear hin hcell hp hs0 hB0 o1 o2
  go_enter Tryd.func11, Tryd.ntmps11
  go_upto_region 3 with fail
  clear hW0
  go_wp2_with (go_at_call 26; (with_reducible refine hpl.mono ?_); rintro e w1 ⟨rfl, rfl⟩)
  have b1 := (HO1.out.set (.slice none 0 0)).other (B' := w.heap.size + 1) (by omega) (.int .i64 1)
  have b2 := (HO2.out.kept (grownBy_setCell' _ w.heap.size (.slice none 0 0)) (by simp)).set (.int .i64 1)
  have bel : Below w.heap.size w (((W0.alloc T).setCell ⟨w.heap.size, 0, none⟩ (.slice none 0 0)).setCell ⟨w.heap.size + 1, 0, none⟩ (.int .i64 1)) :=
    ((HB0.out.alloc (by have := HS0.out; omega) T).setCell (p := ⟨w.heap.size, 0, none⟩) (Nat.le_refl _) _).setCell (p := ⟨w.heap.size + 1, 0, none⟩) (Nat.le_succ _) _
  obtain ⟨Wf, hWf⟩ : ∃ Wf, Wf = (((W0.alloc T).setCell ⟨w.heap.size, 0, none⟩ (.slice none 0 0)).setCell ⟨w.heap.size + 1, 0, none⟩ (.int .i64 1)) := ⟨_, rfl⟩
  rw [← hWf] at b1 b2 bel ⊢
  have c1 := b1.cell
  have c2 := b2.cell
  clear hWf
  refine bodyPost_ret (v := .tuple #[.slice none 0 0, .int .i64 1]) (by simp [results, Tryd.results11, go_sem, c1, c2]) rfl ?_
  exact ⟨_, rfl, World.ownsRow_nil _ _ _ _, bel.drew⟩

theorem lp_len : ∀ l, ∀ x ∈ lp l, x.length ≤ l.length
  | [], x, h => by simp [lp] at h
  | c :: r, x, h => by
    unfold lp at h
    split at h
    · rcases List.mem_cons.1 h with rfl | h
      · simp
      · have := lp_len r x h; simp only [List.length_cons]; omega
    · split at h
      · simp at h; subst h; simp
      · rename_i p ps hp
        rcases List.mem_cons.1 h with rfl | h
        · have := lp_len r p (by rw [hp]; simp); simp only [List.length_cons]; omega
        · have := lp_len r x (by rw [hp]; exact List.mem_cons_of_mem _ h); simp only [List.length_cons]; omega
theorem lp_mem_len {l : List UInt8} {pre : List (List UInt8)} {x : List UInt8} {post : List (List UInt8)} (h : lp l = pre ++ x :: post) : x.length ≤ l.length :=
  lp_len l x (by rw [h]; simp)
theorem BIn.trim {S : Nat → Prop} {w : World} {a : Option Addr} {x : List UInt8} (h : BIn S w a x) : BIn S w a (trim x) := by
  unfold Go.Proofs.YtdacigihhbcppaaDoor.trim
  split
  · exact h.take _
  · exact h
/-- What the loop over the lines keeps. -/
def LnJ (H K : Nat) (w : World) (pre : List (List UInt8)) (W : World) : Prop :=
  Coll H (K + 2) K w (fun ls => ls.map trim) pre W ∧ Boxed W H 23 (.slice none 0 0) ∧ Boxed W (H + 1) 24 (.int .i64 0) ∧ pre.length ≤ 1000
def LnX (H : Nat) (w : World) (pre : List (List UInt8)) (W : World) : Prop :=
  Boxed W H 23 (.slice none 0 0) ∧ Boxed W (H + 1) 24 (.int .i64 10) ∧ Below H w W ∧ 1000 < pre.length
theorem boxed_minds {X Y : World} {B N b : Nat} {t : TypeId} {v : Value} {row : Option Nat} (h : Boxed X B t v) (hg : X.grownBy Y row) (hb : B ≠ b) (hrow : ∀ r, row = some r → r = b ∨ (N ≤ r ∧ ∃ o : Obj, X.heap[r]? = some o ∧ o.isCells = false)) : Boxed Y B t v := by
  refine h.kept hg (fun e => ?_)
  rcases hrow B e.symm with h1 | ⟨_, o, ho, hc⟩
  · exact hb h1
  · rw [show X.heap[B]? = _ from h] at ho; cases ho; cases hc
theorem LnJ.minds {H K : Nat} {w : World} (hH : H ≤ w.heap.size) (hK : H + 2 ≤ K) : MindsFrom (K + 2) (K + 1) (LnJ H K w) := by
  rintro s X Y row ⟨h1, h2, h3, h4⟩ hg hrow
  exact ⟨Coll.minds hH (by omega) (by omega) (by omega) (by omega) s X Y row h1 hg hrow, boxed_minds h2 hg (by omega) hrow, boxed_minds h3 hg (by omega) hrow, h4⟩
theorem LnX.minds {H K : Nat} {w : World} (hH : H ≤ w.heap.size) (hK : H + 2 ≤ K) : MindsFrom (K + 2) (K + 1) (LnX H w) := by
  rintro s X Y row ⟨h2, h3, h1, h4⟩ hg hrow
  exact ⟨boxed_minds h2 hg (by omega) hrow, boxed_minds h3 hg (by omega) hrow, h1.grown hg (by have := h1.size; omega) (fun k e => by rcases hrow k e with h | ⟨h, _⟩ <;> omega), h4⟩
set_option maxHeartbeats 8000000 in
set_option maxRecDepth 100000 in
theorem lines_good (l : List UInt8) (h : l.length ≤ 20000) (hp : l.all plOk = true) (w : World) : Calls Tryd.prog 11 #[.string ⟨l.toArray⟩] w (RetLn w (linesL l) (linesE l)) := by
  have hsz := bsize l
  obtain ⟨i0, hi, hz0, hz1, hz2⟩ := info_parts str_info
  obtain ⟨C, T, hC1, hC2, hcv, hcell⟩ := conv_facts l (by omega) ((w.alloc (.cells #[.slice none 0 0] 23)).alloc (.cells #[.int .i64 0] 24))
  obtain ⟨W0, hW0⟩ : ∃ W0, (w.alloc (.cells #[.slice none 0 0] 23)).alloc (.cells #[.int .i64 0] 24) = W0 := ⟨_, rfl⟩
  obtain ⟨o1, o2⟩ := bx2 w 23 24 (.slice none 0 0) (.int .i64 0)
  have hB0 : Below w.heap.size w W0 := by rw [← hW0]; exact ((Below.refl _ w).alloc (Nat.le_refl _) _).alloc (by simp) _
  have hs0 : W0.heap.size = w.heap.size + 2 := by rw [← hW0]; simp
  rw [hW0] at o1 o2 hcv hcell
  have hin : BIn (· = w.heap.size + 2) (W0.alloc T).drew (some ⟨W0.heap.size, 0, none⟩) l := .inr ⟨_, 0, hs0, rfl, fun i hi => by rw [Nat.zero_add]; exact hcell i hi⟩
  have hpl := isPlain_any (some ⟨W0.heap.size, 0, none⟩) l.length C l (W0.alloc T).drew hin rfl hC1 (by omega)
  rw [hp] at hpl
  have hE : linesE l = if 1000 < (lp l).length then 10 else 0 := by unfold linesE; rw [if_neg (by omega), if_pos hp]
  obtain ⟨L, HL⟩ : ∃ L, Hid (l.length = L) := ⟨_, rfl⟩
  rw [HL.out] at hsz h hpl hcv hC1
  have q1 : decide ((20000 : Int) < (L : Int)) = false := by simp; omega
  have HS0 := Lib.hid hs0
  have HB0 := Lib.hid hB0
  have HO1 := Lib.hid (o1.alloc T)
  have HO2 := Lib.hid (o2.alloc T)
  have HIN := Lib.hid hin
  have HE := Lib.hid hE
  clear hin hcell hp hs0 hB0 o1 o2 hE
  refine (callsIn_wide (n := 0)).1 ?_
  refine callsIn_of_wp_marks (n := 0) Tryd.func11 rfl trivial ?_ rfl
  simp only [Tryd.ntmps11, List.size_toArray, List.length_cons, List.length_nil, Nat.reduceAdd, Nat.reduceSub, Array.replicate_succ, Array.replicate_zero, List.push_toArray, List.append_toArray, List.nil_append, List.cons_append]
  gi_wp2_with fail
  clear hW0
  obtain ⟨W1, hW1⟩ : ∃ W1, (W0.alloc T).drew = W1 := ⟨_, rfl⟩
  have b1 : Hid (Boxed W1 w.heap.size 23 (.slice none 0 0)) := by unfold Hid; rw [← hW1]; exact HO1.out
  have b2 : Hid (Boxed W1 (w.heap.size + 1) 24 (.int .i64 0)) := by unfold Hid; rw [← hW1]; exact HO2.out
  have b3 : Hid (BIn (· = w.heap.size + 2) W1 (some ⟨W0.heap.size, 0, none⟩) l) := by unfold Hid; rw [← hW1]; exact HIN.out
  have b4 : Hid (Below w.heap.size w W1) := by unfold Hid; rw [← hW1]; exact (HB0.out.alloc (by have := HS0.out; omega) T).drew
  have b5 : Hid (W1.heap.size = w.heap.size + 3) := by unfold Hid; rw [← hW1]; have := HS0.out; simp; omega
  rw [hW1] at hpl ⊢
  clear hW1 HO1 HO2 HIN
  refine ⟨trivial, rfl, (callsIn_wide.2 hpl).mono ?_⟩
  rintro e w1 ⟨rfl, rfl⟩
  gi_wp2_with ((refine ⟨trivial, rfl, ?_⟩; (with_reducible refine (callsIn_wide.2 (blines_any _ _ _ _)).mono ?_); rintro e w2 ⟨rfl, rfl⟩))
  obtain ⟨K, HK⟩ : ∃ K, W1.heap.size = K := ⟨_, rfl⟩
  obtain ⟨Tb, HTb⟩ : ∃ Tb, Hid (W0.heap.size = Tb) := ⟨_, rfl⟩
  have hTb : Hid (Tb = w.heap.size + 2) := by unfold Hid; rw [← HTb.out]; exact HS0.out
  have f1 := Boxed.new W1 23 (.slice none 0 0)
  have f2 := Boxed.new (W1.alloc (.cells #[.slice none 0 0] 23)) 29 (.slice (some ⟨Tb, 0, none⟩) L C)
  have f3 := f1.alloc (.cells #[.slice (some ⟨Tb, 0, none⟩) L C] 29)
  have f7 : Below W1.heap.size W1 ((W1.alloc (.cells #[.slice none 0 0] 23)).alloc (.cells #[.slice (some ⟨Tb, 0, none⟩) L C] 29)) := ((Below.refl _ W1).alloc (Nat.le_refl _) _).alloc (by simp) _
  have f6 : ((W1.alloc (.cells #[.slice none 0 0] 23)).alloc (.cells #[.slice (some ⟨Tb, 0, none⟩) L C] 29)).heap.size = W1.heap.size + 2 := by simp
  rw [World.size_alloc] at f2
  have hK : K = w.heap.size + 3 := by rw [← HK]; exact b5.out
  have b3' := b3.out
  rw [HTb.out] at b3' ⊢
  obtain ⟨WL, hWL⟩ : ∃ WL, WL = (W1.alloc (.cells #[.slice none 0 0] 23)).alloc (.cells #[.slice (some ⟨Tb, 0, none⟩) L C] 29) := ⟨_, rfl⟩
  rw [← hWL] at f2 f3 f6 f7 ⊢
  have f8 : Below w.heap.size w WL := b4.out.trans (f7.mono (by omega))
  have g1 : Boxed WL w.heap.size 23 (.slice none 0 0) := (f7.block _ (by omega)).trans b1.out
  have g2 : Boxed WL (w.heap.size + 1) 24 (.int .i64 0) := (f7.block _ (by omega)).trans b2.out
  have f9 : BIn (· = w.heap.size + 2) WL (some ⟨Tb, 0, none⟩) l := b3'.kept (fun k hk => f7.block k (by omega))
  clear hWL f1 b3' b1 b2 b3 b4 b5
  rw [HK] at f2 f3 f6 f7 ⊢
  clear HK
  refine range_box (gf := 40) (b := K + 1) (lb := #[.pointer (some ⟨K + 1, 0, none⟩)]) rfl (enters_of Tryd.func40 (by kernel_rfl) rfl)
    (lines_iter (S := fun k => k = w.heap.size + 2) WL (K + 1) L C (some ⟨Tb, 0, none⟩) l (by omega) (fun k hk => by omega) (by omega) f2 HL.out hC1 hC2 f9)
    (by omega) (fun h1 h2 k hk => (h2 k hk).trans (h1 k hk)) (fun W l o o' h1 h2 h3 k hk => World.putObj_heap_other (by omega)) (Below.refl _ _) (fun _ _ => rfl)
    (fun p x W l o o' h1 h2 h3 h4 => h4.kept (fun k hk => World.putObj_heap_other (by omega)))
    (LnJ w.heap.size K w) (LnX w.heap.size w)
    (by rw [f6]; exact LnJ.minds (Nat.le_refl _) (by omega)) (by rw [f6]; exact LnX.minds (Nat.le_refl _) (by omega))
    ⟨⟨⟨_, f3, World.ownsRow_nil _ _ _ _⟩, f8, by omega⟩, g1, g2, by simp⟩
    (fun p x => { tmps := #[Value.string { data := l.toArray }, undef, Value.pointer (some { block := w.heap.size, off := 0 }),
          Value.pointer (some { block := w.heap.size + 1, off := 0 }),
          Value.slice (some { block := Tb, off := 0 }) L C,
          Value.pointer (some { block := K, off := 0 }), .slice p x.length x.length, Value.string { data := l.toArray },
          Value.int IntKind.i64 L, Value.bool false, Value.string { data := l.toArray },
          Value.slice (some { block := Tb, off := 0 }) L C, Value.slice (some { block := Tb, off := 0 }) L C, Value.bool true, Value.bool false,
          Value.slice (some { block := Tb, off := 0 }) L C, Value.func (Fn.func 40) #[] #[Value.pointer (some { block := K + 1, off := 0 })],
          .slice p x.length x.length, undef, undef, undef, undef, undef, undef, undef, undef, undef, undef, undef], defers := [] }) ?assign ?body ?done ?stop
  case assign =>
    clear hK f2 f3 f6 f7 f8 f9 g1 g2
    intro l p x W K hK
    dsimp only [encP]
    gi_wp2
    exact hK
  case body =>
    have HK2 := Lib.hid hK
    have HF6 := Lib.hid f6
    clear hK f2 f3 f6 f7 f8 f9 g1 g2
    rintro lr pre p x post W hys hx ⟨⟨⟨v, hv, hrow⟩, hB, hs⟩, g1, g2, hlen⟩
    obtain ⟨av, cv, rfl, _⟩ := SIn.of_owns hrow
    simp only [List.length_map] at hrow hv
    have hc := hv.cell
    have hf := hv.frozen
    have c1 := g1.cell
    have c2 := g2.cell
    have d1 := g1.frozen
    have d2 := g2.frozen
    obtain ⟨k, HKK⟩ : ∃ k, Hid (pre.length = k) := ⟨_, rfl⟩
    rw [HKK.out] at hrow hv hc hlen
    have HYS := Lib.hid hys
    clear hys
    by_cases h1000 : k = 1000
    · have q2 : ((k : Int) == 1000) = true := by simp; omega
      have h1001 : Hid (1000 < (pre ++ [x]).length) := by unfold Hid; rw [List.length_append, HKK.out, List.length_singleton]; omega
      clear h1000
      gi_wp2_with fail
      refine ⟨((KeepsOthers.setCell _ _ _).trans (KeepsOthers.setCell _ _ _)).from _, (g1.set (.slice none 0 0)).other (by omega) (.int .i64 10), ?_, ?_, h1001.out⟩
      · exact (g2.kept (grownBy_setCell' W w.heap.size (.slice none 0 0)) (by simp)).set (.int .i64 10)
      · exact (hB.setCell (p := ⟨w.heap.size, 0, none⟩) (Nat.le_refl _) _).setCell (p := ⟨w.heap.size + 1, 0, none⟩) (Nat.le_succ _) _
    · have q2 : ((k : Int) == 1000) = false := by simp; omega
      -- the region
      gi_wp2_with fail
      have hM1 : k + 1 ≤ maxLen := by unfold maxLen; omega
      have hM2 : (k + 1) * 16 ≤ 140737488355328 := by omega
      have hxk := hx.kept (w' := (W.alloc (.cells #[.int .u8 10] 5)).drew) (fun q hq => Below.heap_alloc W _ q (by have := HK2.out; omega))
      have hsep : (W.alloc (.cells #[.int .u8 10] 5)).drew.cell? ⟨W.heap.size, 0, none⟩ = some (.int .u8 10) := (Boxed.new W 5 (.int .u8 10)).cell
      have hxl : x.length ≤ 9223372036854775807 := by
        have h1 := lp_mem_len HYS.out
        rw [HL.out] at h1; omega
      have hts := trimSuffix_any p x.length x.length W.heap.size 1 x _ hxk rfl (Nat.le_refl _) hxl hsep
      have htc := (BIn.trim hxk).convert (trim x).length x.length rfl
      have hnrA := hv.not_row (by decide) hrow
      have hrowB := ownsRow_block hrow
      obtain ⟨A1, hA1⟩ : ∃ A1, A1 = Obj.cells #[.int .u8 10] 5 := ⟨_, rfl⟩
      obtain ⟨A2, hA2⟩ : ∃ A2, A2 = Obj.cells #[.string ⟨(trim x).toArray⟩] 9 := ⟨_, rfl⟩
      have hvA : Boxed ((W.alloc A1).alloc A2).drew K 23 (.slice av k cv) := (hv.alloc A1).alloc A2
      have hrowA : ((W.alloc A1).alloc A2).drew.ownsRow (K + 2) 9 1 (.slice av k cv) k ((pre.map trim).map strV) := (hrow.alloc A1).alloc A2
      have hcellA : ∀ (j : Nat) (u : Value), [Value.string ⟨(trim x).toArray⟩][j]? = some u → ((W.alloc A1).alloc A2).drew.cell? ((⟨W.heap.size + 1, 0, none⟩ : Addr).add j) = some u := by
        intro j u hj
        have h := cell_one_new (W.alloc A1) (.string ⟨(trim x).toArray⟩) 9 j u hj
        rw [World.size_alloc, ← hA2] at h
        exact h
      have hEND : Hid (∀ (v' : Value) (w1 : World), (∃ g' cap', v' = .slice (some ⟨g', 0, none⟩) (k + 1) cap') → w1.ownsRow (K + 2) 9 1 v' (k + 1) ((pre.map trim).map strV ++ [.string ⟨(trim x).toArray⟩]) → ((W.alloc A1).alloc A2).drew.grownBy w1 (Value.slice av k cv).ownBlock →
          KeepsFrom WL.heap.size W (w1.setCell ⟨K, 0, none⟩ v') ∧ KeepS (fun q => q = w.heap.size + 2) (K + 1) W (w1.setCell ⟨K, 0, none⟩ v') ∧ LnJ w.heap.size K w (pre ++ [x]) (w1.setCell ⟨K, 0, none⟩ v')) := by
        intro v' w1 _ ho hg
        have hk := HK2.out
        have h6 := HF6.out
        have hall : ∀ q, q < W.heap.size → some q ≠ (Value.slice av k cv).ownBlock → q ≠ K → (w1.setCell ⟨K, 0, none⟩ v').heap[q]? = W.heap[q]? := fun q h1 h2 h3 =>
          (Below.heap_setCell _ _ _ q (fun e => h3 e)).trans ((hg.block q (by simp; omega) h2).trans ((Below.heap_alloc (W.alloc A1) A2 q (by simp; omega)).trans (Below.heap_alloc W A1 q h1)))
        have hsz : W.heap.size ≤ (w1.setCell ⟨K, 0, none⟩ v').heap.size := by
          have h1 := hg.size
          have h2 : (w1.setCell ⟨K, 0, none⟩ v').heap.size = w1.heap.size := Array.size_modify
          simp at h1; omega
        have hlow : ∀ q, q < K + 2 → some q ≠ (Value.slice av k cv).ownBlock := fun q h1 e => by have := (hrowB q e.symm).1; omega
        have hv1 := hvA.kept hg hnrA
        refine ⟨⟨hsz, fun q o h1 h2 h3 => ?_⟩, fun q hq => hall q (by rcases hq with h | h <;> omega) (hlow q (by rcases hq with h | h <;> omega)) (by rcases hq with h | h <;> omega), ⟨⟨_, hv1.set v', ?_⟩, ?_, by omega⟩, ?_, ?_, ?_⟩
        · rw [hall q (Array.getElem?_eq_some_iff.1 h2).1 (fun e => ?_) (fun e => ?_)]; exact h2
          · obtain ⟨_, o', h4, h5⟩ := hrowB q e.symm
            rw [h2] at h4; cases h4; rw [h3] at h5; cases h5
          · subst e; rw [show W.heap[q]? = _ from hv] at h2; cases h2; cases h3
        · have h := ho.kept (grownBy_setCell' w1 K v') (.inr (hv1.not_row (by decide) ho).symm)
          simpa [strV, HKK.out] using h
        · exact (((((hB.alloc (by have := hB.size; omega) A1).alloc (by have := hB.size; simp; omega) A2).drew).grown hg (by simp; omega) (fun q e => by have := (hrowB q e).1; omega)).setCell (p := ⟨K, 0, none⟩) (by show w.heap.size ≤ K; omega) v')
        · exact (hall _ (by omega) (hlow _ (by omega)) (by omega)).trans g1
        · exact (hall _ (by omega) (hlow _ (by omega)) (by omega)).trans g2
        · rw [List.length_append, HKK.out, List.length_singleton]; omega
      have hcA := (hv.alloc A1).cell
      have hcB := ((hv.alloc A1).alloc A2).cell
      clear hB g1 g2 hrowB c1 c2 d1 d2
      have HV2 := Lib.hid hv
      clear hv
      rw [hA1, hA2] at hvA hrowA hcellA hEND hcB
      rw [hA1] at hcA
      clear hA1 hA2
      refine wpIn_region_any (by kernel_rfl) ?_
      (try change wpAnyIn _ _ _ _ _ _ _ _ _ (World.drew _))
      refine wpAnyIn_ready (rs := [0, 1, 2]) (by kernel_rfl) (by simp) ?_
      refine AllReadyIn.cons rfl (fun Kc hKc => ?_) ?_
      · go_simp
        refine hKc _ _ ?_
        clear hKc Kc
        refine wpAnyIn_ready (rs := [1, 2]) (by kernel_rfl) (by simp) ?_
        refine AllReadyIn.cons rfl (fun Kc hKc => ?_) ?_
        · go_simp
          refine hKc _ _ ?_
          clear hKc Kc
          refine wpAnyIn_ready (rs := [2]) (by kernel_rfl) (by simp) ?_
          refine AllReadyIn.cons rfl (fun Kc hKc => ?_) AllReadyIn.nil
          go_simp
          refine hKc _ _ ?_
          clear hKc Kc
          refine wpAnyIn_ready (rs := [3]) (by kernel_rfl) (by simp) ?_
          refine AllReadyIn.cons rfl (fun Kc hKc => ?_) AllReadyIn.nil
          go_simp
          refine ⟨trivial, rfl, (CallsIn.inRound lr (callsIn_wide.2 hts)).mono ?_⟩
          rintro e wc ⟨rfl, rfl⟩
          try go_simp
          refine hKc _ _ ?_
          clear hKc Kc
          refine wpAnyIn_ready (rs := [4]) (by kernel_rfl) (by simp) ?_
          refine AllReadyIn.cons rfl (fun Kc hKc => ?_) AllReadyIn.nil
          go_simp
          refine hKc _ _ ?_
          clear hKc Kc
          refine wpAnyIn_ready (rs := [5]) (by kernel_rfl) (by simp) ?_
          refine AllReadyIn.cons rfl (fun Kc hKc => ?_) AllReadyIn.nil
          go_simp
          refine hKc _ _ ?_
          clear hKc Kc
          refine wpAnyIn_ready (rs := [6]) (by kernel_rfl) (by simp) ?_
          refine AllReadyIn.cons rfl (fun Kc hKc => ?_) AllReadyIn.nil
          refine opIn_append rfl _ _ 23 rfl (K + 2) 9 i0 (.string ⟨#[]⟩) 1 16 Tryd.underlying23 hi hz0 hz1 hz2 rfl (by decide) _ _ _ rfl hrowA ⟨W.heap.size + 1, 0, none⟩ 1 1 [.string ⟨(trim x).toArray⟩] rfl rfl hcellA (by simp [Value.oneCell']) hM1 hM2 (by have := HK2.out; simp; omega) ?_
          intro v' w1 hown' hgrow
          obtain ⟨g', cap', rfl⟩ := ownsRow_succ hown'
          have hc1 := (hvA.kept hgrow hnrA).cell
          have hf1 := (hvA.kept hgrow hnrA).frozen
          refine hKc _ _ ?_
          clear hKc Kc
          (try simp only [Act.put, List.setIfInBounds_toArray, List.set_cons_zero, List.set_cons_succ])
          refine wpAnyIn_ready (rs := [7]) (by kernel_rfl) (by simp) ?_
          refine AllReadyIn.cons rfl (fun Kc hKc => ?_) AllReadyIn.nil
          go_simp
          refine hKc _ _ ?_
          clear hKc Kc
          refine wpAnyIn_done (by kernel_rfl) ?_ _
          exact hEND.out _ _ ⟨_, _, rfl⟩ hown' hgrow
        refine AllReadyIn.cons rfl (fun Kc hKc => ?_) AllReadyIn.nil
        go_simp
        refine hKc _ _ ?_
        clear hKc Kc
        refine wpAnyIn_ready (rs := [1]) (by kernel_rfl) (by simp) ?_
        refine AllReadyIn.cons rfl (fun Kc hKc => ?_) AllReadyIn.nil
        go_simp
        refine hKc _ _ ?_
        clear hKc Kc
        refine wpAnyIn_ready (rs := [3]) (by kernel_rfl) (by simp) ?_
        refine AllReadyIn.cons rfl (fun Kc hKc => ?_) AllReadyIn.nil
        go_simp
        refine ⟨trivial, rfl, (CallsIn.inRound lr (callsIn_wide.2 hts)).mono ?_⟩
        rintro e wc ⟨rfl, rfl⟩
        try go_simp
        refine hKc _ _ ?_
        clear hKc Kc
        refine wpAnyIn_ready (rs := [4]) (by kernel_rfl) (by simp) ?_
        refine AllReadyIn.cons rfl (fun Kc hKc => ?_) AllReadyIn.nil
        go_simp
        refine hKc _ _ ?_
        clear hKc Kc
        refine wpAnyIn_ready (rs := [5]) (by kernel_rfl) (by simp) ?_
        refine AllReadyIn.cons rfl (fun Kc hKc => ?_) AllReadyIn.nil
        go_simp
        refine hKc _ _ ?_
        clear hKc Kc
        refine wpAnyIn_ready (rs := [6]) (by kernel_rfl) (by simp) ?_
        refine AllReadyIn.cons rfl (fun Kc hKc => ?_) AllReadyIn.nil
        refine opIn_append rfl _ _ 23 rfl (K + 2) 9 i0 (.string ⟨#[]⟩) 1 16 Tryd.underlying23 hi hz0 hz1 hz2 rfl (by decide) _ _ _ rfl hrowA ⟨W.heap.size + 1, 0, none⟩ 1 1 [.string ⟨(trim x).toArray⟩] rfl rfl hcellA (by simp [Value.oneCell']) hM1 hM2 (by have := HK2.out; simp; omega) ?_
        intro v' w1 hown' hgrow
        obtain ⟨g', cap', rfl⟩ := ownsRow_succ hown'
        have hc1 := (hvA.kept hgrow hnrA).cell
        have hf1 := (hvA.kept hgrow hnrA).frozen
        refine hKc _ _ ?_
        clear hKc Kc
        (try simp only [Act.put, List.setIfInBounds_toArray, List.set_cons_zero, List.set_cons_succ])
        refine wpAnyIn_ready (rs := [7]) (by kernel_rfl) (by simp) ?_
        refine AllReadyIn.cons rfl (fun Kc hKc => ?_) AllReadyIn.nil
        go_simp
        refine hKc _ _ ?_
        clear hKc Kc
        refine wpAnyIn_done (by kernel_rfl) ?_ _
        exact hEND.out _ _ ⟨_, _, rfl⟩ hown' hgrow
      refine AllReadyIn.cons rfl (fun Kc hKc => ?_) ?_
      · go_simp
        refine hKc _ _ ?_
        clear hKc Kc
        refine wpAnyIn_ready (rs := [0, 2]) (by kernel_rfl) (by simp) ?_
        refine AllReadyIn.cons rfl (fun Kc hKc => ?_) ?_
        · go_simp
          refine hKc _ _ ?_
          clear hKc Kc
          refine wpAnyIn_ready (rs := [2]) (by kernel_rfl) (by simp) ?_
          refine AllReadyIn.cons rfl (fun Kc hKc => ?_) AllReadyIn.nil
          go_simp
          refine hKc _ _ ?_
          clear hKc Kc
          refine wpAnyIn_ready (rs := [3]) (by kernel_rfl) (by simp) ?_
          refine AllReadyIn.cons rfl (fun Kc hKc => ?_) AllReadyIn.nil
          go_simp
          refine ⟨trivial, rfl, (CallsIn.inRound lr (callsIn_wide.2 hts)).mono ?_⟩
          rintro e wc ⟨rfl, rfl⟩
          try go_simp
          refine hKc _ _ ?_
          clear hKc Kc
          refine wpAnyIn_ready (rs := [4]) (by kernel_rfl) (by simp) ?_
          refine AllReadyIn.cons rfl (fun Kc hKc => ?_) AllReadyIn.nil
          go_simp
          refine hKc _ _ ?_
          clear hKc Kc
          refine wpAnyIn_ready (rs := [5]) (by kernel_rfl) (by simp) ?_
          refine AllReadyIn.cons rfl (fun Kc hKc => ?_) AllReadyIn.nil
          go_simp
          refine hKc _ _ ?_
          clear hKc Kc
          refine wpAnyIn_ready (rs := [6]) (by kernel_rfl) (by simp) ?_
          refine AllReadyIn.cons rfl (fun Kc hKc => ?_) AllReadyIn.nil
          refine opIn_append rfl _ _ 23 rfl (K + 2) 9 i0 (.string ⟨#[]⟩) 1 16 Tryd.underlying23 hi hz0 hz1 hz2 rfl (by decide) _ _ _ rfl hrowA ⟨W.heap.size + 1, 0, none⟩ 1 1 [.string ⟨(trim x).toArray⟩] rfl rfl hcellA (by simp [Value.oneCell']) hM1 hM2 (by have := HK2.out; simp; omega) ?_
          intro v' w1 hown' hgrow
          obtain ⟨g', cap', rfl⟩ := ownsRow_succ hown'
          have hc1 := (hvA.kept hgrow hnrA).cell
          have hf1 := (hvA.kept hgrow hnrA).frozen
          refine hKc _ _ ?_
          clear hKc Kc
          (try simp only [Act.put, List.setIfInBounds_toArray, List.set_cons_zero, List.set_cons_succ])
          refine wpAnyIn_ready (rs := [7]) (by kernel_rfl) (by simp) ?_
          refine AllReadyIn.cons rfl (fun Kc hKc => ?_) AllReadyIn.nil
          go_simp
          refine hKc _ _ ?_
          clear hKc Kc
          refine wpAnyIn_done (by kernel_rfl) ?_ _
          exact hEND.out _ _ ⟨_, _, rfl⟩ hown' hgrow
        refine AllReadyIn.cons rfl (fun Kc hKc => ?_) AllReadyIn.nil
        go_simp
        refine hKc _ _ ?_
        clear hKc Kc
        refine wpAnyIn_ready (rs := [0, 3]) (by kernel_rfl) (by simp) ?_
        refine AllReadyIn.cons rfl (fun Kc hKc => ?_) ?_
        · go_simp
          refine hKc _ _ ?_
          clear hKc Kc
          refine wpAnyIn_ready (rs := [3]) (by kernel_rfl) (by simp) ?_
          refine AllReadyIn.cons rfl (fun Kc hKc => ?_) AllReadyIn.nil
          go_simp
          refine ⟨trivial, rfl, (CallsIn.inRound lr (callsIn_wide.2 hts)).mono ?_⟩
          rintro e wc ⟨rfl, rfl⟩
          try go_simp
          refine hKc _ _ ?_
          clear hKc Kc
          refine wpAnyIn_ready (rs := [4]) (by kernel_rfl) (by simp) ?_
          refine AllReadyIn.cons rfl (fun Kc hKc => ?_) AllReadyIn.nil
          go_simp
          refine hKc _ _ ?_
          clear hKc Kc
          refine wpAnyIn_ready (rs := [5]) (by kernel_rfl) (by simp) ?_
          refine AllReadyIn.cons rfl (fun Kc hKc => ?_) AllReadyIn.nil
          go_simp
          refine hKc _ _ ?_
          clear hKc Kc
          refine wpAnyIn_ready (rs := [6]) (by kernel_rfl) (by simp) ?_
          refine AllReadyIn.cons rfl (fun Kc hKc => ?_) AllReadyIn.nil
          refine opIn_append rfl _ _ 23 rfl (K + 2) 9 i0 (.string ⟨#[]⟩) 1 16 Tryd.underlying23 hi hz0 hz1 hz2 rfl (by decide) _ _ _ rfl hrowA ⟨W.heap.size + 1, 0, none⟩ 1 1 [.string ⟨(trim x).toArray⟩] rfl rfl hcellA (by simp [Value.oneCell']) hM1 hM2 (by have := HK2.out; simp; omega) ?_
          intro v' w1 hown' hgrow
          obtain ⟨g', cap', rfl⟩ := ownsRow_succ hown'
          have hc1 := (hvA.kept hgrow hnrA).cell
          have hf1 := (hvA.kept hgrow hnrA).frozen
          refine hKc _ _ ?_
          clear hKc Kc
          (try simp only [Act.put, List.setIfInBounds_toArray, List.set_cons_zero, List.set_cons_succ])
          refine wpAnyIn_ready (rs := [7]) (by kernel_rfl) (by simp) ?_
          refine AllReadyIn.cons rfl (fun Kc hKc => ?_) AllReadyIn.nil
          go_simp
          refine hKc _ _ ?_
          clear hKc Kc
          refine wpAnyIn_done (by kernel_rfl) ?_ _
          exact hEND.out _ _ ⟨_, _, rfl⟩ hown' hgrow
        refine AllReadyIn.cons rfl (fun Kc hKc => ?_) AllReadyIn.nil
        go_simp
        refine ⟨trivial, rfl, (CallsIn.inRound lr (callsIn_wide.2 hts)).mono ?_⟩
        rintro e wc ⟨rfl, rfl⟩
        try go_simp
        refine hKc _ _ ?_
        clear hKc Kc
        refine wpAnyIn_ready (rs := [0, 4]) (by kernel_rfl) (by simp) ?_
        refine AllReadyIn.cons rfl (fun Kc hKc => ?_) ?_
        · go_simp
          refine hKc _ _ ?_
          clear hKc Kc
          refine wpAnyIn_ready (rs := [4]) (by kernel_rfl) (by simp) ?_
          refine AllReadyIn.cons rfl (fun Kc hKc => ?_) AllReadyIn.nil
          go_simp
          refine hKc _ _ ?_
          clear hKc Kc
          refine wpAnyIn_ready (rs := [5]) (by kernel_rfl) (by simp) ?_
          refine AllReadyIn.cons rfl (fun Kc hKc => ?_) AllReadyIn.nil
          go_simp
          refine hKc _ _ ?_
          clear hKc Kc
          refine wpAnyIn_ready (rs := [6]) (by kernel_rfl) (by simp) ?_
          refine AllReadyIn.cons rfl (fun Kc hKc => ?_) AllReadyIn.nil
          refine opIn_append rfl _ _ 23 rfl (K + 2) 9 i0 (.string ⟨#[]⟩) 1 16 Tryd.underlying23 hi hz0 hz1 hz2 rfl (by decide) _ _ _ rfl hrowA ⟨W.heap.size + 1, 0, none⟩ 1 1 [.string ⟨(trim x).toArray⟩] rfl rfl hcellA (by simp [Value.oneCell']) hM1 hM2 (by have := HK2.out; simp; omega) ?_
          intro v' w1 hown' hgrow
          obtain ⟨g', cap', rfl⟩ := ownsRow_succ hown'
          have hc1 := (hvA.kept hgrow hnrA).cell
          have hf1 := (hvA.kept hgrow hnrA).frozen
          refine hKc _ _ ?_
          clear hKc Kc
          (try simp only [Act.put, List.setIfInBounds_toArray, List.set_cons_zero, List.set_cons_succ])
          refine wpAnyIn_ready (rs := [7]) (by kernel_rfl) (by simp) ?_
          refine AllReadyIn.cons rfl (fun Kc hKc => ?_) AllReadyIn.nil
          go_simp
          refine hKc _ _ ?_
          clear hKc Kc
          refine wpAnyIn_done (by kernel_rfl) ?_ _
          exact hEND.out _ _ ⟨_, _, rfl⟩ hown' hgrow
        refine AllReadyIn.cons rfl (fun Kc hKc => ?_) AllReadyIn.nil
        go_simp
        refine hKc _ _ ?_
        clear hKc Kc
        refine wpAnyIn_ready (rs := [0, 5]) (by kernel_rfl) (by simp) ?_
        refine AllReadyIn.cons rfl (fun Kc hKc => ?_) ?_
        · go_simp
          refine hKc _ _ ?_
          clear hKc Kc
          refine wpAnyIn_ready (rs := [5]) (by kernel_rfl) (by simp) ?_
          refine AllReadyIn.cons rfl (fun Kc hKc => ?_) AllReadyIn.nil
          go_simp
          refine hKc _ _ ?_
          clear hKc Kc
          refine wpAnyIn_ready (rs := [6]) (by kernel_rfl) (by simp) ?_
          refine AllReadyIn.cons rfl (fun Kc hKc => ?_) AllReadyIn.nil
          refine opIn_append rfl _ _ 23 rfl (K + 2) 9 i0 (.string ⟨#[]⟩) 1 16 Tryd.underlying23 hi hz0 hz1 hz2 rfl (by decide) _ _ _ rfl hrowA ⟨W.heap.size + 1, 0, none⟩ 1 1 [.string ⟨(trim x).toArray⟩] rfl rfl hcellA (by simp [Value.oneCell']) hM1 hM2 (by have := HK2.out; simp; omega) ?_
          intro v' w1 hown' hgrow
          obtain ⟨g', cap', rfl⟩ := ownsRow_succ hown'
          have hc1 := (hvA.kept hgrow hnrA).cell
          have hf1 := (hvA.kept hgrow hnrA).frozen
          refine hKc _ _ ?_
          clear hKc Kc
          (try simp only [Act.put, List.setIfInBounds_toArray, List.set_cons_zero, List.set_cons_succ])
          refine wpAnyIn_ready (rs := [7]) (by kernel_rfl) (by simp) ?_
          refine AllReadyIn.cons rfl (fun Kc hKc => ?_) AllReadyIn.nil
          go_simp
          refine hKc _ _ ?_
          clear hKc Kc
          refine wpAnyIn_done (by kernel_rfl) ?_ _
          exact hEND.out _ _ ⟨_, _, rfl⟩ hown' hgrow
        refine AllReadyIn.cons rfl (fun Kc hKc => ?_) AllReadyIn.nil
        go_simp
        refine hKc _ _ ?_
        clear hKc Kc
        refine wpAnyIn_ready (rs := [0]) (by kernel_rfl) (by simp) ?_
        refine AllReadyIn.cons rfl (fun Kc hKc => ?_) AllReadyIn.nil
        go_simp
        refine hKc _ _ ?_
        clear hKc Kc
        refine wpAnyIn_ready (rs := [6]) (by kernel_rfl) (by simp) ?_
        refine AllReadyIn.cons rfl (fun Kc hKc => ?_) AllReadyIn.nil
        refine opIn_append rfl _ _ 23 rfl (K + 2) 9 i0 (.string ⟨#[]⟩) 1 16 Tryd.underlying23 hi hz0 hz1 hz2 rfl (by decide) _ _ _ rfl hrowA ⟨W.heap.size + 1, 0, none⟩ 1 1 [.string ⟨(trim x).toArray⟩] rfl rfl hcellA (by simp [Value.oneCell']) hM1 hM2 (by have := HK2.out; simp; omega) ?_
        intro v' w1 hown' hgrow
        obtain ⟨g', cap', rfl⟩ := ownsRow_succ hown'
        have hc1 := (hvA.kept hgrow hnrA).cell
        have hf1 := (hvA.kept hgrow hnrA).frozen
        refine hKc _ _ ?_
        clear hKc Kc
        (try simp only [Act.put, List.setIfInBounds_toArray, List.set_cons_zero, List.set_cons_succ])
        refine wpAnyIn_ready (rs := [7]) (by kernel_rfl) (by simp) ?_
        refine AllReadyIn.cons rfl (fun Kc hKc => ?_) AllReadyIn.nil
        go_simp
        refine hKc _ _ ?_
        clear hKc Kc
        refine wpAnyIn_done (by kernel_rfl) ?_ _
        exact hEND.out _ _ ⟨_, _, rfl⟩ hown' hgrow
      refine AllReadyIn.cons rfl (fun Kc hKc => ?_) AllReadyIn.nil
      go_simp
      refine hKc _ _ ?_
      clear hKc Kc
      refine wpAnyIn_ready (rs := [0, 1]) (by kernel_rfl) (by simp) ?_
      refine AllReadyIn.cons rfl (fun Kc hKc => ?_) ?_
      · go_simp
        refine hKc _ _ ?_
        clear hKc Kc
        refine wpAnyIn_ready (rs := [1]) (by kernel_rfl) (by simp) ?_
        refine AllReadyIn.cons rfl (fun Kc hKc => ?_) AllReadyIn.nil
        go_simp
        refine hKc _ _ ?_
        clear hKc Kc
        refine wpAnyIn_ready (rs := [3]) (by kernel_rfl) (by simp) ?_
        refine AllReadyIn.cons rfl (fun Kc hKc => ?_) AllReadyIn.nil
        go_simp
        refine ⟨trivial, rfl, (CallsIn.inRound lr (callsIn_wide.2 hts)).mono ?_⟩
        rintro e wc ⟨rfl, rfl⟩
        try go_simp
        refine hKc _ _ ?_
        clear hKc Kc
        refine wpAnyIn_ready (rs := [4]) (by kernel_rfl) (by simp) ?_
        refine AllReadyIn.cons rfl (fun Kc hKc => ?_) AllReadyIn.nil
        go_simp
        refine hKc _ _ ?_
        clear hKc Kc
        refine wpAnyIn_ready (rs := [5]) (by kernel_rfl) (by simp) ?_
        refine AllReadyIn.cons rfl (fun Kc hKc => ?_) AllReadyIn.nil
        go_simp
        refine hKc _ _ ?_
        clear hKc Kc
        refine wpAnyIn_ready (rs := [6]) (by kernel_rfl) (by simp) ?_
        refine AllReadyIn.cons rfl (fun Kc hKc => ?_) AllReadyIn.nil
        refine opIn_append rfl _ _ 23 rfl (K + 2) 9 i0 (.string ⟨#[]⟩) 1 16 Tryd.underlying23 hi hz0 hz1 hz2 rfl (by decide) _ _ _ rfl hrowA ⟨W.heap.size + 1, 0, none⟩ 1 1 [.string ⟨(trim x).toArray⟩] rfl rfl hcellA (by simp [Value.oneCell']) hM1 hM2 (by have := HK2.out; simp; omega) ?_
        intro v' w1 hown' hgrow
        obtain ⟨g', cap', rfl⟩ := ownsRow_succ hown'
        have hc1 := (hvA.kept hgrow hnrA).cell
        have hf1 := (hvA.kept hgrow hnrA).frozen
        refine hKc _ _ ?_
        clear hKc Kc
        (try simp only [Act.put, List.setIfInBounds_toArray, List.set_cons_zero, List.set_cons_succ])
        refine wpAnyIn_ready (rs := [7]) (by kernel_rfl) (by simp) ?_
        refine AllReadyIn.cons rfl (fun Kc hKc => ?_) AllReadyIn.nil
        go_simp
        refine hKc _ _ ?_
        clear hKc Kc
        refine wpAnyIn_done (by kernel_rfl) ?_ _
        exact hEND.out _ _ ⟨_, _, rfl⟩ hown' hgrow
      refine AllReadyIn.cons rfl (fun Kc hKc => ?_) AllReadyIn.nil
      go_simp
      refine hKc _ _ ?_
      clear hKc Kc
      refine wpAnyIn_ready (rs := [0, 3]) (by kernel_rfl) (by simp) ?_
      refine AllReadyIn.cons rfl (fun Kc hKc => ?_) ?_
      · go_simp
        refine hKc _ _ ?_
        clear hKc Kc
        refine wpAnyIn_ready (rs := [3]) (by kernel_rfl) (by simp) ?_
        refine AllReadyIn.cons rfl (fun Kc hKc => ?_) AllReadyIn.nil
        go_simp
        refine ⟨trivial, rfl, (CallsIn.inRound lr (callsIn_wide.2 hts)).mono ?_⟩
        rintro e wc ⟨rfl, rfl⟩
        try go_simp
        refine hKc _ _ ?_
        clear hKc Kc
        refine wpAnyIn_ready (rs := [4]) (by kernel_rfl) (by simp) ?_
        refine AllReadyIn.cons rfl (fun Kc hKc => ?_) AllReadyIn.nil
        go_simp
        refine hKc _ _ ?_
        clear hKc Kc
        refine wpAnyIn_ready (rs := [5]) (by kernel_rfl) (by simp) ?_
        refine AllReadyIn.cons rfl (fun Kc hKc => ?_) AllReadyIn.nil
        go_simp
        refine hKc _ _ ?_
        clear hKc Kc
        refine wpAnyIn_ready (rs := [6]) (by kernel_rfl) (by simp) ?_
        refine AllReadyIn.cons rfl (fun Kc hKc => ?_) AllReadyIn.nil
        refine opIn_append rfl _ _ 23 rfl (K + 2) 9 i0 (.string ⟨#[]⟩) 1 16 Tryd.underlying23 hi hz0 hz1 hz2 rfl (by decide) _ _ _ rfl hrowA ⟨W.heap.size + 1, 0, none⟩ 1 1 [.string ⟨(trim x).toArray⟩] rfl rfl hcellA (by simp [Value.oneCell']) hM1 hM2 (by have := HK2.out; simp; omega) ?_
        intro v' w1 hown' hgrow
        obtain ⟨g', cap', rfl⟩ := ownsRow_succ hown'
        have hc1 := (hvA.kept hgrow hnrA).cell
        have hf1 := (hvA.kept hgrow hnrA).frozen
        refine hKc _ _ ?_
        clear hKc Kc
        (try simp only [Act.put, List.setIfInBounds_toArray, List.set_cons_zero, List.set_cons_succ])
        refine wpAnyIn_ready (rs := [7]) (by kernel_rfl) (by simp) ?_
        refine AllReadyIn.cons rfl (fun Kc hKc => ?_) AllReadyIn.nil
        go_simp
        refine hKc _ _ ?_
        clear hKc Kc
        refine wpAnyIn_done (by kernel_rfl) ?_ _
        exact hEND.out _ _ ⟨_, _, rfl⟩ hown' hgrow
      refine AllReadyIn.cons rfl (fun Kc hKc => ?_) AllReadyIn.nil
      go_simp
      refine ⟨trivial, rfl, (CallsIn.inRound lr (callsIn_wide.2 hts)).mono ?_⟩
      rintro e wc ⟨rfl, rfl⟩
      try go_simp
      refine hKc _ _ ?_
      clear hKc Kc
      refine wpAnyIn_ready (rs := [0, 4]) (by kernel_rfl) (by simp) ?_
      refine AllReadyIn.cons rfl (fun Kc hKc => ?_) ?_
      · go_simp
        refine hKc _ _ ?_
        clear hKc Kc
        refine wpAnyIn_ready (rs := [4]) (by kernel_rfl) (by simp) ?_
        refine AllReadyIn.cons rfl (fun Kc hKc => ?_) AllReadyIn.nil
        go_simp
        refine hKc _ _ ?_
        clear hKc Kc
        refine wpAnyIn_ready (rs := [5]) (by kernel_rfl) (by simp) ?_
        refine AllReadyIn.cons rfl (fun Kc hKc => ?_) AllReadyIn.nil
        go_simp
        refine hKc _ _ ?_
        clear hKc Kc
        refine wpAnyIn_ready (rs := [6]) (by kernel_rfl) (by simp) ?_
        refine AllReadyIn.cons rfl (fun Kc hKc => ?_) AllReadyIn.nil
        refine opIn_append rfl _ _ 23 rfl (K + 2) 9 i0 (.string ⟨#[]⟩) 1 16 Tryd.underlying23 hi hz0 hz1 hz2 rfl (by decide) _ _ _ rfl hrowA ⟨W.heap.size + 1, 0, none⟩ 1 1 [.string ⟨(trim x).toArray⟩] rfl rfl hcellA (by simp [Value.oneCell']) hM1 hM2 (by have := HK2.out; simp; omega) ?_
        intro v' w1 hown' hgrow
        obtain ⟨g', cap', rfl⟩ := ownsRow_succ hown'
        have hc1 := (hvA.kept hgrow hnrA).cell
        have hf1 := (hvA.kept hgrow hnrA).frozen
        refine hKc _ _ ?_
        clear hKc Kc
        (try simp only [Act.put, List.setIfInBounds_toArray, List.set_cons_zero, List.set_cons_succ])
        refine wpAnyIn_ready (rs := [7]) (by kernel_rfl) (by simp) ?_
        refine AllReadyIn.cons rfl (fun Kc hKc => ?_) AllReadyIn.nil
        go_simp
        refine hKc _ _ ?_
        clear hKc Kc
        refine wpAnyIn_done (by kernel_rfl) ?_ _
        exact hEND.out _ _ ⟨_, _, rfl⟩ hown' hgrow
      refine AllReadyIn.cons rfl (fun Kc hKc => ?_) AllReadyIn.nil
      go_simp
      refine hKc _ _ ?_
      clear hKc Kc
      refine wpAnyIn_ready (rs := [0, 5]) (by kernel_rfl) (by simp) ?_
      refine AllReadyIn.cons rfl (fun Kc hKc => ?_) ?_
      · go_simp
        refine hKc _ _ ?_
        clear hKc Kc
        refine wpAnyIn_ready (rs := [5]) (by kernel_rfl) (by simp) ?_
        refine AllReadyIn.cons rfl (fun Kc hKc => ?_) AllReadyIn.nil
        go_simp
        refine hKc _ _ ?_
        clear hKc Kc
        refine wpAnyIn_ready (rs := [6]) (by kernel_rfl) (by simp) ?_
        refine AllReadyIn.cons rfl (fun Kc hKc => ?_) AllReadyIn.nil
        refine opIn_append rfl _ _ 23 rfl (K + 2) 9 i0 (.string ⟨#[]⟩) 1 16 Tryd.underlying23 hi hz0 hz1 hz2 rfl (by decide) _ _ _ rfl hrowA ⟨W.heap.size + 1, 0, none⟩ 1 1 [.string ⟨(trim x).toArray⟩] rfl rfl hcellA (by simp [Value.oneCell']) hM1 hM2 (by have := HK2.out; simp; omega) ?_
        intro v' w1 hown' hgrow
        obtain ⟨g', cap', rfl⟩ := ownsRow_succ hown'
        have hc1 := (hvA.kept hgrow hnrA).cell
        have hf1 := (hvA.kept hgrow hnrA).frozen
        refine hKc _ _ ?_
        clear hKc Kc
        (try simp only [Act.put, List.setIfInBounds_toArray, List.set_cons_zero, List.set_cons_succ])
        refine wpAnyIn_ready (rs := [7]) (by kernel_rfl) (by simp) ?_
        refine AllReadyIn.cons rfl (fun Kc hKc => ?_) AllReadyIn.nil
        go_simp
        refine hKc _ _ ?_
        clear hKc Kc
        refine wpAnyIn_done (by kernel_rfl) ?_ _
        exact hEND.out _ _ ⟨_, _, rfl⟩ hown' hgrow
      refine AllReadyIn.cons rfl (fun Kc hKc => ?_) AllReadyIn.nil
      go_simp
      refine hKc _ _ ?_
      clear hKc Kc
      refine wpAnyIn_ready (rs := [0]) (by kernel_rfl) (by simp) ?_
      refine AllReadyIn.cons rfl (fun Kc hKc => ?_) AllReadyIn.nil
      go_simp
      refine hKc _ _ ?_
      clear hKc Kc
      refine wpAnyIn_ready (rs := [6]) (by kernel_rfl) (by simp) ?_
      refine AllReadyIn.cons rfl (fun Kc hKc => ?_) AllReadyIn.nil
      refine opIn_append rfl _ _ 23 rfl (K + 2) 9 i0 (.string ⟨#[]⟩) 1 16 Tryd.underlying23 hi hz0 hz1 hz2 rfl (by decide) _ _ _ rfl hrowA ⟨W.heap.size + 1, 0, none⟩ 1 1 [.string ⟨(trim x).toArray⟩] rfl rfl hcellA (by simp [Value.oneCell']) hM1 hM2 (by have := HK2.out; simp; omega) ?_
      intro v' w1 hown' hgrow
      obtain ⟨g', cap', rfl⟩ := ownsRow_succ hown'
      have hc1 := (hvA.kept hgrow hnrA).cell
      have hf1 := (hvA.kept hgrow hnrA).frozen
      refine hKc _ _ ?_
      clear hKc Kc
      (try simp only [Act.put, List.setIfInBounds_toArray, List.set_cons_zero, List.set_cons_succ])
      refine wpAnyIn_ready (rs := [7]) (by kernel_rfl) (by simp) ?_
      refine AllReadyIn.cons rfl (fun Kc hKc => ?_) AllReadyIn.nil
      go_simp
      refine hKc _ _ ?_
      clear hKc Kc
      refine wpAnyIn_done (by kernel_rfl) ?_ _
      exact hEND.out _ _ ⟨_, _, rfl⟩ hown' hgrow
  case done =>
    have HK2 := Lib.hid hK
    have HF6 := Lib.hid f6
    clear hK f2 f3 f6 f7 f8 f9 g1 g2
    rintro D W hD ⟨⟨⟨v, hv, hrow⟩, hB, hs⟩, g1, g2, hlen⟩ hKD
    obtain ⟨av, cv, rfl, _⟩ := SIn.of_owns hrow
    simp only [List.length_map] at hrow hv
    have hne : linesE l = 0 := by rw [HE.out, if_neg (by omega)]
    have hLl : linesL l = (lp l).map trim := by unfold linesL; rw [if_pos hne]
    have hc := hv.cell
    have hf := hv.frozen
    have c1 := g1.cell
    have c2 := g2.cell
    have d1 := g1.frozen
    have d2 := g2.frozen
    have HNE := Lib.hid hne
    have HLL := Lib.hid hLl
    clear hne hLl
    gi_wp2
    obtain ⟨v, hvv⟩ : ∃ v, v = Value.slice av (lp l).length cv := ⟨_, rfl⟩
    rw [← hvv] at hrow hv ⊢
    clear hvv
    have b1 := (g1.set v).other (B' := w.heap.size + 1) (by omega) (.int .i64 0)
    have b2 := (g2.kept (grownBy_setCell' W w.heap.size v) (by simp)).set (.int .i64 0)
    have kd : ((W.setCell ⟨w.heap.size, 0, none⟩ v).setCell ⟨w.heap.size + 1, 0, none⟩ (.int .i64 0)).heap[D]? = some (.deferred (some [])) := ((KeepsOthers.setCell _ _ _).trans (KeepsOthers.setCell _ _ _)).same D _ hKD rfl
    have bel := (hB.setCell (p := ⟨w.heap.size, 0, none⟩) (Nat.le_refl _) v).setCell (p := ⟨w.heap.size + 1, 0, none⟩) (Nat.le_succ _) (.int .i64 0)
    have r1 := (hrow.kept (grownBy_setCell' W w.heap.size v) (.inr (g1.not_row (by decide) hrow).symm)).kept (grownBy_setCell' _ (w.heap.size + 1) (.int .i64 0)) (.inr (((g2.kept (grownBy_setCell' W w.heap.size v) (by simp)).not_row (by decide) (hrow.kept (grownBy_setCell' W w.heap.size v) (.inr (g1.not_row (by decide) hrow).symm))).symm))
    have e1 := cell_kept b1.cell (grownBy_putObj' _ D (.deferred none)) (fun r e => by cases e; exact ⟨_, kd, rfl⟩)
    have e2 := cell_kept b2.cell (grownBy_putObj' _ D (.deferred none)) (fun r e => by cases e; exact ⟨_, kd, rfl⟩)
    refine ⟨by simp, .inl ⟨_, _, rfl, run_takeDeferred kd, ?_⟩⟩
    have h1 := HK2.out
    have h2 := HF6.out
    have r2 : (((W.setCell ⟨w.heap.size, 0, none⟩ v).setCell ⟨w.heap.size + 1, 0, none⟩ (.int .i64 0)).putObj D (.deferred none)).ownsRow w.heap.size 9 1 v ((lp l).map trim).length (((lp l).map trim).map strV) := by
      rw [List.length_map]
      exact ownsRow_putObj (ownsRow_less r1 (by omega)) _ kd rfl
    exact ⟨.tuple #[v, .int .i64 0], by simp [results, Tryd.results11, go_sem, e1, e2], v, by rw [HNE.out], by rw [HLL.out]; exact r2, bel.trans (belowK_b (w := w) (Nat.le_refl _) _ D _ _ (by omega) kd rfl rfl)⟩
  case stop =>
    have HK2 := Lib.hid hK
    have HF6 := Lib.hid f6
    clear hK f2 f3 f6 f7 f8 f9 g1 g2
    rintro D pre x post W hD hys ⟨r1, r2, r3, r4⟩ hKD
    have hlen : 1000 < (lp l).length := by rw [hys]; simp only [List.length_append, List.length_cons, List.length_nil] at r4 ⊢; omega
    have hne : linesE l = 10 := by rw [HE.out, if_pos hlen]
    have hLl : linesL l = [] := by unfold linesL; rw [if_neg (by rw [hne]; decide)]
    rw [hne, hLl]
    have e1 := cell_kept r1.cell (grownBy_putObj' _ D (.deferred none)) (fun r e => by cases e; exact ⟨_, hKD, rfl⟩)
    have e2 := cell_kept r2.cell (grownBy_putObj' _ D (.deferred none)) (fun r e => by cases e; exact ⟨_, hKD, rfl⟩)
    clear hne hLl hys hlen
    gi_wp2
    refine ⟨by simp, .inl ⟨_, _, rfl, run_takeDeferred hKD, ?_⟩⟩
    have h1 := HK2.out
    have h2 := HF6.out
    exact ⟨.tuple #[.slice none 0 0, .int .i64 10], by simp [results, Tryd.results11, go_sem, e1, e2], _, rfl, World.ownsRow_nil _ _ _ _, r3.trans (belowK_b (w := w) (Nat.le_refl _) W D _ _ (by omega) hKD rfl rfl)⟩
end Go.Proofs.YtdacigihhbcppaaDoor
