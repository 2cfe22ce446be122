/-
  Zones: the program's Instants.
-/
import Derived.Test.YtiohakpbgmignaaZbA
import Derived.Maps.AppendAt
set_option linter.unusedVariables false
set_option linter.unusedSimpArgs false
namespace Go.Proofs.Ytiohakpbgmignaa
open Go.RowKit Go.Shelf
attribute [local go_sem] Oper.semAt_some

theorem int_info : (Try.prog.info? 3).map (fun i => (i.zero, i.size, i.bytes)) = some (some (.int .i64 0), 1, 8) := by kernel_rfl
def intV (z : Int) : Value := .int .i64 z
theorem ownsRow_less' {W : World} {base base' : Nat} {e : TypeId} {size : Nat} {v : Value} {k : Nat} {xs : List Value} (h : W.ownsRow base e size v k xs) (hb : base' ≤ base) : W.ownsRow base' e size v k xs := by
  refine ⟨h.1, ?_⟩
  rcases h.2 with h | ⟨g, cap, cur, h1, h2, h3⟩
  · exact .inl h
  · exact .inr ⟨g, cap, cur, h1, by omega, h3⟩
def maxN : Nat := 52596000
theorem maxN_eq : (52596000 : Int).toNat = maxN := rfl
def qB (o : Int) (ss : List (Int × Int)) (loc u : Int) : Bool := decide (u + offs o ss u = loc)
theorem inst_step {o x f t loc T : Int} {ss : List (Int × Int)} (hx : ∀ u, f ≤ u → u < t → offs o ss u = x) (h0 : 0 ≤ f) (h1 : f < t) (hT : loc - x = T) :
    filt (qB o ss loc) 0 t.toNat = filt (qB o ss loc) 0 f.toNat ++ if f ≤ T ∧ T < t then [T] else [] := by
  rw [show t.toNat = f.toNat + (t - f).toNat by omega, filt_add, filt_one (v := T) (t - f).toNat (fun u h2 h3 => ?_)]
  · congr 1
    have e1 : (0 : Int) + (f.toNat : Int) = f := by omega
    have e2 : f + ((t - f).toNat : Int) = t := by omega
    rw [e1, e2]
  · unfold qB
    rw [hx u (by omega) (by omega)]
    exact decide_eq_decide.2 (by omega)
def insE (E clock : Int) : Int := if E = 0 then (if isClockB clock = true then 0 else 5) else E
def insL (E o : Int) (ss : List (Int × Int)) (day clock : Int) : List Int := if insE E clock = 0 ∧ -1 ≤ day ∧ day ≤ 36525 then filt (qB o ss (1440 * day + clock)) 0 maxN else []
def RetIL (w : World) (l : List Int) (z : Int) (e : Ending) (w' : World) : Prop := ∃ v, e = .returned (.tuple #[v, .int .i64 z]) ∧ w'.ownsRow w.heap.size 3 1 v l.length (l.map intV) ∧ Below w.heap.size w w'
theorem isClockB_in {t : Int} (h : isClockB t = true) : 0 ≤ t ∧ t < 1440 := by unfold isClockB at h; simpa using h

/-- What the loop keeps: the instants so far, and all that lay ahead of their box. -/
structure InI (w1 W : World) (K : Nat) (l : List Int) : Prop where
  own : ∃ v, Boxed W K 34 v ∧ W.ownsRow (K + 3) 3 1 v l.length (l.map intV)
  b : Below K w1 W
  sz : K + 3 ≤ W.heap.size
def inM (K k : Nat) (o : Obj) : Prop := k = K ∨ (K + 3 ≤ k ∧ ∃ cs fr, o = .cells cs 3 fr)
theorem inM_shift {K k : Nat} {cs : Array Value} (hk : K + 3 ≤ k) : ¬ inM K k (.cells cs 52 (0, 0)) := by
  rintro (h | ⟨_, cs', fr, e⟩)
  · omega
  · injection e with _ e2 _; exact absurd e2 (by decide)
theorem InI.kept {w1 W W' : World} {K : Nat} {l : List Int} {row : Option Nat} (h : InI w1 W K l) (hK : K ≤ w1.heap.size) (hg : W.grownBy W' row) (hr : ∀ r, row = some r → K + 3 ≤ r ∧ ∃ o : Obj, W.heap[r]? = some o ∧ o.isCells = false) : InI w1 W' K l := by
  obtain ⟨⟨v, hv, hrow⟩, hb, hs⟩ := h
  refine ⟨⟨v, hv.kept hg (fun e => ?_), hrow.kept hg ?_⟩, hb.grown hg (by omega) (fun k e => ?_), by have := hg.size; omega⟩
  · have := (hr K e.symm).1; omega
  · rcases hrow.2 with ⟨rfl, _⟩ | ⟨g, cap, cur, rfl, h2, h3, _⟩
    · exact .inl rfl
    · refine .inr fun e => ?_
      obtain ⟨h1, o, ho, hc⟩ := hr g (by simpa [Value.ownBlock] using e.symm)
      rw [h3] at ho; cases ho; cases hc
  · have := (hr k e).1; omega
theorem below3 {w w1 : World} {x y z : Obj} (h : Below (((w.alloc x).alloc y).alloc z).heap.size (((w.alloc x).alloc y).alloc z) w1) : Below w.heap.size w w1 :=
  (((cnew w x).trans ((cnew _ y).mono (by simp))).trans ((cnew _ z).mono (by simp; omega))).trans (h.mono (by simp; omega))
theorem day_clock {w w1 : World} {x : Obj} {y z : Value} {t : TypeId} (h : Below (((w.alloc x).alloc (.cells #[y] t)).alloc (.cells #[z] t)).heap.size (((w.alloc x).alloc (.cells #[y] t)).alloc (.cells #[z] t)) w1) : w1.cell? ⟨w.heap.size + 1, 0, none⟩ = some y ∧ w1.cell? ⟨w.heap.size + 1 + 1, 0, none⟩ = some z := by
  have h1 := (Boxed.new (w.alloc x) t y).alloc (.cells #[z] t)
  have h2 := Boxed.new ((w.alloc x).alloc (.cells #[y] t)) t z
  rw [World.size_alloc] at h1
  rw [World.size_alloc, World.size_alloc] at h2
  exact ⟨(h.cell (p := ⟨w.heap.size + 1, 0, none⟩) (by simp)).trans h1.cell, (h.cell (p := ⟨w.heap.size + 1 + 1, 0, none⟩) (by simp)).trans h2.cell⟩
set_option maxHeartbeats 8000000 in
set_option maxRecDepth 1000000 in
theorem instants_any (nm : List UInt8) (hnl : nm.length ≤ 9223372036854775807) (o : Int) (a : Option Addr) (n c : Nat) (ss : List (Int × Int)) (w : World) (hS : ShIn w a n ss) (hn : n ≤ 9223372036854775807) (day clock : Int) :
    Calls Try.prog 20 #[.agg #[.string ⟨nm.toArray⟩, .int .i64 o, .slice a n c], .int .i64 day, .int .i64 clock] w (RetIL w (insL (zE (nameB nm) o ss) o ss day clock) (insE (zE (nameB nm) o ss) clock)) := by
  have hv := fun w hS => validate_any nm hnl o a n c ss w hS hn
  have hcl := isClock_any clock
  have hok := @zE_ok (nameB nm) o ss
  have hS3 := Lib.hid (((hS.call (cnew w (.cells #[.string ⟨nm.toArray⟩, .int .i64 o, .slice a n c] 24))).call (cnew _ (.cells #[.int .i64 day] 3))).call (cnew _ (.cells #[.int .i64 clock] 3)))
  have HB0 := Lib.hid (((boxZ_new w nm o a n c 24).call (cnew _ (.cells #[.int .i64 day] 3))).call (cnew _ (.cells #[.int .i64 clock] 3)))
  obtain ⟨E, HE⟩ : ∃ v, Hid (zE (nameB nm) o ss = v) := ⟨_, rfl⟩
  rw [HE.out] at hok ⊢
  simp only [HE.out] at hv
  have hdL : insL E o ss day clock = if insE E clock = 0 ∧ -1 ≤ day ∧ day ≤ 36525 then filt (qB o ss (1440 * day + clock)) 0 maxN else [] := rfl
  have hdE : insE E clock = if E = 0 then (if isClockB clock = true then 0 else 5) else E := rfl
  have hcb := @isClockB_in clock
  obtain ⟨Q, HQ⟩ : ∃ v, Hid (isClockB clock = v) := ⟨_, rfl⟩
  obtain ⟨X, HX⟩ : ∃ v, Hid (insE E clock = v) := ⟨_, rfl⟩
  obtain ⟨L, HL⟩ : ∃ v, Hid (insL E o ss day clock = v) := ⟨_, rfl⟩
  rw [HX.out, HQ.out] at hdE
  rw [HX.out, HL.out] at hdL
  rw [HX.out, HL.out]
  rw [HQ.out] at hcl hcb
  by_cases h0 : E = 0
  · subst h0
    rw [if_pos rfl] at hdE
    obtain ⟨_, hz⟩ := hok rfl
    cases Q with
    | false =>
      obtain rfl : X = 5 := hdE
      obtain rfl : L = [] := hdL
      clear hS hz hok hcb
      go_enter Try.func20, Try.ntmps20
      obtain ⟨b0, b1, b2⟩ := HB0.out
      go_wp2_with (first
        | (go_at_call 12; (with_reducible refine (hv _ (hS3.out)).mono ?_); rintro e w1 ⟨rfl, g1⟩; have HB1 := Lib.hid (below3 g1); obtain ⟨d0, d1⟩ := day_clock g1; clear g1)
        | (go_at_call 39; (with_reducible refine (hcl _).mono ?_); rintro e w2 ⟨rfl, rfl⟩)
        | fail)
      go_ret2
      exact ⟨_, rfl, World.ownsRow_nil _ _ _ _, HB1.out⟩
    | true =>
      rw [if_pos rfl] at hdE
      obtain rfl : X = 0 := hdE
      have hcr := hcb rfl
      by_cases d1 : day < -1
      · obtain rfl : L = [] := by rw [hdL, if_neg (by omega)]
        clear hS hz hok hcb hdL
        go_enter Try.func20, Try.ntmps20
        obtain ⟨b0, b1, b2⟩ := HB0.out
        go_wp2_with (first
          | (go_at_call 12; (with_reducible refine (hv _ (hS3.out)).mono ?_); rintro e w1 ⟨rfl, g1⟩; have HB1 := Lib.hid (below3 g1); obtain ⟨d0, d1⟩ := day_clock g1; clear g1)
          | (go_at_call 39; (with_reducible refine (hcl _).mono ?_); rintro e w2 ⟨rfl, rfl⟩)
          | fail)
        go_ret2
        exact ⟨_, rfl, World.ownsRow_nil _ _ _ _, HB1.out⟩
      by_cases d2 : 36525 < day
      · obtain rfl : L = [] := by rw [hdL, if_neg (by omega)]
        have d3 : decide (day < -1) = false := by simpa using d1
        clear hS hz hok hcb hdL
        go_enter Try.func20, Try.ntmps20
        obtain ⟨b0, b1, b2⟩ := HB0.out
        go_wp2_with (first
          | (go_at_call 12; (with_reducible refine (hv _ (hS3.out)).mono ?_); rintro e w1 ⟨rfl, g1⟩; have HB1 := Lib.hid (below3 g1); obtain ⟨d0, d1⟩ := day_clock g1; clear g1)
          | (go_at_call 39; (with_reducible refine (hcl _).mono ?_); rintro e w2 ⟨rfl, rfl⟩)
          | fail)
        go_ret2
        exact ⟨_, rfl, World.ownsRow_nil _ _ _ _, HB1.out⟩
      rw [if_pos ⟨rfl, by omega, by omega⟩] at hdL
      obtain ⟨q, hq⟩ : ∃ q, q = qB o ss (1440 * day + clock) := ⟨_, rfl⟩
      rw [← hq] at hdL
      have HDL := Lib.hid hdL
      clear hdL
      have HZ := Lib.hid hz
      have HQQ := Lib.hid hq
      have d3 : decide (day < -1) = false := by simpa using d1
      have d4 : decide (36525 < day) = false := by simpa using d2
      have HNN := Lib.hid hn
      clear hok hcb hz hq
      obtain ⟨i0, hi, hz0, hz1, hz2⟩ := info_parts int_info
      have hsg := segments_any nm o a n c 0 52596000
      refine (callsIn_wide (n := 0)).1 ?_
      refine callsIn_of_wp_marks (n := 0) Try.func20 rfl trivial ?_ rfl
      simp only [Try.ntmps20, List.size_toArray, List.length_cons, List.length_nil, Nat.reduceAdd, Nat.reduceSub, Array.replicate_succ, Array.replicate_zero, List.push_toArray, List.append_toArray, List.nil_append, List.cons_append]
      obtain ⟨b0, b1, b2⟩ := HB0.out
      gi_wp2_with (first
        | (refine ⟨trivial, rfl, ?_⟩; (with_reducible refine (callsIn_wide.2 (hv _ hS3.out)).mono ?_); rintro e w1 ⟨rfl, g1⟩; have HB1 := Lib.hid (below3 g1); have HS1 := Lib.hid (hS3.out.call g1); have HN3 := Lib.hid (Nat.le_trans (by simp) g1.size : w.heap.size + 3 ≤ w1.heap.size); obtain ⟨e0, e1⟩ := day_clock g1; obtain ⟨b0, b1, b2⟩ := HB0.out.call g1; have l1 : w.heap.size < w1.heap.size := (by have := HN3.out; omega); clear g1)
        | (refine ⟨trivial, rfl, ?_⟩; (with_reducible refine (callsIn_wide.2 (hcl _)).mono ?_); rintro e w2 ⟨rfl, rfl⟩)
        | (refine ⟨trivial, rfl, ?_⟩; (with_reducible refine (callsIn_wide.2 (hsg _)).mono ?_); rintro e w3 ⟨rfl, rfl⟩)
        | fail)
      obtain ⟨W2, hW2⟩ : ∃ W2, ((w1.alloc (.cells #[.slice none 0 0] 34)).alloc (.cells #[.string ⟨nm.toArray⟩, .int .i64 o, .slice a n c] 24)).alloc (.cells #[.int .i64 0, .int .i64 52596000] 40) = W2 := ⟨_, rfl⟩
      rw [hW2]
      have f1 : Boxed W2 w1.heap.size 34 (.slice none 0 0) := by rw [← hW2]; exact ((Boxed.new w1 _ _).alloc _).alloc _
      have f2 : BoxZ W2 (w1.heap.size + 1) nm o a n c := by
        have h := (boxZ_new (w1.alloc (.cells #[.slice none 0 0] 34)) nm o a n c 24).call (cnew _ (.cells #[.int .i64 0, .int .i64 52596000] 40))
        rw [World.size_alloc] at h
        rw [← hW2]; exact h
      have f3 : BoxS W2 (w1.heap.size + 1 + 1) 0 52596000 := by
        have h := boxS_new ((w1.alloc (.cells #[.slice none 0 0] 34)).alloc (.cells #[.string ⟨nm.toArray⟩, .int .i64 o, .slice a n c] 24)) 0 52596000 40
        rw [World.size_alloc, World.size_alloc] at h
        rw [← hW2]; exact h
      have f4 : W2.heap.size = w1.heap.size + 3 := by rw [← hW2]; simp
      have f5 : Below w1.heap.size w1 W2 := by rw [← hW2]; exact (((cnew _ _).alloc (by simp) _).alloc (by simp; omega) _)
      have f6 : ShIn W2 a n ss := HS1.out.call f5
      have hgK : 0 < n → ∀ x, a = some x → x.block < w1.heap.size := by
        intro h0 x hx
        rcases HS1.out.2 with h | ⟨g, o', e2, e3, _⟩
        · omega
        · rw [e2] at hx; cases hx; exact e3
      obtain ⟨K, HK⟩ : ∃ K, w1.heap.size = K := ⟨_, rfl⟩
      have hK3 := HN3.out
      rw [HK] at f1 f2 f3 f4 f5 hgK hK3 ⊢
      have HKs := Lib.hid HK
      have HE0 := Lib.hid e0
      have HE1 := Lib.hid e1
      clear hW2 HK b0 b1 b2 e0 e1 hsg l1
      refine range_d (gf := 54) (lb := #[.pointer (some ⟨K + 1 + 1, 0, none⟩), .pointer (some ⟨K + 1, 0, none⟩)]) rfl (enters_of Try.func54 (by kernel_rfl) rfl)
        (segments_iter W2 (K + 1) (K + 1 + 1) nm o a n c ss 0 52596000 (inM K) f2 f3 f6 HNN.out (fun ob h => by rcases h with h | ⟨h, _⟩ <;> omega) (fun ob h => by rcases h with h | ⟨h, _⟩ <;> omega) (fun h0 x hx ob h => by have := hgK h0 x hx; rcases h with h | ⟨h, _⟩ <;> omega)
          (fun k cs hk => inM_shift (by omega)) HZ.out (by omega))
        (Below.refl _ _) (fun _ => rfl)
        (fun pre W => ∃ t, Seg (offs o ss) 0 pre t ∧ InI w1 W K (filt q 0 t.toNat)) (fun _ _ => False)
        (by rw [f4]; exact fun s A B row h hg hr => by obtain ⟨t, h1, h2⟩ := h; exact ⟨t, h1, h2.kept (by rw [HKs.out]; exact Nat.le_refl _) hg hr⟩) (fun _ _ _ _ h _ _ => h)
        ⟨0, .nil, ⟨_, f1, World.ownsRow_nil _ _ _ _⟩, f5, by omega⟩ ?round ?done ?stop
      case round =>
        rintro l pre ⟨f, t, x⟩ W ⟨t', hseg, ht'⟩ ⟨t0, hs0, hI⟩
        obtain ⟨g1, rfl, g2, g3⟩ := hseg.last
        obtain rfl := hs0.det g1
        have hf0 := g1.le
        have hxb := HZ.out.bound t0
        rw [g3 t0 (Int.le_refl _) g2] at hxb
        obtain ⟨T, hT⟩ : ∃ T, 1440 * day + clock - x = T := ⟨_, rfl⟩
        have hst := inst_step (loc := 1440 * day + clock) g3 hf0 g2 hT
        rw [← HQQ.out] at hst
        have hll := filt_len q 0 t0.toNat
        obtain ⟨l0, hl0⟩ : ∃ l0, filt q 0 t0.toNat = l0 := ⟨_, rfl⟩
        rw [hl0] at hI hst hll
        have HI := Lib.hid hI
        have HST := Lib.hid hst
        have HSEG := Lib.hid hseg
        have HG1 := Lib.hid g1
        have HL0 := Lib.hid hl0
        have hdayb : -1 ≤ day ∧ day ≤ 36525 := ⟨by omega, by omega⟩
        have s1 : IntKind.i64.wrap (day * 1440) = day * 1440 := IntWalk.i64_in _ (by omega)
        have s2 : IntKind.i64.wrap (day * 1440 + clock) = day * 1440 + clock := IntWalk.i64_in _ (by omega)
        have s3 : IntKind.i64.wrap (day * 1440 + clock - x) = T := by rw [IntWalk.i64_in _ (by omega)]; omega
        clear f1 f2 f3 f5 f6 hgK hs0 hI hst hseg g1 g3 hl0
        dsimp only [encSeg]
        gi_wp2
        refine ⟨(KeepsOthers.alloc W _).from _, KeepsC.alloc _ _ _, ⟨t0, HG1.out, by rw [HL0.out]; exact HI.out.kept (by rw [HKs.out]; exact Nat.le_refl _) (World.grownBy_alloc W _ none) (fun r e => by cases e)⟩, ?_⟩
        rintro Z ⟨t1, hs1, hZ⟩ hTu
        obtain rfl := hs1.det HG1.out
        rw [HL0.out] at hZ
        obtain ⟨⟨v, hv, hrow⟩, hB, hs⟩ := hZ
        have hpb := hTu.heap (World.alloc_heap_new W _) rfl
        obtain ⟨p0, p1⟩ := BoxS.at hpb
        have d0 := (hB.cell (p := ⟨w.heap.size + 1, 0, none⟩) (by show w.heap.size + 1 < K; omega)).trans HE0.out
        have d1' := (hB.cell (p := ⟨w.heap.size + 1 + 1, 0, none⟩) (by show w.heap.size + 1 + 1 < K; omega)).trans HE1.out
        have hc := hv.cell
        have hf := hv.frozen
        have hM1 : l0.length + 1 ≤ maxLen := by unfold maxLen; omega
        have hM2 : (l0.length + 1) * 8 ≤ 140737488355328 := by omega
        have HS1' := Lib.hid hs1
        clear hs1 hTu hpb
        by_cases h1 : t1 ≤ T
        · by_cases h2 : T < t
          · have HR := Lib.hid hrow
            gi_wp2_with (gi_at_builtin; refine wpListIn_append_own _ rfl _ _ 34 rfl (K + 3) 3 i0 (.int .i64 0) 1 8 Try.underlying34 hi hz0 hz1 hz2 rfl (by decide) _ _ _ rfl (hrow.alloc _) ⟨Z.heap.size, 0, none⟩ 1 1 [.int .i64 T] rfl rfl (cell_one_new _ _ _) (by simp [Value.oneCell']) hM1 hM2 (by simp; omega) ?_; intro v' w1' hown' hgrow0 _; have hgrow : World.grownBy (Z.alloc _) w1' v.ownBlock := hgrow0; obtain ⟨g', cap', rfl⟩ := ownsRow_succ hown'; obtain ⟨hv1, hv2, hr2, hk2, hb2⟩ := hv.appended (n₀ := K) (by decide) (ownsRow_less' hrow (by omega)) (by omega) (Nat.le_refl _) (ownsRow_less' hown' (by omega)) hgrow; have hc1 := hv1.cell; have hf1 := hv1.frozen)
            refine ⟨hk2.from _, ?_, t, HSEG.out, ?_⟩
            · refine (KeepsC.alloc _ Z _).trans ((KeepsC.of_grownBy hgrow (fun k e ob hob => ?_)).trans (KeepsC.of_grownBy (grownBy_setCell' _ _ _) (fun k e _ _ => by cases e; exact .inl (.inl rfl))))
              rcases (hrow.alloc _).2 with ⟨rfl, _⟩ | ⟨g, cap, cur, rfl, h5, h6, _⟩
              · simp [Value.ownBlock] at e
              · obtain rfl : k = g := by simpa [Value.ownBlock] using e.symm
                rw [h6] at hob; cases hob
                exact .inl (.inr ⟨h5, _, _, rfl⟩)
            · rw [HST.out, if_pos ⟨h1, h2⟩]
              refine ⟨⟨_, hv2, ?_⟩, hB.trans hb2, Nat.le_trans hs hb2.size⟩
              have h := hown'.kept (grownBy_setCell' w1' K (.slice (some ⟨g', 0, none⟩) (l0.length + 1) cap')) (.inr (hv1.not_row (by decide) hown').symm)
              simpa [intV] using h
          · have h2' : decide (T < t) = false := by simpa using h2
            gi_wp2_with fail
            exact ⟨KeepsFrom.refl _ _, KeepsC.refl _ _, t, HSEG.out, by rw [HST.out, if_neg (fun h => by omega), List.append_nil]; exact ⟨⟨v, hv, hrow⟩, hB, hs⟩⟩
        · have h1' : decide (t1 ≤ T) = false := by simpa using h1
          gi_wp2_with fail
          exact ⟨KeepsFrom.refl _ _, KeepsC.refl _ _, t, HSEG.out, by rw [HST.out, if_neg (fun h => by omega), List.append_nil]; exact ⟨⟨v, hv, hrow⟩, hB, hs⟩⟩
      case done =>
        rintro D xs W hD hSx ⟨t, hs, ⟨⟨v, hv, hrow⟩, hB, hsz⟩⟩ hKD
        obtain rfl := hs.det hSx
        have hc := hv.cell
        have HF4 := Lib.hid f4
        clear f1 f2 f3 f4 f5 f6 hgK hs
        gi_wp2
        refine ⟨by simp, .inl ⟨_, _, rfl, run_takeDeferred hKD, ?_⟩⟩
        have h1 := HF4.out
        rw [maxN_eq, ← HDL.out] at hrow
        have hBw : Below w.heap.size w W := HB1.out.trans (hB.mono (by omega))
        exact ⟨_, results_tmp2 rfl _ _ _, v, rfl, ownsRow_putObj (ownsRow_less' hrow (by omega)) _ hKD rfl, hBw.trans (belowK_b (w := w) (Nat.le_refl _) W D _ _ (by omega) hKD rfl rfl)⟩
      case stop =>
        intro D pre W _ _ h _
        exact h.elim
  · rw [if_neg h0] at hdE
    subst hdE
    rw [if_neg (by omega)] at hdL
    subst hdL
    have h1 : (X != 0) = true := by simpa using h0
    clear hS hok hcb
    go_enter Try.func20, Try.ntmps20
    obtain ⟨b0, b1, b2⟩ := HB0.out
    go_wp2_with (first
      | (go_at_call 12; (with_reducible refine (hv _ (hS3.out)).mono ?_); rintro e w1 ⟨rfl, g1⟩; have HB1 := Lib.hid (below3 g1); obtain ⟨d0, d1⟩ := day_clock g1; clear g1)
      | fail)
    go_ret2
    exact ⟨_, rfl, World.ownsRow_nil _ _ _ _, HB1.out⟩
end Go.Proofs.Ytiohakpbgmignaa

