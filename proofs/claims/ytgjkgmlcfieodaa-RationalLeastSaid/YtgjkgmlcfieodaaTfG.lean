/-
  The program's commonTerms.
-/
import Derived.Test.YtgjkgmlcfieodaaTfE
import Derived.Test.YtgjkgmlcfieodaaRndA
set_option linter.unusedVariables false
set_option linter.unusedSimpArgs false
set_option warningAsError false
namespace Go.Proofs.Ytgjkgmlcfieodaa
open Go.RowKit

section
variable {w0 w w' : World} {B : Nat} {l : List (Nat × TypeId × List Value)} {k : List (Bool × Option Addr × Nat × Nat × Int × Bool)} {e : TypeId} {size : Nat} {v : Value} {n : Nat} {xs : List Value}
theorem Vars.grown (h : Vars w B l) (hg : w.grownBy w' v.ownBlock) (hne : ∀ q ∈ l, some q.1 ≠ v.ownBlock) : Vars w' B l := by
  induction l with
  | nil => exact trivial
  | cons q l ih =>
    refine ⟨⟨?_, h.1.2.1, h.1.2.2⟩, ih h.2 fun p hp => hne p (List.mem_cons_of_mem _ hp)⟩
    have h1 := h.1.1
    exact (hg.block _ h1.lt (hne q List.mem_cons_self)).trans h1
theorem Ints.grown (h : Ints w k) (hr : PRow w B e size v n xs) (hg : w.grownBy w' v.ownBlock) : Ints w' k := by
  induction k with
  | nil => exact trivial
  | cons q k ih => exact ⟨⟨fun x => (h.1.1 x).grown hr hg, fun x => (h.1.2 x).grown hr hg⟩, ih h.2⟩
/-- An append onto an own row leaves the variables and the integers as they were. -/
theorem St.grown (h : St w0 w l k) (hr : PRow w w0.heap.size e size v n xs) (hg : w.grownBy w' v.ownBlock) (hne : ∀ q ∈ l, some q.1 ≠ v.ownBlock) : St w0 w' l k :=
  ⟨h.1.grown hg hne, h.2.1.grown hr hg, Below.grown h.2.2 hg h.2.2.size fun j hj => (hr.1.lt _ hj).1⟩
theorem PRow.far (h : PRow w B e size v n xs) {p : Addr} (hne : some p.block ≠ v.ownBlock) (u : Value) : PRow (w.setCell p u) B e size v n xs := by
  refine ⟨⟨h.1.1, ?_⟩, fun g hg => ?_⟩
  · rcases h.1.2 with hn | ⟨g, cap, cur, rfl, h1, h2, h3⟩
    · exact .inl hn
    · refine .inr ⟨g, cap, cur, rfl, h1, ?_, h3⟩
      exact (Below.heap_setCell w p u g (fun e1 => hne (congrArg some e1.symm))).trans h2
  · obtain ⟨vs, h1, h2⟩ := h.2 g hg
    exact ⟨vs, h1.far (fun e1 => hne (by rw [hg, e1])) u, h2⟩
theorem CanAt.setV {g : Nat} {t : TypeId} {vs : List Value} {s : Bool} {A : Option Addr} {m c : Nat} {z : Int} (h : CanAt w s A m c z) (ho : OwnL w g t vs) (hp : Plains vs) (j : Nat) (u : Value) : CanAt (w.setCell ⟨g, j, none⟩ u) s A m c z :=
  ((Ent.mk_ h).setV ho hp j u).c
theorem TG.set {L : List TE} (h : TG w0 w v L) (hs : St w0 w l k) {i : Nat} {g : Nat} {t : TypeId} {vs : List Value} (hi : l[i]? = some (g, t, vs)) (hne : some g ≠ v.ownBlock) (j : Nat) (u : Value) : TG w0 (w.setCell ⟨g, j, none⟩ u) v L := by
  have hg := hs.1.get hi
  exact ⟨h.1.far (p := ⟨g, j, none⟩) hne u, fun x hx => CanAt.setV (h.2.1 x hx) hg.1 hg.2 j u, h.2.2.setCell (p := ⟨g, j, none⟩) (hs.1.ge _ (List.mem_of_getElem? hi)) u⟩
theorem TG.put4 {L : List TE} (h : TG w0 w v L) (hs : St w0 w l k) (i : Nat) {g : Nat} {t : TypeId} {a b x y : Value} (hi : l[i]? = some (g, t, [a, b, x, y])) (hne : some g ≠ v.ownBlock) (s : Bool) (A : Option Addr) (n c : Nat) (s' : Bool) (A' : Option Addr) (n' c' : Nat) :
    TG w0 ((((w.setCell ⟨g, 0, none⟩ (.bool s)).setCell ⟨g, 1, none⟩ (.slice A n c)).setCell ⟨g, 2, none⟩ (.bool s')).setCell ⟨g, 3, none⟩ (.slice A' n' c')) v L := by
  have hlt : i < l.length := by
    rcases Nat.lt_or_ge i l.length with h2 | h2
    · exact h2
    · rw [List.getElem?_eq_none h2] at hi; cases hi
  have s1 := hs.set hi 0 (Plain.bool s)
  have s2 := s1.set (i := i) (g := g) (t := t) (vs := [.bool s, b, x, y]) (by simp [hlt]) 1 (Plain.slice A n c)
  have s3 := s2.set (i := i) (g := g) (t := t) (vs := [.bool s, .slice A n c, x, y]) (by simp [hlt]) 2 (Plain.bool s')
  exact (((h.set hs hi hne 0 (.bool s)).set s1 (i := i) (g := g) (t := t) (vs := [.bool s, b, x, y]) (by simp [hlt]) hne 1 (.slice A n c)).set s2 (i := i) (g := g) (t := t) (vs := [.bool s, .slice A n c, x, y]) (by simp [hlt]) hne 2 (.bool s')).set s3 (i := i) (g := g) (t := t) (vs := [.bool s, .slice A n c, .bool s', y]) (by simp [hlt]) hne 3 (.slice A' n' c')
end
theorem int_info : (Try.prog.info? 24).map (fun i => (i.zero, i.size, i.bytes)) = some (some (.agg #[.bool false, .slice none 0 0]), 2, 32) := by kernel_rfl
/-- A box of another type is not the row's block. -/
theorem PRow.apart {w : World} {B g : Nat} {e t : TypeId} {size : Nat} {v : Value} {n : Nat} {xs vs : List Value} (h : PRow w B e size v n xs) (ho : OwnL w g t vs) (ht : t ≠ e) : some g ≠ v.ownBlock := by
  intro h1
  obtain ⟨ws, h2, _⟩ := h.2 g h1.symm
  unfold OwnL at ho h2
  rw [ho] at h2
  cases h2
  exact ht rfl
theorem PRow.older {w : World} {B g : Nat} {e : TypeId} {size : Nat} {v : Value} {n : Nat} {xs : List Value} (h : PRow w B e size v n xs) (hg : w.heap.size ≤ g) : some g ≠ v.ownBlock := by
  intro h1
  have := (h.1.lt g h1.symm).2
  omega

/-- The head of the loop of commonTerms, r steps being left. -/
def CtI (w wr : World) (v : Value) (Ts : List Int) (r : Nat) : Prop :=
  ∃ (s1 : Bool) (A1 : Option Addr) (n1 c1 : Nat) (s2 : Bool) (A2 : Option Addr) (n2 c2 : Nat) (s3 : Bool) (A3 : Option Addr) (n3 c3 : Nat) (s4 : Bool) (A4 : Option Addr) (n4 c4 : Nat) (a b c d : Int) (l : List TE),
    St w wr [vf (w.heap.size + 1) s3 A3 n3 c3 s4 A4 n4 c4, vf w.heap.size s1 A1 n1 c1 s2 A2 n2 c2] [(s1, A1, n1, c1, a, false), (s2, A2, n2, c2, b, false), (s3, A3, n3, c3, c, false), (s4, A4, n4, c4, d, false)] ∧
    TG w wr v l ∧ Pos4 a b c d ∧ (Sz a 100 ∧ Sz b 100 ∧ Sz c 100 ∧ Sz d 100) ∧ b + d ≤ r ∧ l.map TE.z ++ terms r a b c d = Ts ∧ ∀ e ∈ l, Sz e.z 100
/-- A list of integers is returned. -/
def RetTL (w : World) (Ts : List Int) (e : Ending) (w' : World) : Prop :=
  ∃ (A : Option Addr) (c : Nat) (l : List TE), e = .returned (.slice A l.length c) ∧ TL w' A l ∧ l.map TE.z = Ts ∧ (∀ e ∈ l, Sz e.z 100) ∧ Below w.heap.size w w'

set_option maxHeartbeats 16000000 in
set_option maxRecDepth 100000 in
theorem commonTerms_at {w : World} {s1 s2 s3 s4 : Bool} {A1 A2 A3 A4 : Option Addr} {n1 c1 n2 c2 n3 c3 n4 c4 : Nat} {a b c d : Int} (h1 : IntAt w s1 A1 n1 c1 a) (h2 : IntAt w s2 A2 n2 c2 b) (h3 : IntAt w s3 A3 n3 c3 c) (h4 : IntAt w s4 A4 n4 c4 d)
    (hz : Sz a 100 ∧ Sz b 100 ∧ Sz c 100 ∧ Sz d 100) (hp : Pos4 a b c d) {R : Nat} (hR : b + d ≤ R) (hlen : (terms R a b c d).length ≤ 10000) :
    Calls Try.prog 23 #[.agg #[.bool s1, .slice A1 n1 c1, .bool s2, .slice A2 n2 c2], .agg #[.bool s3, .slice A3 n3 c3, .bool s4, .slice A4 n4 c4]] w (RetTL w (terms R a b c d)) := by
  obtain ⟨i0, hi, hz0, hz1, hz2⟩ := info_parts int_info
  have H0 := ((((((St.start w).addI h4).addI h3).addI h2).addI h1).new 26 (Plains.four s1 A1 n1 c1 s2 A2 n2 c2)).new 26 (Plains.four s3 A3 n3 c3 s4 A4 n4 c4)
  (try simp only [World.size_alloc] at H0)
  obtain ⟨Ts, HTs⟩ : ∃ v, Hid (terms R a b c d = v) := ⟨_, rfl⟩
  rw [HTs.out] at hlen ⊢
  have HLN := Lib.hid hlen
  have HS0 : Hid (CtI w ((w.alloc (.cells #[.bool s1, .slice A1 n1 c1, .bool s2, .slice A2 n2 c2] 26)).alloc (.cells #[.bool s3, .slice A3 n3 c3, .bool s4, .slice A4 n4 c4] 26)) (.slice none 0 0) Ts R) :=
    ⟨s1, A1, n1, c1, s2, A2, n2, c2, s3, A3, n3, c3, s4, A4, n4, c4, a, b, c, d, [], H0, TG.nil H0.below, hp, hz, hR, HTs.out, fun e he => by cases he⟩
  clear H0 h1 h2 h3 h4 hz hp hR hlen HTs
  go_enter Try.func23, Try.ntmps23
  go_wp2_with fail
  generalize ((w.alloc (.cells #[.bool s1, .slice A1 n1 c1, .bool s2, .slice A2 n2 c2] 26)).alloc (.cells #[.bool s3, .slice A3 n3 c3, .bool s4, .slice A4 n4 c4] 26)) = W0 at HS0 ⊢
  go_loopg [5] R (fun k v wr => CtI w wr v Ts k)
  case atStart => exact HS0.out
  case round =>
    clear HS0
    obtain ⟨s1, A1, n1, c1, s2, A2, n2, c2, s3, A3, n3, c3, s4, A4, n4, c4, a, b, c, d, l, K, G, hp, ⟨za, zb, zc, zd⟩, hk, hts, hlz⟩ := hrel
    obtain ⟨j, rfl⟩ : ∃ j, gk = j + 1 := ⟨gk - 1, by have := hp.pb; have := hp.pd; omega⟩
    have hb0 := hp.pb
    have hd0 := hp.pd
    have za9 : Sz a 900 := za.mono (by decide)
    have zb9 : Sz b 900 := zb.mono (by decide)
    obtain ⟨m, HM⟩ : ∃ v, Hid (-dmQ (-a) b = v) := ⟨_, rfl⟩
    have HMc : Hid (m = cei a b) := by unfold Hid; rw [← HM.out, dmQ_pos hb0]; rfl
    have zm : Sz m 101 := by
      have h1 := cei_hi (a := a) hb0
      have h2 := cei_pos hp.pa hb0
      have h3 : cei a b * 1 ≤ cei a b * b := Int.mul_le_mul_of_nonneg_left (by omega) (by omega)
      rw [HMc.out]
      exact (za.add zb).le (by have := hp.pa; omega)
    have km := zm.ok
    obtain ⟨x, HX⟩ : ∃ v, Hid (m * d = v) := ⟨_, rfl⟩
    have kx : (digs x.natAbs).length ≤ 1000000 := by rw [← HX.out]; exact (zm.mul zd).ok
    obtain ⟨o, HO⟩ : ∃ v, Hid (cmpI x c = v) := ⟨_, rfl⟩
    have G2 := G
    have HP := Lib.hid hp
    have HTS := Lib.hid hts
    have HLZ := Lib.hid hlz
    have HG := Lib.hid G
    have hlen2 : l.length + 1 ≤ 10000 := by
      have h1 := HLN.out
      rw [← hts, List.length_append, List.length_map] at h1
      have : 1 ≤ (terms (j + 1) a b c d).length := by
        by_cases hm : cei a b * d ≤ c
        · rw [terms_stop hm]; simp
        · rw [terms_go hm]; simp
      omega
    clear hp hts hlz G hb0 hd0
    obtain ⟨⟨p4, p5, p6, p7⟩, ⟨p0, p1, p2, p3⟩, _⟩ := K.facts
    go_upto_region 3 with (first
      | (go_at_call 14; have i1 := K.ints.1.i; have i2 := K.ints.2.1.i; (with_reducible refine (ceil_at i1 i2 za9 zb9).mono ?_); rw [HM.out]; rintro ee w2 ⟨B1, m1, k1, rfl, d1, u1, v1, g1⟩; have K1 := ((K.call g1).add (CanAt.mk_ d1 u1 v1)).new 24 (Plains.two (decide (m < 0)) B1 m1 k1); have G3 := (G2.call g1).call (bnew w2 (.cells #[.bool (decide (m < 0)), .slice B1 m1 k1] 24)))
      | fail)
    (try simp only [World.size_alloc] at K1)
    have hlt2 : ∀ g, w2.heap.size ≤ g → some g ≠ u5.ownBlock := fun g hg => (G2.call g1).1.older hg
    clear p0 p1 p2 p3 p4 p5 p6 p7 i1 i2 d1 u1 v1 K
    generalize w2.alloc (.cells #[.bool (decide (m < 0)), .slice B1 m1 k1] 24) = W3 at K1 G3 ⊢
    generalize w2.heap.size = h6 at K1 hlt2 ⊢
    clear G2 g1
    have Kd := K1.drew
    have Gd : TG w W3.drew u5 l := G3.call ((Below.refl _ _).drew)
    clear K1 G3
    obtain ⟨⟨q0, q1⟩, ⟨p4, p5, p6, p7⟩, ⟨p0, p1, p2, p3⟩, _⟩ := Kd.facts
    have im := Kd.ints.1.ci km
    have id_ := Kd.ints.2.2.2.2.1.i
    go_region_held3 (fun w' => w'.cell? ⟨h6, 0, none⟩ = some (.bool (decide (m < 0))) ∧ w'.cell? ⟨h6, 1, none⟩ = some (.slice B1 m1 k1) ∧ w'.cell? ⟨w.heap.size + 1, 0, none⟩ = some (.bool s3) ∧ w'.cell? ⟨w.heap.size + 1, 1, none⟩ = some (.slice A3 n3 c3) ∧ w'.cell? ⟨w.heap.size + 1, 2, none⟩ = some (.bool s4) ∧ w'.cell? ⟨w.heap.size + 1, 3, none⟩ = some (.slice A4 n4 c4))
      (go_keep)
      (first
        | (go_at_call 34; (with_reducible refine (mul_at im id_).mono ?_); rw [HX.out]; rintro ee wa ⟨D1, o1, r1, rfl, d1, u1, v1, ga⟩; have Ka := (Kd.call ga).add (CanAt.mk_ d1 u1 v1); have Ga := Gd.call ga; clear q0 q1 p0 p1 p2 p3 p4 p5 p6 p7; obtain ⟨⟨q0, q1⟩, ⟨p4, p5, p6, p7⟩, ⟨p0, p1, p2, p3⟩, _⟩ := Ka.facts; have ix := Ka.ints.1.ci kx; have ic := Ka.ints.2.2.2.2.1.i)
        | (go_at_call 11; (with_reducible refine (compare_at ix ic).mono ?_); rw [HO.out]; rintro ee wb ⟨rfl, gb⟩; have Kb := Ka.call gb; have Gb := Ga.call gb; clear q0 q1 p0 p1 p2 p3 p4 p5 p6 p7; obtain ⟨⟨q0, q1⟩, ⟨p4, p5, p6, p7⟩, ⟨p0, p1, p2, p3⟩, _⟩ := Kb.facts)
        | fail)
    clear Kd Gd Ka Ga im id_ ix ic d1 u1 v1 ga gb
    by_cases hm : cei a b * d ≤ c
    · have ho : o ≤ 0 := by
        rw [← HO.out, ← HX.out, HMc.out]
        unfold cmpI; split
        · decide
        · rw [if_neg (by omega)]; decide
      have HT2 : Hid (l.map TE.z ++ [m] = Ts) := by unfold Hid; rw [← HTS.out, terms_stop hm, HMc.out]
      have zm1 : Sz m 100 := by
        rw [HMc.out]
        have h2 := cei_pos HP.out.pa HP.out.pb
        have h3 : cei a b * 1 ≤ cei a b * d := Int.mul_le_mul_of_nonneg_left (by have := HP.out.pd; omega) (by omega)
        exact zc.le (by omega)
      clear hm
      go_wp2_with (first
        | (at_builtin; refine wpList_append_p _ rfl _ _ 45 rfl w.heap.size 24 i0 (.agg #[.bool false, .slice none 0 0]) 2 32 Try.underlying45 hi hz0 hz1 hz2 rfl (by decide) (int_plain _ _ _ _) _ _ _ rfl (Gb.call (bnew _ _)).1 ⟨wb.heap.size, 0, none⟩ 1 1 [.bool (decide (m < 0)), .slice B1 m1 k1] rfl rfl (cell_two_new _ _ _ _) (fun u hu => by simp at hu; rcases hu with rfl | rfl <;> rfl) (int_plain _ _ _ _) (by omega) (by unfold maxLen; omega) (by omega) (by have := Gb.2.2.size; simp; omega) ?_; intro v' w4 hp hgr)
        | fail)
      have HX1 : CanAt wb (decide (m < 0)) B1 m1 k1 m := Kb.ints.2.1.c
      have G4 := (Gb.call (bnew _ _)).snoc (x := ⟨decide (m < 0), B1, m1, k1, m⟩) (CanAt.call HX1 (bnew _ _)) hp hgr
      obtain ⟨A', c', hv, hTL⟩ := G4.tl
      rw [List.length_append, List.length_singleton] at hv
      subst hv
      go_ret
      refine ⟨A', c', _, by rw [List.length_append]; rfl, hTL, by rw [List.map_append]; exact HT2.out, fun e he => ?_, G4.2.2⟩
      rcases List.mem_append.1 he with he | he
      · exact HLZ.out e he
      · rw [List.mem_singleton.1 he]; exact zm1
    · have ho : ¬ o ≤ 0 := by
        rw [← HO.out, ← HX.out, HMc.out, cmpI_gt (by omega)]; decide
      obtain ⟨f1, f2, f3, f4, f5, f6, f7, f8, f9⟩ := floors HP.out hm
      have hstep := HP.out.step hm
      obtain ⟨q, HQ⟩ : ∃ v, Hid (dmQ a b = v) := ⟨_, rfl⟩
      obtain ⟨r, HR⟩ : ∃ v, Hid (dmR a b = v) := ⟨_, rfl⟩
      obtain ⟨er, HE⟩ : ∃ v, Hid (dmE b = v) := ⟨_, rfl⟩
      obtain ⟨q2, HQ2⟩ : ∃ v, Hid (dmQ c d = v) := ⟨_, rfl⟩
      obtain ⟨r2, HR2⟩ : ∃ v, Hid (dmR c d = v) := ⟨_, rfl⟩
      obtain ⟨er2, HE2⟩ : ∃ v, Hid (dmE d = v) := ⟨_, rfl⟩
      have hb0 := HP.out.pb
      have hd0 := HP.out.pd
      have hq : q = a / b := by rw [← HQ.out, dmQ_pos hb0]
      have hr : r = a % b := by rw [← HR.out]; unfold dmR; rw [if_neg (by omega), if_pos hb0]
      have hr2 : r2 = c % d := by rw [← HR2.out]; unfold dmR; rw [if_neg (by omega), if_pos hd0]
      have zq : Sz q 100 := by rw [hq]; exact za.le (Int.natAbs_ediv_le_natAbs _ _)
      have zr : Sz r 100 := by rw [hr]; exact zb.le (by omega)
      have zr2 : Sz r2 100 := by rw [hr2]; exact zd.le (by omega)
      have kq := zq.ok
      have kr := zr.ok
      have kr2 := zr2.ok
      have HT2 : Hid ((l.map TE.z ++ [q]) ++ terms j d r2 b r = Ts) := by unfold Hid; rw [← HTS.out, terms_go hm, hq, hr, hr2]; simp
      have HST : Hid (Pos4 d r2 b r) := by unfold Hid; rw [hr, hr2]; exact hstep
      have HK2 : Hid (r2 + r ≤ j) := by unfold Hid; rw [hr, hr2]; omega
      clear f1 f2 f3 f4 f5 f6 f7 f8 f9 hstep hb0 hd0 hq hr hr2 hm
      go_upto_region 6 with (first
        | (go_at_call 47; have i1 := Kb.ints.2.2.1.i; have i2 := Kb.ints.2.2.2.1.i; (with_reducible refine (divMod_at i1 i2).mono ?_); rw [HQ.out, HR.out, HE.out]; rintro ee w5 ⟨E1, x1, y1, E2, x2, y2, rfl, e1, e2, e3, e4, e5, e6, g5⟩; have hlt5 := (Kb.call g5).lt (i := 0) rfl; have K5 := ((((Kb.call g5).add (CanAt.mk_ e4 e5 e6)).add (CanAt.mk_ e1 e2 e3)).new 24 (Plains.two (decide (q < 0)) E1 x1 y1)).new 24 (Plains.two (decide (r < 0)) E2 x2 y2); have G5 := ((Gb.call g5).call (bnew w5 (.cells #[.bool (decide (q < 0)), .slice E1 x1 y1] 24))).call (bnew _ (.cells #[.bool (decide (r < 0)), .slice E2 x2 y2] 24)))
        | fail)
      (try simp only [World.size_alloc] at K5)
      clear p0 p1 p2 p3 p4 p5 p6 p7 q0 q1 i1 i2 e1 e2 e3 e4 e5 e6 Kb Gb g5
      generalize (w5.alloc (.cells #[.bool (decide (q < 0)), .slice E1 x1 y1] 24)).alloc (.cells #[.bool (decide (r < 0)), .slice E2 x2 y2] 24) = W5 at K5 G5 ⊢
      generalize w5.heap.size = h7 at K5 hlt5 ⊢
      obtain ⟨⟨t0, t1⟩, ⟨s0_, s1_⟩, ⟨q0, q1⟩, ⟨p4, p5, p6, p7⟩, ⟨p0, p1, p2, p3⟩, _⟩ := K5.facts
      go_upto_region 7 with (first
        | (go_at_call 47; have i1 := K5.ints.2.2.2.2.2.2.1.i; have i2 := K5.ints.2.2.2.2.2.2.2.1.i; (with_reducible refine (divMod_at i1 i2).mono ?_); rw [HQ2.out, HR2.out, HE2.out]; rintro ee w6 ⟨F1, x3, y3, F2, x4, y4, rfl, e1, e2, e3, e4, e5, e6, g6⟩; have hlt6 := (K5.call g6).lt (i := 0) rfl; have K6 := ((((K5.call g6).add (CanAt.mk_ e4 e5 e6)).add (CanAt.mk_ e1 e2 e3)).new 24 (Plains.two (decide (q2 < 0)) F1 x3 y3)).new 24 (Plains.two (decide (r2 < 0)) F2 x4 y4); have G6 := ((G5.call g6).call (bnew w6 (.cells #[.bool (decide (q2 < 0)), .slice F1 x3 y3] 24))).call (bnew _ (.cells #[.bool (decide (r2 < 0)), .slice F2 x4 y4] 24)))
        | fail)
      (try simp only [World.size_alloc] at K6)
      clear p0 p1 p2 p3 p4 p5 p6 p7 q0 q1 t0 t1 s0_ s1_ i1 i2 e1 e2 e3 e4 e5 e6 K5 G5 g6
      generalize (w6.alloc (.cells #[.bool (decide (q2 < 0)), .slice F1 x3 y3] 24)).alloc (.cells #[.bool (decide (r2 < 0)), .slice F2 x4 y4] 24) = W6 at K6 G6 ⊢
      generalize w6.heap.size = h10 at K6 hlt6 ⊢
      obtain ⟨⟨a0, a1⟩, ⟨b0, b1⟩, ⟨t0, t1⟩, ⟨s0_, s1_⟩, ⟨q0, q1⟩, ⟨p4, p5, p6, p7⟩, ⟨p0, p1, p2, p3⟩, _⟩ := K6.facts
      have hap := fun (g : Nat) (vs : List Value) (ho : OwnL W6 g 26 vs) => G6.1.apart ho (by decide)
      have hne : ∀ p ∈ [vi (h10 + 1) (decide (r2 < 0)) F2 x4 y4, vi h10 (decide (q2 < 0)) F1 x3 y3, vi (h7 + 1) (decide (r < 0)) E2 x2 y2, vi h7 (decide (q < 0)) E1 x1 y1, vi h6 (decide (m < 0)) B1 m1 k1, vf (w.heap.size + 1) s3 A3 n3 c3 s4 A4 n4 c4, vf w.heap.size s1 A1 n1 c1 s2 A2 n2 c2], some p.1 ≠ u5.ownBlock := by
        intro p hp
        simp only [List.mem_cons, List.not_mem_nil, or_false] at hp
        rcases hp with rfl | rfl | rfl | rfl | rfl | rfl | rfl
        · exact hlt2 _ (show h6 ≤ h10 + 1 by omega)
        · exact hlt2 _ (show h6 ≤ h10 by omega)
        · exact hlt2 _ (show h6 ≤ h7 + 1 by omega)
        · exact hlt2 _ (show h6 ≤ h7 by omega)
        · exact hlt2 _ (show h6 ≤ h6 by omega)
        · exact hap _ _ (K6.1.get (i := 5) rfl).1
        · exact hap _ _ (K6.1.get (i := 6) rfl).1
      go_upto_region 8 with (first
        | (at_builtin; refine wpList_append_p _ rfl _ _ 45 rfl w.heap.size 24 i0 (.agg #[.bool false, .slice none 0 0]) 2 32 Try.underlying45 hi hz0 hz1 hz2 rfl (by decide) (int_plain _ _ _ _) _ _ _ rfl (G6.call (bnew _ _)).1 ⟨W6.heap.size, 0, none⟩ 1 1 [.bool (decide (q < 0)), .slice E1 x1 y1] rfl rfl (cell_two_new _ _ _ _) (fun u hu => by simp at hu; rcases hu with rfl | rfl <;> rfl) (int_plain _ _ _ _) (by omega) (by unfold maxLen; omega) (by omega) (by have := G6.2.2.size; simp; omega) ?_; intro v' w7 hp hgr)
        | fail)
      have HX1 : CanAt W6 (decide (q < 0)) E1 x1 y1 q := K6.ints.2.2.1.c
      have G7 := (G6.call (bnew _ _)).snoc (x := ⟨decide (q < 0), E1, x1, y1, q⟩) (CanAt.call HX1 (bnew _ _)) hp hgr
      have K7 := (K6.alloc (.cells #[.bool (decide (q < 0)), .slice E1 x1 y1] 24)).grown (G6.call (bnew _ _)).1 hgr hne
      clear a0 a1 b0 b1 t0 t1 s0_ s1_ q0 q1 p0 p1 p2 p3 p4 p5 p6 p7 HX1 hp hgr hne hap hlt2 K6 G6
      obtain ⟨⟨a0, a1⟩, _, ⟨t0, t1⟩, _, _, ⟨p4, p5, p6, p7⟩, ⟨p0, p1, p2, p3⟩, _⟩ := K7.facts
      obtain ⟨f0, f1, f2, f3⟩ := K7.free (i := 6) rfl
      obtain ⟨f4, f5, f6, f7⟩ := K7.free (i := 5) rfl
      obtain ⟨v0a, v0b⟩ := K7.ne 5 6 rfl rfl (by decide)
      obtain ⟨v1a, v1b⟩ := K7.ne 0 5 rfl rfl (by decide)
      obtain ⟨v2a, v2b⟩ := K7.ne 0 6 rfl rfl (by decide)
      obtain ⟨v3a, v3b⟩ := K7.ne 2 5 rfl rfl (by decide)
      obtain ⟨v4a, v4b⟩ := K7.ne 2 6 rfl rfl (by decide)
      have na := G7.1.apart (K7.1.get (i := 6) rfl).1 (by decide)
      have K8 := K7.put4 6 rfl s4 A4 n4 c4 (decide (r2 < 0)) F2 x4 y4
      have G8 := G7.put4 K7 6 rfl na s4 A4 n4 c4 (decide (r2 < 0)) F2 x4 y4
      simp only [List.set] at K8
      have nb := G8.1.apart (K8.1.get (i := 5) rfl).1 (by decide)
      have K9 := (K8.put4 5 rfl s2 A2 n2 c2 (decide (r < 0)) E2 x2 y2).drew
      have G9 := (G8.put4 K8 5 rfl nb s2 A2 n2 c2 (decide (r < 0)) E2 x2 y2).call ((Below.refl _ _).drew)
      simp only [List.set] at K9
      have KA := ((((K9.erase 0).erase 0).erase 0).erase 0).erase 0
      have KB := KA.ints_ (k' := [(s4, A4, n4, c4, d, false), (decide (r2 < 0), F2, x4, y4, r2, false), (s2, A2, n2, c2, b, false), (decide (r < 0), E2, x2, y2, r, false)]) ⟨K9.ints.2.2.2.2.2.2.2.2.2.1, Ent.mkI (K9.ints.2.1.ci kr2), K9.ints.2.2.2.2.2.2.2.1, Ent.mkI (K9.ints.2.2.2.1.ci kr), trivial⟩
      go_region
      all_goals
        go_wp2_with fail
        go_roundg j
        case rel => exact ⟨s4, A4, n4, c4, decide (r2 < 0), F2, x4, y4, s2, A2, n2, c2, decide (r < 0), E2, x2, y2, d, r2, b, r, _, KB, G9, HST.out, ⟨zd, zr2, zb, zr⟩, HK2.out, by rw [List.map_append]; exact HT2.out, fun e he => (List.mem_append.1 he).elim (HLZ.out e) (fun he => by rw [List.mem_singleton.1 he]; exact zq)⟩
        case measure => omega
end Go.Proofs.Ytgjkgmlcfieodaa

