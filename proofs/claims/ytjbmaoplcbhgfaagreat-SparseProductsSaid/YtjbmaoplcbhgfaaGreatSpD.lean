/-
  The program's and the reference's ToDense.
-/
import Derived.Test.YtjbmaoplcbhgfaaGreatSpC
set_option linter.unusedVariables false
set_option linter.unusedSimpArgs false
namespace Go.Proofs.YtjbmaoplcbhgfaaGreat
open Go.RowKit

/-- What ToDense answers for any dimension. -/
def tdV (l : List VE) (n : Int) : List (Int × Int) := if valid l n = 0 then dnV l n.toNat else []
theorem dnV_succ (l : List VE) (n : Nat) : dnV l (n + 1) = dnV l n ++ [atV l (n : Int)] := by unfold dnV; rw [List.range_succ, List.map_append]; rfl
theorem valid_cases (l : List VE) (n : Int) : valid l n = 0 ∨ valid l n = 5 ∨ valid l n = 8 ∨ valid l n = 11 := by
  have h : ∀ (l : List VE) (b : Int), vrest n b l = 0 ∨ vrest n b l = 5 ∨ vrest n b l = 8 ∨ vrest n b l = 11 := by
    intro l
    induction l with
    | nil => intro b; exact .inl rfl
    | cons x l ih =>
      intro b
      unfold vrest
      split
      · omega
      · split
        · omega
        · split
          · omega
          · exact ih _
  unfold valid
  split
  · omega
  · exact h _ _
theorem set_snoc (C D : List FE) (k : Nat) (e : FE) (hC : C.length = k) (hD : k < D.length) : (C ++ D.drop k).set k e = (C ++ [e]) ++ D.drop (k + 1) := by
  subst hC
  rw [List.set_append, if_neg (by omega), Nat.sub_self, List.drop_eq_getElem_cons hD, List.set_cons_zero, List.append_assoc]
  rfl
theorem get_snoc (C D : List FE) (k : Nat) (hC : C.length = k) : (C ++ D.drop k)[k]? = D[k]? := by
  subst hC
  rw [List.getElem?_append_right (Nat.le_refl _), Nat.sub_self, List.getElem?_drop, Nat.add_zero]
theorem FC.of_own {w : World} {g : Nat} {t : TypeId} {D : List FE} (h : OwnL w g t (flatF D)) (hC : ∀ e ∈ D, FE.C w e) : FC w (some ⟨g, 0, none⟩) D :=
  ⟨hC, fun _ => ⟨g, 0, rfl, h.lt, fun k e hk => flatF_in h k e hk⟩⟩

set_option maxHeartbeats 8000000 in
set_option maxRecDepth 100000 in
theorem rtoDense_at {w : World} {A : Option Addr} {c : Nat} {l : List VE} {n : Int} (hF : VL w A l) (hS : ∀ x ∈ l, FE.S 1900 x.e) (hl : l.length ≤ 1000000) (hn1 : -9223372036854775808 ≤ n) (hn2 : n ≤ 9223372036854775807) :
    Calls Tryz.prog 34 #[.slice A l.length c, .int .i64 n] w (RetFL w (tdV l n) (valid l n)) := by
  have hv := rvalid_at (w := w) (A := A) (c := c) (l := l) (n := n) hF hS hl hn1 hn2
  have hfin : ∀ er, valid l n = er → er ≠ 0 → RetFL w (tdV l n) (valid l n) = RetFL w [] er := fun er h1 h2 => by unfold tdV; rw [h1, if_neg h2]
  by_cases hok : valid l n = 0
  rotate_left
  · have hb : ∃ er : Int, valid l n = er ∧ (er = 5 ∨ er = 8 ∨ er = 11) := ⟨_, rfl, by rcases valid_cases l n with h | h | h | h <;> omega⟩
    obtain ⟨er, he, hcs⟩ := hb
    rw [hfin er he (by omega)]
    rw [he] at hv
    clear hfin hok he hF hS
    rcases hcs with rfl | rfl | rfl
    all_goals
      go_enter Tryz.func34, Tryz.ntmps34
      go_wp2_with (first
        | (go_at_call 26; (with_reducible refine hv.mono ?_); rintro e w1 ⟨rfl, g1⟩)
        | fail)
      go_ret2
      exact ⟨none, 0, [], rfl, rfl, ⟨fun e he => (by cases he), fun h => (by simp at h)⟩, g1⟩
  have hT : RetFL w (tdV l n) (valid l n) = RetFL w (dnV l n.toNat) 0 := by unfold tdV; rw [hok, if_pos rfl]
  rw [hT]
  rw [hok] at hv
  obtain ⟨h0, h4096, hr⟩ := valid_zero hok
  have HR := Lib.hid hr
  clear hfin hT hok hr
  obtain ⟨N, rfl⟩ : ∃ N : Nat, n = N := ⟨n.toNat, by omega⟩
  rw [Int.toNat_natCast]
  have HF := Lib.hid hF
  have HSS := Lib.hid hS
  clear hF hS
  obtain ⟨L, HL⟩ : ∃ v, Hid (l.length = v) := ⟨_, rfl⟩
  rw [HL.out] at hl hv
  rw [HL.out]
  go_enter Tryz.func34, Tryz.ntmps34
  go_upto_region 6 with (first
    | (go_at_call 26; (with_reducible refine hv.mono ?_); rintro e w1 ⟨rfl, g1⟩; have hmk := make_n w1 N (by omega); have K0 : St w (w1.alloc (.cells (flatF (List.replicate N zeroFE)).toArray 28)) [(w1.heap.size, 28, flatF (List.replicate N zeroFE))] [] := ((St.start w).call g1).new 28 (flatF_plain _))
    | fail)
  clear hmk hv
  generalize w1.alloc (.cells (flatF (List.replicate N zeroFE)).toArray 28) = W1 at K0 ⊢
  generalize w1.heap.size = G at K0 ⊢
  clear g1
  obtain ⟨D, HD⟩ : ∃ v, Hid (List.replicate N zeroFE = v) := ⟨_, rfl⟩
  have HP : Hid (D.length = N) := by unfold Hid; rw [← HD.out, List.length_replicate]
  rw [HD.out] at K0
  go_loopg [8] N (fun r q wr => ∃ (k : Nat) (C : List FE), k + r = N ∧ q = .int .i64 k ∧ C.length = k ∧ St w wr [(G, 28, flatF (C ++ D.drop k))] [] ∧ (∀ e ∈ C, FE.C wr e) ∧ C.map FE.v = dnV l k)
  case atStart => exact ⟨0, [], by omega, rfl, rfl, K0, fun e he => (by cases he), rfl⟩
  case round =>
    obtain ⟨k, C, hk, rfl, hC, K, hCC, hM⟩ := hrel
    by_cases hlt : k < N
    · obtain ⟨f, hf⟩ : ∃ f, D[k]? = some f := ⟨D[k]'(by rw [HP.out]; exact hlt), List.getElem?_eq_getElem _⟩
      have hget := (get_snoc C D k hC).trans hf
      have hset := fun e => set_snoc C D k e hC (by rw [HP.out]; exact hlt)
      have hdn := dnV_succ l k
      have hlenD : (C ++ D.drop k).length = N := by rw [List.length_append, List.length_drop, HP.out]; omega
      obtain ⟨x, HX⟩ : ∃ v, Hid ((atV l (k : Int)).1 = v) := ⟨_, rfl⟩
      obtain ⟨y, HY⟩ : ∃ v, Hid ((atV l (k : Int)).2 = v) := ⟨_, rfl⟩
      have hxy : atV l (k : Int) = (x, y) := by rw [← HX.out, ← HY.out]
      rw [hxy] at hdn
      have HDN := Lib.hid hdn
      have HM := Lib.hid hM
      have HCL := Lib.hid hC
      have HSET := Lib.hid hset
      have HXY := Lib.hid hxy
      have j0 : (0 : Int) ≤ (k : Int) := by omega
      have j1 : (k : Int) < (N : Int) := by omega
      have HK := Lib.hid hk
      have HLT := Lib.hid hlt
      clear hk hdn hM hset hC hxy
      have hGlt : G < wr.heap.size := K.lt (i := 0) rfl
      have I0 := HF.out.call K.below
      have hat := rat_at (c := c) (i := (k : Int)) I0 HSS.out (by rw [HL.out]; exact hl)
      rw [HL.out, HX.out, HY.out] at hat
      have HGET := Lib.hid hget
      clear I0 hget hf
      go_wp2_with (first
        | (go_at_call 29; (with_reducible refine hat.mono ?_); rintro ee w3 ⟨D1, o1, r1, D2, o2, r2, rfl, e1, e2, g3⟩; have K3 := K.call g3; have hC3 := fun e he => (hCC e he).call g3; have fz := fun j => (K3.1.get (i := 0) rfl).1.frozen j; have z0 := fz (k * 4); have z1 := fz (k * 4 + 1); have z2 := fz (k * 4 + 2); have z3 := fz (k * 4 + 3); have dd := flatF_in (K3.1.get (i := 0) rfl).1 k _ HGET.out; simp only [Nat.zero_add] at dd; obtain ⟨d0, d1, d2, d3⟩ := dd)
        | fail)
      have own3 := (K3.1.get (i := 0) rfl).1
      have K4 := K3.putF k (by rw [hlenD]; exact HLT.out) ⟨decide (x < 0), D1, o1, r1, decide (y < 0), D2, o2, r2, x, y⟩
      rw [HSET.out] at K4
      have hC4 : ∀ e ∈ C ++ [(⟨decide (x < 0), D1, o1, r1, decide (y < 0), D2, o2, r2, x, y⟩ : FE)], FE.C _ e := fun e he => by
        have h0 : FE.C w3 e := by
          rcases List.mem_append.1 he with he | he
          · exact hC3 e he
          · rw [List.mem_singleton.1 he]; exact ⟨e1, e2⟩
        exact h0.putF own3 (flatF_plain _) k ⟨decide (x < 0), D1, o1, r1, decide (y < 0), D2, o2, r2, x, y⟩
      simp only at K4 hC4
      go_roundg (gk - 1)
      case rel => exact ⟨k + 1, _, by have := HK.out; have := HLT.out; omega, by go_num, by rw [List.length_append, HCL.out]; rfl, K4, hC4, by rw [HDN.out, ← HM.out, List.map_append]; rfl⟩
      case measure => have := HK.out; have := HLT.out; omega
    · obtain rfl : k = N := by omega
      have hnil : D.drop k = [] := List.drop_eq_nil_of_le (by rw [HP.out]; exact Nat.le_refl _)
      rw [hnil, List.append_nil] at K
      have j1 : ¬ (k : Int) < (k : Int) := by omega
      have own := (K.1.get (i := 0) rfl).1
      have hFC := FC.of_own own hCC
      have hB := K.below
      go_wp2_with fail
      go_ret2
      exact ⟨some ⟨G, 0, none⟩, k, C, by rw [hC]; rfl, hM, hFC, hB⟩

end Go.Proofs.YtjbmaoplcbhgfaaGreat

