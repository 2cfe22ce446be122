/-
  The walk of the law SparseLinear.
-/
import Derived.Test.YtjbmaoplcbhgfaaGreatSpH
import Derived.Test.YtjbmaoplcbhgfaaGreatSpDW
set_option linter.unusedVariables false
set_option linter.unusedSimpArgs false
namespace Go.Proofs.YtjbmaoplcbhgfaaGreat
open Go.RowKit

/-! ### Sizes -/
def SzQ (q : Rat) (K : Nat) : Prop := Sz q.num K ∧ Sz (q.den : Int) K
theorem SzQ.mono {q : Rat} {K M : Nat} (h : SzQ q K) (hK : K ≤ M) : SzQ q M := ⟨h.1.mono hK, h.2.mono hK⟩
theorem SzQ.of {a b : Int} {K : Nat} (ha : Sz a K) (hb : Sz b K) (hK : 0 < K) : SzQ (qv a b) (K + 2) := sz_q ha hb hK
theorem SzQ.add {p q : Rat} {K M : Nat} (hp : SzQ p K) (hq : SzQ q M) (hK : 0 < K) (hM : 0 < M) : SzQ (p + q) (K + M + 3) := by
  have h := sz_aN2 hp.1 hp.2 hq.1 hq.2 hK hM
  have e := aN_q p.num p.den q.num q.den
  rw [qv_nd, qv_nd] at e
  rw [e.1, e.2] at h
  exact h
theorem SzQ.mul {p q : Rat} {K M : Nat} (hp : SzQ p K) (hq : SzQ q M) (hK : 0 < K) (hM : 0 < M) : SzQ (p * q) (K + M + 2) := by
  have e := mul_q p.num p.den q.num q.den
  rw [qv_nd, qv_nd] at e
  unfold SzQ
  rw [← e.1, ← e.2]
  exact ⟨(sz_rn (hp.1.mul hq.1)).mono (by omega), (sz_rd (hp.2.mul hq.2) (by omega)).mono (by omega)⟩
theorem sq_size {K : Nat} (hK : 0 < K) (l : List Rat) (h : ∀ x ∈ l, SzQ x K) : SzQ (sq l) ((K + 3) * l.length + 2) := by
  induction l with
  | nil => exact ⟨Sz.zero _, (sz_i64 (x := 1) (by decide) (by decide)).mono (by simp)⟩
  | cons x l ih =>
    have h1 := (h x (by simp)).add (ih fun y hy => h y (by simp [hy])) hK (by omega)
    rw [List.length_cons, Nat.mul_succ]
    exact h1.mono (by omega)
theorem dotM_mem {P Q : Rat → Prop} : ∀ (r : Nat) (a b : QV), (∀ x ∈ a, P x.2) → (∀ y ∈ b, Q y.2) → ∀ z ∈ dotM r a b, ∃ x y, P x ∧ Q y ∧ z = x * y := by
  intro r
  induction r with
  | zero => intro a b _ _ z hz; cases hz
  | succ r ih =>
    intro a b ha hb z hz
    match a, b with
    | [], b => cases hz
    | x :: a, [] => cases hz
    | x :: a, y :: b =>
      unfold dotM at hz
      split at hz
      · exact ih a (y :: b) (fun u hu => ha u (by simp [hu])) hb z hz
      · split at hz
        · exact ih (x :: a) b ha (fun u hu => hb u (by simp [hu])) z hz
        · rcases List.mem_cons.1 hz with rfl | hz
          · exact ⟨x.2, y.2, ha x (by simp), hb y (by simp), rfl⟩
          · exact ih a b (fun u hu => ha u (by simp [hu])) (fun u hu => hb u (by simp [hu])) z hz
theorem dotM_len : ∀ (r : Nat) (a b : QV), (dotM r a b).length ≤ a.length ∧ (dotM r a b).length ≤ b.length := by
  intro r
  induction r with
  | zero => intro a b; show 0 ≤ _ ∧ 0 ≤ _; omega
  | succ r ih =>
    intro a b
    match a, b with
    | [], b => show 0 ≤ _ ∧ 0 ≤ _; omega
    | x :: a, [] => show 0 ≤ _ ∧ 0 ≤ _; omega
    | x :: a, y :: b =>
      unfold dotM
      split
      · have := ih a (y :: b); simp at this ⊢; omega
      · split
        · have := ih (x :: a) b; simp at this ⊢; omega
        · have := ih a b; simp at this ⊢; omega
theorem dotQ_size {n : Nat} {a b : QV} {c : Int} {K M T : Nat} (ha : okQ n c a) (hb : okQ n c b) (sa : ∀ x ∈ a, SzQ x.2 K) (sb : ∀ y ∈ b, SzQ y.2 M) (hK : 0 < K) (hM : 0 < M) (hT : ∀ k, k ≤ a.length → k ≤ b.length → (K + M + 5) * k + 2 ≤ T) : SzQ (dotQ n a b) T := by
  rw [← dotM_sum (a.length + b.length) a b c ha hb (Nat.le_refl _)]
  have hl := dotM_len (a.length + b.length) a b
  refine (sq_size (K := K + M + 2) (by omega) _ fun z hz => ?_).mono (hT _ hl.1 hl.2)
  obtain ⟨x, y, hx, hy, rfl⟩ := dotM_mem (P := fun q => SzQ q K) (Q := fun q => SzQ q M) _ a b sa sb z hz
  exact hx.mul hy hK hM
/-- A fraction of numbers of K digits. -/
def QN (K : Nat) (q : Rat) : Prop := ∃ a b, Sz a K ∧ Sz b K ∧ q = qv a b
theorem dotQ_size2 {n : Nat} {a b : QV} {c : Int} {K M T : Nat} (ha : okQ n c a) (hb : okQ n c b) (sa : ∀ x ∈ a, QN K x.2) (sb : ∀ y ∈ b, QN M y.2) (hK : 0 < K) (hT : ∀ k, k ≤ a.length → k ≤ b.length → (K + M + 5) * k + 2 ≤ T) : SzQ (dotQ n a b) T := by
  rw [← dotM_sum (a.length + b.length) a b c ha hb (Nat.le_refl _)]
  have hl := dotM_len (a.length + b.length) a b
  refine (sq_size (K := K + M + 2) (by omega) _ fun z hz => ?_).mono (hT _ hl.1 hl.2)
  obtain ⟨x, y, ⟨a1, b1, u1, v1, rfl⟩, ⟨a2, b2, u2, v2, rfl⟩, rfl⟩ := dotM_mem (P := QN K) (Q := QN M) _ a b sa sb z hz
  rw [← qv_mul]
  exact (SzQ.of (u1.mul u2) (v1.mul v2) (by omega)).mono (by omega)
theorem ve_qn {l : List VE} {K : Nat} (h : ∀ x ∈ l, FE.S K x.e) : ∀ z ∈ l.map VE.q, QN K z.2 := by
  intro z hz
  obtain ⟨x, hx, rfl⟩ := List.mem_map.1 hz
  exact ⟨x.e.a, x.e.b, (h x hx).1, (h x hx).2, rfl⟩
theorem addQ_mem {P : Rat → Prop} {k : Rat} : ∀ (r : Nat) (a b : QV), (∀ x ∈ a, P x.2) → (∀ y ∈ b, P (k * y.2)) → (∀ x ∈ a, ∀ y ∈ b, P (x.2 + k * y.2)) → ∀ z ∈ addQ k r a b, P z.2 := by
  intro r
  induction r with
  | zero => intro a b _ _ _ z hz; cases hz
  | succ r ih =>
    intro a b ha hb hab z hz
    have hnz : ∀ (i : Int) (q : Rat) (l : QV), P q → (∀ z ∈ l, P z.2) → z ∈ nz i q ++ l → P z.2 := by
      intro i q l hq hl hz
      rcases List.mem_append.1 hz with h | h
      · unfold nz at h
        split at h
        · cases h
        · rw [List.mem_singleton.1 h]; exact hq
      · exact hl z h
    match a, b with
    | [], [] => cases hz
    | x :: a, [] =>
      unfold addQ at hz
      exact hnz _ _ _ (ha x (by simp)) (fun u hu => ih a [] (fun u hu => ha u (by simp [hu])) (fun u hu => by cases hu) (fun _ _ u hu => by cases hu) u hu) hz
    | [], y :: b =>
      unfold addQ at hz
      exact hnz _ _ _ (hb y (by simp)) (fun u hu => ih [] b (fun u hu => by cases hu) (fun u hu => hb u (by simp [hu])) (fun u hu => by cases hu) u hu) hz
    | x :: a, y :: b =>
      unfold addQ at hz
      split at hz
      · exact hnz _ _ _ (ha x (by simp)) (fun u hu => ih a (y :: b) (fun u hu => ha u (by simp [hu])) hb (fun u hu v hv => hab u (by simp [hu]) v hv) u hu) hz
      · split at hz
        · exact hnz _ _ _ (hb y (by simp)) (fun u hu => ih (x :: a) b ha (fun u hu => hb u (by simp [hu])) (fun u hu v hv => hab u hu v (by simp [hv])) u hu) hz
        · exact hnz _ _ _ (hab x (by simp) y (by simp)) (fun u hu => ih a b (fun u hu => ha u (by simp [hu])) (fun u hu => hb u (by simp [hu])) (fun u hu v hv => hab u (by simp [hu]) v (by simp [hv])) u hu) hz
theorem addQ_len {k : Rat} : ∀ (r : Nat) (a b : QV), (addQ k r a b).length ≤ a.length + b.length := by
  intro r
  induction r with
  | zero => intro a b; show 0 ≤ _; omega
  | succ r ih =>
    intro a b
    have hnz : ∀ (i : Int) (q : Rat), (nz i q).length ≤ 1 := fun i q => by unfold nz; split <;> simp
    match a, b with
    | [], [] => show 0 ≤ _; omega
    | x :: a, [] => unfold addQ; have := ih a []; have := hnz x.1 x.2; simp at *; omega
    | [], y :: b => unfold addQ; have := ih [] b; have := hnz y.1 (k * y.2); simp at *; omega
    | x :: a, y :: b =>
      unfold addQ
      split
      · have := ih a (y :: b); have := hnz x.1 x.2; simp at *; omega
      · split
        · have := ih (x :: a) b; have := hnz y.1 (k * y.2); simp at *; omega
        · have := ih a b; have := hnz x.1 (x.2 + k * y.2); simp at *; omega
theorem ve_szq {l : List VE} {K : Nat} (h : ∀ x ∈ l, FE.S K x.e) (hK : 0 < K) : ∀ z ∈ l.map VE.q, SzQ z.2 (K + 2) := by
  intro z hz
  obtain ⟨x, hx, rfl⟩ := List.mem_map.1 hz
  exact SzQ.of (h x hx).1 (h x hx).2 hK
/-- The entries of a vector with values in num and den. -/
theorem nd_sz {l : List VE} {L : QV} {K : Nat} (h : l.map VE.v = L.map nd) (hL : ∀ z ∈ L, SzQ z.2 K) : ∀ x ∈ l, FE.S K x.e := by
  intro x hx
  have h1 : VE.v x ∈ L.map nd := by rw [← h]; exact List.mem_map.2 ⟨x, hx, rfl⟩
  obtain ⟨z, hz, e⟩ := List.mem_map.1 h1
  have := hL z hz
  unfold nd VE.v at e
  simp only [Prod.mk.injEq] at e
  unfold FE.S
  rw [← e.2.1, ← e.2.2]
  exact this
theorem q_valid {l : List VE} {L : QV} {n : Int} (h : l.map VE.v = L.map nd) (hn0 : 0 ≤ n) (hn1 : n ≤ 4096) (hL : okQ n (-1) L) : valid l n = 0 := by
  unfold valid
  rw [if_neg (by omega), ok_q, q_of_nd h]
  exact hL
theorem CanAt.n_le {w : World} {s : Bool} {A : Option Addr} {n c K : Nat} {z : Int} (h : CanAt w s A n c z) (hz : Sz z K) : n ≤ K := by
  rw [← h.2.1.len]
  exact hz.len

/-! ### Light of three vectors -/
theorem light3_3 {w : World} {A B C : Option Addr} {c d e : Nat} {l m k : List VE} (h1 : VV.Ok w ⟨A, c, l⟩) (h2 : VV.Ok w ⟨B, d, m⟩) (h3 : VV.Ok w ⟨C, e, k⟩) (b : Bool) (hb : b = true ↔ (∀ x ∈ l, LtE x) ∧ (∀ x ∈ m, LtE x) ∧ (∀ x ∈ k, LtE x) ∧ l.length + m.length + k.length ≤ 60) :
    Calls Tryz.prog 5 #[.slice (some ⟨w.heap.size, 0, none⟩) 3 3] (w.alloc (.cells #[.slice A l.length c, .slice B m.length d, .slice C k.length e] 23)) (RetB1 (w.alloc (.cells #[.slice A l.length c, .slice B m.length d, .slice C k.length e] 23)) b) := by
  have hh := Go.Deep.blk_alloc_new w (.cells #[.slice A l.length c, .slice B m.length d, .slice C k.length e] 23)
  have hok : ∀ v : VV, VV.Ok w v → VV.Ok (w.alloc (.cells #[.slice A l.length c, .slice B m.length d, .slice C k.length e] 23)) v := fun v hv => by
    refine ⟨hv.1, hv.2.1, fun h => ?_⟩
    obtain ⟨g, o, e1, e2, e3⟩ := hv.2.2 h
    exact ⟨g, o, e1, by simp; omega, fun k x hx => (e3 k x hx).call e2 (bnew _ _)⟩
  refine light3_any w.heap.size [⟨A, c, l⟩, ⟨B, d, m⟩, ⟨C, e, k⟩] 3 _ (by simp) (by simp) (fun v hv => ?_) (fun i v hv => ?_) b (hb.trans ?_)
  · simp only [List.mem_cons, List.not_mem_nil, or_false] at hv
    rcases hv with rfl | rfl | rfl
    · exact hok _ h1
    · exact hok _ h2
    · exact hok _ h3
  · match i, hv with
    | 0, hv => simp only [List.getElem?_cons_zero, Option.some.injEq] at hv; subst hv; simp
    | 1, hv => simp only [List.getElem?_cons_succ, List.getElem?_cons_zero, Option.some.injEq] at hv; subst hv; simp
    | 2, hv => simp only [List.getElem?_cons_succ, List.getElem?_cons_zero, Option.some.injEq] at hv; subst hv; simp
    | i + 3, hv => simp at hv
  · unfold AllL tot tot tot tot
    simp
    constructor
    · rintro ⟨a1, a2, a3, a4⟩; exact ⟨⟨a1, a2, a3⟩, by omega⟩
    · rintro ⟨⟨a1, a2, a3⟩, a4⟩; exact ⟨a1, a2, a3, by omega⟩
theorem VP.call {w w' : World} {A : Option Addr} {l : List VE} (h : VP w A l) (hb : Below w.heap.size w w') : VP w' A l := by
  refine ⟨fun x hx => ?_, h.2.1, fun hl => ?_⟩
  · obtain ⟨da, db, h1, h2, e⟩ := h.1 x hx
    exact ⟨da, db, ⟨(h1.1.below hb).more hb.size, h1.2⟩, ⟨(h2.1.below hb).more hb.size, h2.2⟩, e⟩
  · obtain ⟨g, o, e1, e2, e3⟩ := h.2.2 hl
    exact ⟨g, o, e1, Nat.lt_of_lt_of_le e2 hb.size, fun k e hk => (e3 k e hk).call e2 hb⟩
end Go.Proofs.YtjbmaoplcbhgfaaGreat

