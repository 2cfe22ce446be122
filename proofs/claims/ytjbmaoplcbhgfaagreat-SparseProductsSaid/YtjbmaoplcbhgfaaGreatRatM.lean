/-
  Fractions as rational numbers; sparse vectors as lists of indexes and rational numbers: mathematics.
-/
import Derived.Test.YtjbmaoplcbhgfaaGreatVecB
set_option linter.unusedVariables false
set_option linter.unusedSimpArgs false
namespace Go.Proofs.YtjbmaoplcbhgfaaGreat
open Go.RowKit

def qv (a b : Int) : Rat := Rat.divInt a b
theorem qv_cross {a b : Int} (hb : b ≠ 0) : (qv a b).num * b = a * ((qv a b).den : Int) := by
  have h := Rat.num_divInt_den (qv a b)
  have hd : (((qv a b).den : Nat) : Int) ≠ 0 := by have := (qv a b).den_pos; omega
  have h2 := (Rat.divInt_eq_divInt_iff hd hb).1 (h.trans (show qv a b = Rat.divInt a b from rfl))
  exact h2
theorem q_gcd (q : Rat) : Int.gcd q.num (q.den : Int) = 1 := by
  have := q.reduced
  unfold Nat.Coprime at this
  unfold Int.gcd
  simpa using this
theorem rn_q (a b : Int) : rn a b = (qv a b).num ∧ rd a b = ((qv a b).den : Int) := by
  by_cases hb : b = 0
  · subst hb
    have h1 := r_zero a
    have h2 : qv a 0 = 0 := Rat.divInt_zero a
    rw [h1.1, h1.2, h2]
    exact ⟨rfl, rfl⟩
  · have hd : (((qv a b).den : Nat) : Int) ≠ 0 := by have := (qv a b).den_pos; omega
    have h1 := r_same (z := a) (d := b) (z' := (qv a b).num) (d' := ((qv a b).den : Int)) hb hd (qv_cross hb).symm
    have h2 := r_self (a := (qv a b).num) (b := ((qv a b).den : Int)) (by have := (qv a b).den_pos; omega) (q_gcd _)
    exact ⟨h1.1.trans h2.1, h1.2.trans h2.2⟩
theorem qv_nd (q : Rat) : qv q.num (q.den : Int) = q := Rat.num_divInt_den q
theorem qv_rn (a b : Int) : qv (rn a b) (rd a b) = qv a b := by rw [(rn_q a b).1, (rn_q a b).2]; exact qv_nd _
theorem qv_mul (a b c d : Int) : qv (a * c) (b * d) = qv a b * qv c d := (Rat.divInt_mul_divInt a c (d₁ := b) (d₂ := d)).symm
theorem qv_add (a b c d : Int) : qv (rn a b * rd c d + rn c d * rd a b) (rd a b * rd c d) = qv a b + qv c d := by
  have h1 : rd a b ≠ 0 := by have := rd_pos a b; omega
  have h2 : rd c d ≠ 0 := by have := rd_pos c d; omega
  have := Rat.divInt_add_divInt (rn a b) (rn c d) h1 h2
  rw [show Rat.divInt (rn a b) (rd a b) = qv a b from qv_rn a b, show Rat.divInt (rn c d) (rd c d) = qv c d from qv_rn c d] at this
  exact this.symm
theorem aN_q (a b c d : Int) : aN a b c d = (qv a b + qv c d).num ∧ aD a b c d = ((qv a b + qv c d).den : Int) := by
  unfold aN aD
  rw [← qv_add]
  exact rn_q _ _
theorem mul_q (a b c d : Int) : rn (a * c) (b * d) = (qv a b * qv c d).num ∧ rd (a * c) (b * d) = ((qv a b * qv c d).den : Int) := by
  rw [← qv_mul]; exact rn_q _ _
theorem can_q {x y : Int} (hy : 0 < y) (hg : Int.gcd x y = 1) : x = (qv x y).num ∧ y = ((qv x y).den : Int) := by
  have h1 := r_self hy hg
  have h2 := rn_q x y
  exact ⟨h1.1.symm.trans h2.1, h1.2.symm.trans h2.2⟩
theorem q_zero (a b : Int) : sgn a * sgn b = 0 ↔ qv a b = 0 := by
  rw [← rn_zero_sgn, (rn_q a b).1]
  exact Rat.num_eq_zero
theorem sgn_nd (q : Rat) : sgn q.num * sgn (q.den : Int) = 0 ↔ q = 0 := by
  rw [q_zero, qv_nd]

theorem sgn_zero2 {z : Int} : sgn z = 0 ↔ z = 0 := by
  unfold sgn cmpI
  constructor
  · intro h
    split at h
    · cases h
    · split at h
      · cases h
      · omega
  · rintro rfl; rfl

/-! ### Sums -/
def sq : List Rat → Rat
  | [] => 0
  | x :: l => x + sq l
theorem sq_append (l m : List Rat) : sq (l ++ m) = sq l + sq m := by
  induction l with
  | nil => show sq m = 0 + sq m; grind
  | cons x l ih => show x + sq (l ++ m) = x + sq l + sq m; rw [ih]; grind
def FE.q (e : FE) : Rat := qv e.a e.b
theorem sumF_q (l : List FE) : sumF l = ((sq (l.map FE.q)).num, ((sq (l.map FE.q)).den : Int)) := by
  suffices ∀ (l : List FE) (p : Rat), l.foldl stepF (p.num, (p.den : Int)) = ((p + sq (l.map FE.q)).num, ((p + sq (l.map FE.q)).den : Int)) by
    have h := this l 0
    rw [show (0 : Rat) + sq (l.map FE.q) = sq (l.map FE.q) by grind] at h
    exact h
  intro l
  induction l with
  | nil =>
    intro p
    show (p.num, (p.den : Int)) = ((p + 0).num, ((p + 0).den : Int))
    rw [show p + 0 = p by grind]
  | cons e l ih =>
    intro p
    rw [List.foldl_cons, List.map_cons]
    have h1 : stepF (p.num, (p.den : Int)) e = ((p + e.q).num, ((p + e.q).den : Int)) := by
      unfold stepF FE.q
      have := aN_q p.num p.den e.a e.b
      rw [qv_nd] at this
      exact Prod.ext this.1 this.2
    rw [h1, ih (p + e.q)]
    show _ = ((p + (e.q + sq (l.map FE.q))).num, ((p + (e.q + sq (l.map FE.q))).den : Int))
    rw [show p + e.q + sq (l.map FE.q) = p + (e.q + sq (l.map FE.q)) by grind]

/-! ### Vectors -/
abbrev QV := List (Int × Rat)
def VE.q (x : VE) : Int × Rat := (x.k, qv x.e.a x.e.b)
def nd (p : Int × Rat) : Int × Int × Int := (p.1, p.2.num, (p.2.den : Int))
theorem q_of_nd {l : List VE} {L : QV} (h : l.map VE.v = L.map nd) : l.map VE.q = L := by
  induction l generalizing L with
  | nil => cases L with | nil => rfl | cons y L => cases h
  | cons x l ih =>
    cases L with
    | nil => cases h
    | cons y L =>
      rw [List.map_cons, List.map_cons] at h
      obtain ⟨h1, h2⟩ := List.cons.inj h
      rw [List.map_cons, ih h2]
      congr 1
      unfold VE.v nd at h1
      simp only [Prod.mk.injEq] at h1
      unfold VE.q
      rw [h1.1, h1.2.1, h1.2.2, qv_nd]
def atQ : QV → Int → Rat
  | [], _ => 0
  | x :: l, i => if x.1 = i then x.2 else atQ l i
theorem atV_q (l : List VE) (i : Int) : atV l i = ((atQ (l.map VE.q) i).num, ((atQ (l.map VE.q) i).den : Int)) := by
  induction l with
  | nil => rfl
  | cons x l ih =>
    rw [List.map_cons]
    unfold atV atQ
    show (if x.k = i then _ else _) = _
    by_cases h : x.k = i
    · rw [if_pos h, if_pos (show (VE.q x).1 = i from h)]
      exact Prod.ext (rn_q _ _).1 (rn_q _ _).2
    · rw [if_neg h, if_neg (show ¬ (VE.q x).1 = i from h), ih]
/-- Indexes ascending behind b, in 0 to n - 1, and no value 0. -/
def okQ (n : Int) : Int → QV → Prop
  | _, [] => True
  | b, x :: l => b < x.1 ∧ 0 ≤ x.1 ∧ x.1 < n ∧ x.2 ≠ 0 ∧ okQ n x.1 l
theorem ok_q {n b : Int} {l : List VE} : vrest n b l = 0 ↔ okQ n b (l.map VE.q) := by
  induction l generalizing b with
  | nil => simp [vrest, okQ]
  | cons x l ih =>
    rw [List.map_cons]
    unfold vrest okQ
    rw [← ih]
    show _ ↔ b < x.k ∧ 0 ≤ x.k ∧ x.k < n ∧ qv x.e.a x.e.b ≠ 0 ∧ vrest n x.k l = 0
    rw [Ne, ← q_zero]
    split
    · constructor
      · intro h; cases h
      · rintro ⟨h1, h2, h3, _⟩; omega
    · split
      · constructor
        · intro h; cases h
        · rintro ⟨h1, h2, h3, _⟩; omega
      · split
        · constructor
          · intro h; cases h
          · rintro ⟨_, _, _, h4, _⟩; contradiction
        · rename_i h1 h2 h3
          constructor
          · intro h; exact ⟨by omega, by omega, by omega, h3, h⟩
          · intro h; exact h.2.2.2.2
theorem okQ.mono {n b c : Int} {l : QV} (h : okQ n b l) (hc : c ≤ b) : okQ n c l := by
  cases l with
  | nil => trivial
  | cons x l => exact ⟨by have := h.1; omega, h.2⟩
theorem okQ.gt {n b : Int} {l : QV} (h : okQ n b l) : ∀ x ∈ l, b < x.1 ∧ 0 ≤ x.1 ∧ x.1 < n := by
  induction l generalizing b with
  | nil => intro x hx; cases hx
  | cons y l ih =>
    intro x hx
    rcases List.mem_cons.1 hx with rfl | hx
    · exact ⟨h.1, h.2.1, h.2.2.1⟩
    · have := ih h.2.2.2.2 x hx
      have := h.1
      omega
theorem atQ_far {l : QV} {i : Int} (h : ∀ x ∈ l, x.1 ≠ i) : atQ l i = 0 := by
  induction l with
  | nil => rfl
  | cons x l ih =>
    unfold atQ
    rw [if_neg (h x (by simp))]
    exact ih fun y hy => h y (by simp [hy])
theorem okQ.far {n b : Int} {l : QV} (h : okQ n b l) {i : Int} (hi : i ≤ b) : atQ l i = 0 := atQ_far fun x hx => by have := (h.gt x hx).1; omega

/-! ### a + k b -/
def nz (i : Int) (q : Rat) : QV := if q = 0 then [] else [(i, q)]
def addQ (k : Rat) : Nat → QV → QV → QV
  | 0, _, _ => []
  | _ + 1, [], [] => []
  | r + 1, x :: a, [] => nz x.1 x.2 ++ addQ k r a []
  | r + 1, [], y :: b => nz y.1 (k * y.2) ++ addQ k r [] b
  | r + 1, x :: a, y :: b => if x.1 < y.1 then nz x.1 x.2 ++ addQ k r a (y :: b) else if y.1 < x.1 then nz y.1 (k * y.2) ++ addQ k r (x :: a) b else nz x.1 (x.2 + k * y.2) ++ addQ k r a b
theorem ok_nz {n b i : Int} {q : Rat} {l : QV} (h1 : b < i) (h2 : 0 ≤ i) (h3 : i < n) (h : okQ n i l) : okQ n b (nz i q ++ l) := by
  unfold nz
  split
  · exact h.mono (by omega)
  · rename_i hq
    exact ⟨h1, h2, h3, hq, h⟩
theorem at_nz {i j : Int} {q : Rat} {l : QV} (h : atQ l i = 0) : atQ (nz i q ++ l) j = if i = j then q else atQ l j := by
  unfold nz
  by_cases hq : q = 0
  · rw [if_pos hq, List.nil_append]
    split
    · rename_i e; rw [← e, h, hq]
    · rfl
  · rw [if_neg hq]; rfl
theorem addQ_ok {k : Rat} {n : Int} : ∀ (r : Nat) (a b : QV) (c : Int), okQ n c a → okQ n c b → okQ n c (addQ k r a b) := by
  intro r
  induction r with
  | zero => intro a b c _ _; unfold addQ; trivial
  | succ r ih =>
    intro a b c ha hb
    match a, b with
    | [], [] => unfold addQ; trivial
    | x :: a, [] => unfold addQ; exact ok_nz ha.1 ha.2.1 ha.2.2.1 (ih a [] _ ha.2.2.2.2 trivial)
    | [], y :: b => unfold addQ; exact ok_nz hb.1 hb.2.1 hb.2.2.1 (ih [] b _ trivial hb.2.2.2.2)
    | x :: a, y :: b =>
      unfold addQ
      split
      · rename_i h
        exact ok_nz ha.1 ha.2.1 ha.2.2.1 (ih a (y :: b) _ ha.2.2.2.2 ⟨h, hb.2⟩)
      · split
        · rename_i h
          exact ok_nz hb.1 hb.2.1 hb.2.2.1 (ih (x :: a) b _ ⟨h, ha.2⟩ hb.2.2.2.2)
        · rename_i h1 h2
          exact ok_nz ha.1 ha.2.1 ha.2.2.1 (ih a b _ ha.2.2.2.2 (by rw [show x.1 = y.1 by omega]; exact hb.2.2.2.2))
theorem addQ_at {k : Rat} {n : Int} : ∀ (r : Nat) (a b : QV) (c : Int), okQ n c a → okQ n c b → a.length + b.length ≤ r → ∀ i, atQ (addQ k r a b) i = atQ a i + k * atQ b i := by
  intro r
  induction r with
  | zero =>
    intro a b c ha hb hr i
    have h1 : a = [] := List.eq_nil_of_length_eq_zero (by omega)
    have h2 : b = [] := List.eq_nil_of_length_eq_zero (by omega)
    subst h1 h2
    show (0 : Rat) = 0 + k * 0
    grind
  | succ r ih =>
    intro a b c ha hb hr i
    match a, b with
    | [], [] => show (0 : Rat) = 0 + k * 0; grind
    | x :: a, [] =>
      unfold addQ
      have h1 := ih a [] x.1 ha.2.2.2.2 trivial (by simp at hr ⊢; omega)
      have h2 := (addQ_ok (k := k) r a [] x.1 ha.2.2.2.2 trivial).far (Int.le_refl _)
      rw [at_nz h2, h1]
      show _ = (if x.1 = i then x.2 else atQ a i) + k * 0
      have h0 : atQ [] i = 0 := rfl
      rw [h0]
      split <;> grind
    | [], y :: b =>
      unfold addQ
      have h1 := ih [] b y.1 trivial hb.2.2.2.2 (by simp at hr ⊢; omega)
      have h2 := (addQ_ok (k := k) r [] b y.1 trivial hb.2.2.2.2).far (Int.le_refl _)
      rw [at_nz h2, h1]
      show _ = 0 + k * (if y.1 = i then y.2 else atQ b i)
      have h0 : atQ [] i = 0 := rfl
      rw [h0]
      split <;> grind
    | x :: a, y :: b =>
      have e1 : atQ (x :: a) i = if x.1 = i then x.2 else atQ a i := rfl
      have e2 : atQ (y :: b) i = if y.1 = i then y.2 else atQ b i := rfl
      unfold addQ
      by_cases h : x.1 < y.1
      · rw [if_pos h]
        have h1 := ih a (y :: b) x.1 ha.2.2.2.2 ⟨h, hb.2⟩ (by simp at hr ⊢; omega)
        have h2 := (addQ_ok (k := k) r a (y :: b) x.1 ha.2.2.2.2 ⟨h, hb.2⟩).far (Int.le_refl _)
        rw [at_nz h2, h1, e1]
        by_cases hx : x.1 = i
        · rw [if_pos hx, if_pos hx]
          have h3 : atQ (y :: b) i = 0 := okQ.far (n := n) (b := x.1) (l := y :: b) ⟨h, hb.2⟩ (by omega)
          rw [h3]; grind
        · rw [if_neg hx, if_neg hx]
      · rw [if_neg h]
        by_cases h' : y.1 < x.1
        · rw [if_pos h']
          have h1 := ih (x :: a) b y.1 ⟨h', ha.2⟩ hb.2.2.2.2 (by simp at hr ⊢; omega)
          have h2 := (addQ_ok (k := k) r (x :: a) b y.1 ⟨h', ha.2⟩ hb.2.2.2.2).far (Int.le_refl _)
          rw [at_nz h2, h1, e2]
          by_cases hy : y.1 = i
          · rw [if_pos hy, if_pos hy]
            have h3 : atQ (x :: a) i = 0 := okQ.far (n := n) (b := y.1) (l := x :: a) ⟨h', ha.2⟩ (by omega)
            rw [h3]; grind
          · rw [if_neg hy, if_neg hy]
        · rw [if_neg h']
          have hxy : x.1 = y.1 := by omega
          have hb2 : okQ n x.1 b := by rw [hxy]; exact hb.2.2.2.2
          have h1 := ih a b x.1 ha.2.2.2.2 hb2 (by simp at hr ⊢; omega)
          have h2 := (addQ_ok (k := k) r a b x.1 ha.2.2.2.2 hb2).far (Int.le_refl _)
          rw [at_nz h2, h1, e1, e2, ← hxy]
          split <;> grind

/-! ### Dot products -/
def dotM : Nat → QV → QV → List Rat
  | r + 1, x :: a, y :: b => if x.1 < y.1 then dotM r a (y :: b) else if y.1 < x.1 then dotM r (x :: a) b else x.2 * y.2 :: dotM r a b
  | _, _, _ => []
def rs (n : Nat) (f : Nat → Rat) : Rat := sq ((List.range n).map f)
theorem rs_succ (n : Nat) (f : Nat → Rat) : rs (n + 1) f = rs n f + f n := by
  unfold rs
  rw [List.range_succ, List.map_append, sq_append]
  show _ + (f n + 0) = _
  grind
theorem rs_lin (n : Nat) (f g h : Nat → Rat) (k : Rat) (e : ∀ i, h i = f i + k * g i) : rs n h = rs n f + k * rs n g := by
  induction n with
  | zero => show (0 : Rat) = 0 + k * 0; grind
  | succ n ih => rw [rs_succ, rs_succ, rs_succ, ih, e]; grind
theorem rs_congr (n : Nat) (f g : Nat → Rat) (e : ∀ i, i < n → f i = g i) : rs n f = rs n g := by
  induction n with
  | zero => rfl
  | succ n ih => rw [rs_succ, rs_succ, ih fun i hi => e i (by omega), e n (by omega)]
theorem rs_zero (n : Nat) (f : Nat → Rat) (e : ∀ i, i < n → f i = 0) : rs n f = 0 := by
  induction n with
  | zero => rfl
  | succ n ih => rw [rs_succ, ih fun i hi => e i (by omega), e n (by omega)]; grind
theorem rs_one (n : Nat) (f : Nat → Rat) (j : Nat) (hj : j < n) (e : ∀ i, i < n → i ≠ j → f i = 0) : rs n f = f j := by
  induction n with
  | zero => omega
  | succ n ih =>
    rw [rs_succ]
    by_cases h : j = n
    · subst h
      rw [rs_zero j f fun i hi => e i (by omega) (by omega)]
      grind
    · rw [ih (by omega) fun i hi hne => e i (by omega) hne, e n (by omega) (fun h' => h h'.symm)]
      grind
/-- The dot product. -/
def dotQ (n : Nat) (a b : QV) : Rat := rs n fun i => atQ a i * atQ b i
theorem dotQ_comm (n : Nat) (a b : QV) : dotQ n a b = dotQ n b a := rs_congr n _ _ fun i _ => by grind
theorem dotQ_add (n : Nat) (a b c s : QV) (k : Rat) (h : ∀ i, atQ s i = atQ a i + k * atQ b i) : dotQ n s c = dotQ n a c + k * dotQ n b c :=
  rs_lin n _ _ _ k fun i => by rw [h]; grind
theorem dotM_sum {n : Nat} : ∀ (r : Nat) (a b : QV) (c : Int), okQ n c a → okQ n c b → a.length + b.length ≤ r → sq (dotM r a b) = dotQ n a b := by
  intro r
  induction r with
  | zero =>
    intro a b c ha hb hr
    have h1 : a = [] := List.eq_nil_of_length_eq_zero (by omega)
    subst h1
    show (0 : Rat) = _
    exact (rs_zero n _ fun i _ => by show (0 : Rat) * _ = 0; grind).symm
  | succ r ih =>
    intro a b c ha hb hr
    match a, b with
    | [], b =>
      show (0 : Rat) = _
      exact (rs_zero n _ fun i _ => by show (0 : Rat) * _ = 0; grind).symm
    | x :: a, [] =>
      show (0 : Rat) = _
      exact (rs_zero n _ fun i _ => by show _ * (0 : Rat) = 0; grind).symm
    | x :: a, y :: b =>
      have e1 : ∀ i, atQ (x :: a) i = if x.1 = i then x.2 else atQ a i := fun _ => rfl
      have e2 : ∀ i, atQ (y :: b) i = if y.1 = i then y.2 else atQ b i := fun _ => rfl
      unfold dotM
      by_cases h : x.1 < y.1
      · rw [if_pos h, ih a (y :: b) x.1 ha.2.2.2.2 ⟨h, hb.2⟩ (by simp at hr ⊢; omega)]
        refine rs_congr n _ _ fun i _ => ?_
        rw [e1]
        by_cases hx : x.1 = i
        · have h3 : atQ (y :: b) i = 0 := okQ.far (n := n) (b := x.1) (l := y :: b) ⟨h, hb.2⟩ (by omega)
          rw [h3]; grind
        · rw [if_neg hx]
      · rw [if_neg h]
        by_cases h' : y.1 < x.1
        · rw [if_pos h', ih (x :: a) b y.1 ⟨h', ha.2⟩ hb.2.2.2.2 (by simp at hr ⊢; omega)]
          refine rs_congr n _ _ fun i _ => ?_
          rw [e2]
          by_cases hy : y.1 = i
          · have h3 : atQ (x :: a) i = 0 := okQ.far (n := n) (b := y.1) (l := x :: a) ⟨h', ha.2⟩ (by omega)
            rw [h3]; grind
          · rw [if_neg hy]
        · rw [if_neg h']
          have hxy : x.1 = y.1 := by omega
          have hb2 : okQ n x.1 b := by rw [hxy]; exact hb.2.2.2.2
          show x.2 * y.2 + sq (dotM r a b) = _
          rw [ih a b x.1 ha.2.2.2.2 hb2 (by simp at hr ⊢; omega)]
          obtain ⟨j, hj⟩ : ∃ j : Nat, x.1 = j := ⟨x.1.toNat, by have := ha.2.1; omega⟩
          have hjn : j < n := by have := ha.2.2.1; omega
          have key : dotQ n (x :: a) (y :: b) = rs n (fun i => atQ a i * atQ b i) + 1 * rs n (fun i => if i = j then x.2 * y.2 else 0) := by
            refine rs_lin n _ _ _ 1 fun i => ?_
            rw [e1, e2, ← hxy, hj]
            have fa : atQ a (j : Int) = 0 := ha.2.2.2.2.far (by omega)
            by_cases hi : i = j
            · subst hi
              rw [if_pos rfl, if_pos rfl, if_pos rfl, fa]; grind
            · rw [if_neg (by omega), if_neg (by omega), if_neg hi]; grind
          rw [key, rs_one n _ j hjn (fun i _ hi => if_neg hi), if_pos rfl]
          unfold dotQ
          grind
end Go.Proofs.YtjbmaoplcbhgfaaGreat

