/-
  Zones: offsets, parts with one offset, spans that cover what is so, counting and listing minute by minute (mathematics).
-/
import Derived.Test.YtiohakpbgmignaaTbI
set_option linter.unusedVariables false
set_option linter.unusedSimpArgs false
namespace Go.Proofs.Ytiohakpbgmignaa

def atS (ss : List (Int × Int)) (i : Nat) : Int := (ss.getD i (0, 0)).1
def ofS (ss : List (Int × Int)) (i : Nat) : Int := (ss.getD i (0, 0)).2
theorem drop_sh {ss : List (Int × Int)} {i : Nat} (h : i < ss.length) : ss.drop i = (atS ss i, ofS ss i) :: ss.drop (i + 1) := by
  rw [List.drop_eq_getElem_cons h]
  congr 1
  simp [atS, ofS, List.getD, List.getElem?_eq_getElem h]

/-- The offset at t: of the last shift that is not later. -/
def offs (o : Int) : List (Int × Int) → Int → Int
  | [], _ => o
  | s :: ss, t => offs (if s.1 ≤ t then s.2 else o) ss t
def okI (t : Int) : Bool := decide (0 ≤ t ∧ t < 52596000)
def okO (x : Int) : Bool := decide (-840 ≤ x ∧ x ≤ 840)
def shE : Int → List (Int × Int) → Int
  | _, [] => 0
  | p, s :: ss => if (okI s.1 && okO s.2) = false then 5 else if s.1 ≤ p then 8 else shE s.1 ss
def prevS (ss : List (Int × Int)) (i : Nat) : Int := if i = 0 then -1 else atS ss (i - 1)
theorem shE_at {ss : List (Int × Int)} {i : Nat} (h : i < ss.length) :
    shE (prevS ss i) (ss.drop i) = if (okI (atS ss i) && okO (ofS ss i)) = false then 5 else if atS ss i ≤ prevS ss i then 8 else shE (prevS ss (i + 1)) (ss.drop (i + 1)) := by
  rw [drop_sh h, shE]
  have : prevS ss (i + 1) = atS ss i := by simp [prevS]
  rw [this]
theorem shE_end (ss : List (Int × Int)) : shE (prevS ss ss.length) (ss.drop ss.length) = 0 := by
  rw [List.drop_length]; rfl
def zE (nm : Bool) (o : Int) (ss : List (Int × Int)) : Int := if nm = false then 1 else if okO o = false then 5 else if 16 < ss.length then 10 else shE (prevS ss 0) ss

structure ZOk (o : Int) (ss : List (Int × Int)) : Prop where
  o : -840 ≤ o ∧ o ≤ 840
  len : ss.length ≤ 16
  all : ∀ s ∈ ss, (0 ≤ s.1 ∧ s.1 < 52596000) ∧ -840 ≤ s.2 ∧ s.2 ≤ 840
  asc : ss.Pairwise (fun a b => a.1 < b.1)
theorem shE_ok : ∀ (ss : List (Int × Int)) (p : Int), shE p ss = 0 → (∀ s ∈ ss, p < s.1 ∧ (0 ≤ s.1 ∧ s.1 < 52596000) ∧ -840 ≤ s.2 ∧ s.2 ≤ 840) ∧ ss.Pairwise (fun a b => a.1 < b.1)
  | [], _, _ => ⟨fun s h => (by cases h), List.Pairwise.nil⟩
  | s :: ss, p, h => by
    unfold shE at h
    split at h
    · cases h
    · rename_i h1
      split at h
      · cases h
      · rename_i h2
        obtain ⟨i1, i2⟩ := shE_ok ss s.1 h
        have h3 : okI s.1 = true ∧ okO s.2 = true := by simpa using h1
        unfold okI okO at h3
        simp only [decide_eq_true_eq] at h3
        refine ⟨fun r hr => ?_, List.Pairwise.cons (fun r hr => (i1 r hr).1) i2⟩
        rcases List.mem_cons.1 hr with rfl | hr
        · exact ⟨by omega, h3.1, h3.2⟩
        · have := i1 r hr
          exact ⟨by omega, this.2⟩
theorem zE_ok {nm : Bool} {o : Int} {ss : List (Int × Int)} (h : zE nm o ss = 0) : nm = true ∧ ZOk o ss := by
  unfold zE at h
  split at h
  · cases h
  · rename_i h1
    split at h
    · cases h
    · rename_i h2
      split at h
      · cases h
      · rename_i h3
        obtain ⟨i1, i2⟩ := shE_ok ss _ h
        have h4 : okO o = true := by simpa using h2
        unfold okO at h4
        simp only [decide_eq_true_eq] at h4
        exact ⟨by simpa using h1, h4, by omega, fun s hs => (i1 s hs).2, i2⟩
theorem offs_late : ∀ (ss : List (Int × Int)) (o t : Int), (∀ s ∈ ss, t < s.1) → offs o ss t = o
  | [], _, _, _ => rfl
  | s :: ss, o, t, h => by
    have h1 := h s (List.mem_cons_self ..)
    unfold offs
    rw [if_neg (by omega)]
    exact offs_late ss o t (fun r hr => h r (List.mem_cons_of_mem _ hr))
theorem offs_bound : ∀ (ss : List (Int × Int)) (o t : Int), (-840 ≤ o ∧ o ≤ 840) → (∀ s ∈ ss, -840 ≤ s.2 ∧ s.2 ≤ 840) → -840 ≤ offs o ss t ∧ offs o ss t ≤ 840
  | [], _, _, h, _ => h
  | s :: ss, o, t, h, h2 => by
    unfold offs
    refine offs_bound ss _ t ?_ (fun r hr => h2 r (List.mem_cons_of_mem _ hr))
    split
    · exact h2 s (List.mem_cons_self ..)
    · exact h
theorem ZOk.bound {o : Int} {ss : List (Int × Int)} (h : ZOk o ss) (t : Int) : -840 ≤ offs o ss t ∧ offs o ss t ≤ 840 := offs_bound ss o t h.o (fun s hs => (h.all s hs).2)
theorem asc_drop {ss : List (Int × Int)} (h : ss.Pairwise (fun a b => a.1 < b.1)) {i : Nat} (hi : i < ss.length) : ∀ s ∈ ss.drop (i + 1), atS ss i < s.1 := by
  have h1 : (ss.drop i).Pairwise (fun a b => a.1 < b.1) := h.sublist (List.drop_sublist i ss)
  rw [drop_sh hi] at h1
  exact (List.pairwise_cons.1 h1).1
/-- One shift more. -/
theorem offs_step {ss : List (Int × Int)} {i : Nat} (hi : i < ss.length) (x t : Int) : offs x (ss.drop i) t = offs (if atS ss i ≤ t then ofS ss i else x) (ss.drop (i + 1)) t := by
  rw [drop_sh hi, offs]
theorem offs_break {ss : List (Int × Int)} (h : ss.Pairwise (fun a b => a.1 < b.1)) {i : Nat} (hi : i < ss.length) {x t : Int} (ht : t < atS ss i) : offs x (ss.drop i) t = x := by
  refine offs_late _ _ _ (fun s hs => ?_)
  rw [drop_sh hi] at hs
  rcases List.mem_cons.1 hs with rfl | hs
  · exact ht
  · have := asc_drop h hi s hs; omega
theorem offs_end (ss : List (Int × Int)) (x t : Int) : offs x (ss.drop ss.length) t = x := by rw [List.drop_length]; rfl
theorem mem_at {ss : List (Int × Int)} {i : Nat} (hi : i < ss.length) : (atS ss i, ofS ss i) ∈ ss := by
  have : ss[i] = (atS ss i, ofS ss i) := by simp [atS, ofS, List.getD, List.getElem?_eq_getElem hi]
  rw [← this]; exact List.getElem_mem hi

/-! Counting, listing, scanning minute by minute. -/
def cnt (p : Int → Bool) (a : Int) : Nat → Int
  | 0 => 0
  | n + 1 => cnt p a n + if p (a + n) = true then 1 else 0
theorem cnt_add (p : Int → Bool) (a : Int) (m : Nat) : ∀ n, cnt p a (m + n) = cnt p a m + cnt p (a + m) n
  | 0 => by simp [cnt]
  | n + 1 => by
    rw [show m + (n + 1) = (m + n) + 1 from rfl, cnt, cnt_add p a m n, cnt, show a + ((m + n : Nat) : Int) = a + (m : Int) + (n : Int) by omega]; omega
theorem cnt_all {p : Int → Bool} {a : Int} : ∀ n : Nat, (∀ u, a ≤ u → u < a + n → p u = true) → cnt p a n = n
  | 0, _ => rfl
  | n + 1, h => by
    rw [cnt, cnt_all n (fun u h1 h2 => h u h1 (by omega)), if_pos (h _ (by omega) (by omega))]; omega
theorem cnt_none {p : Int → Bool} {a : Int} : ∀ n : Nat, (∀ u, a ≤ u → u < a + n → p u = false) → cnt p a n = 0
  | 0, _ => rfl
  | n + 1, h => by
    rw [cnt, cnt_none n (fun u h1 h2 => h u h1 (by omega)), h _ (by omega) (by omega)]; rfl
theorem cnt_not (p : Int → Bool) (a : Int) : ∀ n : Nat, cnt p a n + cnt (fun u => !p u) a n = n
  | 0 => rfl
  | n + 1 => by
    have := cnt_not p a n
    simp only [cnt]
    by_cases h : p (a + n) = true
    · simp [h]; omega
    · simp [h]; omega
theorem cnt_le (p : Int → Bool) (a : Int) : ∀ n : Nat, 0 ≤ cnt p a n ∧ cnt p a n ≤ n
  | 0 => ⟨Int.le_refl _, Int.le_refl _⟩
  | n + 1 => by
    have := cnt_le p a n
    rw [cnt]
    split <;> omega
theorem cnt_congr {p q : Int → Bool} {a : Int} : ∀ n : Nat, (∀ u, a ≤ u → u < a + n → p u = q u) → cnt p a n = cnt q a n
  | 0, _ => rfl
  | n + 1, h => by
    rw [cnt, cnt, cnt_congr n (fun u h1 h2 => h u h1 (by omega)), h _ (by omega) (by omega)]
def filt (q : Int → Bool) (a : Int) : Nat → List Int
  | 0 => []
  | n + 1 => filt q a n ++ if q (a + n) = true then [a + n] else []
theorem filt_add (q : Int → Bool) (a : Int) (m : Nat) : ∀ n, filt q a (m + n) = filt q a m ++ filt q (a + m) n
  | 0 => by simp [filt]
  | n + 1 => by
    rw [show m + (n + 1) = (m + n) + 1 from rfl, filt, filt_add q a m n, filt, show a + ((m + n : Nat) : Int) = a + (m : Int) + (n : Int) by omega, List.append_assoc]
theorem filt_none {q : Int → Bool} {a : Int} : ∀ n : Nat, (∀ u, a ≤ u → u < a + n → q u = false) → filt q a n = []
  | 0, _ => rfl
  | n + 1, h => by
    rw [filt, filt_none n (fun u h1 h2 => h u h1 (by omega)), h _ (by omega) (by omega)]; rfl
theorem filt_congr {p q : Int → Bool} {a : Int} : ∀ n : Nat, (∀ u, a ≤ u → u < a + n → p u = q u) → filt p a n = filt q a n
  | 0, _ => rfl
  | n + 1, h => by
    rw [filt, filt, filt_congr n (fun u h1 h2 => h u h1 (by omega)), h _ (by omega) (by omega)]
theorem filt_one {q : Int → Bool} {a v : Int} : ∀ n : Nat, (∀ u, a ≤ u → u < a + n → q u = decide (u = v)) → filt q a n = if a ≤ v ∧ v < a + n then [v] else []
  | 0, _ => by rw [if_neg (by omega)]; rfl
  | n + 1, h => by
    rw [filt, filt_one n (fun u h1 h2 => h u h1 (by omega)), h _ (by omega) (by omega)]
    by_cases h1 : a + (n : Int) = v
    · subst h1
      rw [if_neg (by omega), if_pos (by simp), if_pos (by omega)]; rfl
    · have h3 : decide (a + (n : Int) = v) = false := decide_eq_false h1
      rw [h3]
      by_cases h2 : a ≤ v ∧ v < a + (n : Int)
      · have h4 : a ≤ v ∧ v < a + ((n + 1 : Nat) : Int) := by omega
        rw [if_pos h2, if_pos h4, if_neg (by simp)]; rfl
      · have h4 : ¬ (a ≤ v ∧ v < a + ((n + 1 : Nat) : Int)) := by omega
        rw [if_neg h2, if_neg h4, if_neg (by simp)]; rfl
theorem filt_mid {q : Int → Bool} {a b : Int} {n m : Nat} (h1 : a ≤ b) (h2 : b + m ≤ a + n) (h : ∀ u, ¬ (b ≤ u ∧ u < b + m) → q u = false) : filt q a n = filt q b m := by
  obtain ⟨k, hk⟩ : ∃ k : Nat, (k : Int) = b - a := ⟨(b - a).toNat, by omega⟩
  obtain ⟨r, hr⟩ : ∃ r : Nat, n = k + (m + r) := ⟨n - k - m, by omega⟩
  subst hr
  rw [filt_add, filt_add, filt_none k (fun u h3 h4 => h u (by omega)), show a + (k : Int) = b by omega, filt_none r (fun u h3 h4 => h u (by omega))]
  simp
theorem filt_mem {q : Int → Bool} {a x : Int} : ∀ n : Nat, x ∈ filt q a n ↔ (a ≤ x ∧ x < a + n ∧ q x = true)
  | 0 => by simp [filt]; omega
  | n + 1 => by
    rw [filt, List.mem_append, filt_mem n]
    constructor
    · rintro (h | h)
      · exact ⟨h.1, by omega, h.2.2⟩
      · split at h
        · rename_i h1
          obtain rfl : x = a + n := by simpa using h
          exact ⟨by omega, by omega, h1⟩
        · cases h
    · rintro ⟨h1, h2, h3⟩
      by_cases h4 : x = a + n
      · right; subst h4; rw [if_pos h3]; exact List.mem_singleton.2 rfl
      · left; exact ⟨h1, by omega, h3⟩
theorem filt_asc (q : Int → Bool) (a : Int) : ∀ n : Nat, (filt q a n).Pairwise (· < ·)
  | 0 => List.Pairwise.nil
  | n + 1 => by
    rw [filt]
    refine List.pairwise_append.2 ⟨filt_asc q a n, by split <;> simp, fun x hx y hy => ?_⟩
    have := (filt_mem n).1 hx
    split at hy
    · have : y = a + n := by simpa using hy
      omega
    · cases hy
theorem filt_len (q : Int → Bool) (a : Int) : ∀ n : Nat, (filt q a n).length ≤ n
  | 0 => Nat.le_refl _
  | n + 1 => by
    have := filt_len q a n
    rw [filt, List.length_append]
    split <;> simp <;> omega

def scan (p : Int → Bool) (sz a : Int) : Nat → Int × Int
  | 0 => (0, 0)
  | n + 1 => if p (a + n) = true then ((scan p sz a n).1, (scan p sz a n).2 + 1) else (if sz ≤ (scan p sz a n).2 ∧ 0 < (scan p sz a n).2 then (scan p sz a n).1 + 1 else (scan p sz a n).1, 0)
def fin (sz : Int) (s : Int × Int) : Int := if sz ≤ s.2 ∧ 0 < s.2 then s.1 + 1 else s.1
theorem scan_all {p : Int → Bool} {sz a : Int} (m : Nat) : ∀ n : Nat, (∀ u, a + m ≤ u → u < a + m + n → p u = true) → scan p sz a (m + n) = ((scan p sz a m).1, (scan p sz a m).2 + n)
  | 0, _ => by simp
  | n + 1, h => by
    rw [show m + (n + 1) = (m + n) + 1 from rfl, scan, if_pos (h _ (by omega) (by omega)), scan_all m n (fun u h1 h2 => h u h1 (by omega))]
    simp; omega
theorem scan_none {p : Int → Bool} {sz a : Int} (m : Nat) : ∀ n : Nat, (∀ u, a + m ≤ u → u < a + m + (n + 1 : Nat) → p u = false) → scan p sz a (m + (n + 1)) = (fin sz (scan p sz a m), 0)
  | 0, h => by
    rw [show m + (0 + 1) = m + 1 from rfl, scan, if_neg (by rw [h _ (by omega) (by omega)]; simp)]; rfl
  | n + 1, h => by
    rw [show m + (n + 1 + 1) = (m + (n + 1)) + 1 from rfl, scan, if_neg (by rw [h _ (by omega) (by omega)]; simp), scan_none m n (fun u h1 h2 => h u h1 (by omega))]
    simp
theorem scan_bound (p : Int → Bool) (sz a : Int) : ∀ n : Nat, 0 ≤ (scan p sz a n).1 ∧ (scan p sz a n).1 ≤ n ∧ 0 ≤ (scan p sz a n).2 ∧ (scan p sz a n).2 ≤ n
  | 0 => ⟨Int.le_refl _, Int.le_refl _, Int.le_refl _, Int.le_refl _⟩
  | n + 1 => by
    have := scan_bound p sz a n
    rw [scan]
    split
    · refine ⟨?_, ?_, ?_, ?_⟩ <;> simp <;> omega
    · split <;> refine ⟨?_, ?_, ?_, ?_⟩ <;> simp <;> omega
/-- The number of complete nights among n instants from a on. -/
def nights (p : Int → Bool) (sz a : Int) (n : Nat) : Int := if sz = 0 then 0 else fin sz (scan p sz a n)

/-! Spans that cover what is so. -/
inductive Cov (p : Int → Bool) (a : Int) : List (Int × Int) → Int → Prop
  | nil : Cov p a [] a
  | skip {L : List (Int × Int)} {t : Int} (t' : Int) : Cov p a L t → t ≤ t' → (∀ u, t ≤ u → u < t' → p u = false) → Cov p a L t'
  | stay {L : List (Int × Int)} {t : Int} (t' : Int) : Cov p a L t → t < t' → (∀ u, t ≤ u → u < t' → p u = true) → Cov p a (L ++ [(t, t')]) t'
def sumL : List (Int × Int) → Int
  | [] => 0
  | s :: l => (s.2 - s.1) + sumL l
theorem sumL_snoc (s : Int × Int) : ∀ L, sumL (L ++ [s]) = sumL L + (s.2 - s.1)
  | [] => by simp [sumL]
  | r :: L => by simp only [List.cons_append, sumL, sumL_snoc s L]; omega
theorem Cov.le {p : Int → Bool} {a t : Int} {L : List (Int × Int)} (h : Cov p a L t) : a ≤ t := by
  induction h with
  | nil => exact Int.le_refl _
  | skip t' _ h1 _ ih => omega
  | stay t' _ h1 _ ih => omega
theorem Cov.sum {p : Int → Bool} {a t : Int} {L : List (Int × Int)} (h : Cov p a L t) : sumL L = cnt p a (t - a).toNat := by
  induction h with
  | nil => simp [sumL, cnt]
  | @skip L t t' h0 h1 h2 ih =>
    have := h0.le
    rw [show (t' - a).toNat = (t - a).toNat + (t' - t).toNat by omega, cnt_add, ← ih, cnt_none _ (fun u h3 h4 => h2 u (by omega) (by omega))]; omega
  | @stay L t t' h0 h1 h2 ih =>
    have := h0.le
    rw [show (t' - a).toNat = (t - a).toNat + (t' - t).toNat by omega, cnt_add, ← ih, cnt_all _ (fun u h3 h4 => h2 u (by omega) (by omega)), sumL_snoc]; simp; omega
def compl (sz d : Int) : Int := if 0 < sz ∧ sz ≤ d then 1 else 0
/-- How the program counts: the nights ended, and the night that goes on. -/
def nstep (sz : Int) (q : Int × Int × Int) (s : Int × Int) : Int × Int × Int := if s.1 = q.2.2 then (q.1, q.2.1, s.2) else (q.1 + compl sz (q.2.2 - q.2.1), s.1, s.2)
def nst (sz : Int) (L : List (Int × Int)) : Int × Int × Int := L.foldl (nstep sz) (0, 0, 0)
theorem nst_snoc (sz : Int) (L : List (Int × Int)) (s : Int × Int) : nst sz (L ++ [s]) = nstep sz (nst sz L) s := by simp [nst]
theorem Cov.rel {p : Int → Bool} {a t sz : Int} {L : List (Int × Int)} (h : Cov p a L t) (ha : 0 ≤ a) (hz : 0 < sz) :
    (nst sz L).2.1 ≤ (nst sz L).2.2 ∧ (((nst sz L).2.2 = t ∧ (scan p sz a (t - a).toNat).2 = t - (nst sz L).2.1 ∧ (nst sz L).1 = (scan p sz a (t - a).toNat).1) ∨
      ((nst sz L).2.2 < t ∧ (scan p sz a (t - a).toNat).2 = 0 ∧ (scan p sz a (t - a).toNat).1 = (nst sz L).1 + compl sz ((nst sz L).2.2 - (nst sz L).2.1))) := by
  induction h with
  | nil =>
    refine ⟨Int.le_refl _, ?_⟩
    by_cases h0 : a = 0
    · subst h0; left; exact ⟨rfl, rfl, rfl⟩
    · right
      refine ⟨by simp [nst]; omega, by simp [scan], ?_⟩
      simp [scan, nst, compl]
      try omega
  | @skip L t t' h0 h1 h2 ih =>
    obtain ⟨i1, i2⟩ := ih
    refine ⟨i1, ?_⟩
    have hle := h0.le
    by_cases he : t = t'
    · subst he; exact i2
    · obtain ⟨k, hk⟩ : ∃ k : Nat, (t' - a).toNat = (t - a).toNat + (k + 1) := ⟨(t' - t).toNat - 1, by omega⟩
      have hs := scan_none (p := p) (sz := sz) (a := a) (t - a).toNat k (fun u h3 h4 => h2 u (by omega) (by omega))
      rw [hk, hs]
      right
      refine ⟨by omega, rfl, ?_⟩
      unfold fin compl
      rcases i2 with ⟨j1, j2, j3⟩ | ⟨j1, j2, j3⟩
      · rw [j1, ← j3, j2]
        by_cases h5 : sz ≤ t - (nst sz L).2.1
        · rw [if_pos ⟨h5, by omega⟩, if_pos ⟨hz, h5⟩]
        · rw [if_neg (by omega), if_neg (by omega)]; simp
      · rw [j2, if_neg (by omega), j3]; rfl
  | @stay L t t' h0 h1 h2 ih =>
    obtain ⟨i1, i2⟩ := ih
    have hle := h0.le
    obtain ⟨k, hk⟩ : ∃ k : Nat, (t' - a).toNat = (t - a).toNat + k ∧ (k : Int) = t' - t := ⟨(t' - t).toNat, by omega, by omega⟩
    have hs := scan_all (p := p) (sz := sz) (a := a) (t - a).toNat k (fun u h3 h4 => h2 u (by omega) (by omega))
    rw [hk.1, hs, nst_snoc]
    unfold nstep
    rcases i2 with ⟨j1, j2, j3⟩ | ⟨j1, j2, j3⟩
    · rw [if_pos (by simp [j1])]
      refine ⟨by simp only; omega, .inl ⟨rfl, ?_, ?_⟩⟩
      · simp only; omega
      · simp only; omega
    · rw [if_neg (by simp only; omega)]
      refine ⟨by simp only; omega, .inl ⟨rfl, ?_, ?_⟩⟩
      · simp only; omega
      · simp only; omega
theorem Cov.empty {p : Int → Bool} {a t : Int} {L : List (Int × Int)} (h : Cov p a L t) (hp : ∀ u, p u = false) : L = [] := by
  induction h with
  | nil => rfl
  | skip t' _ h1 _ ih => exact ih
  | stay t' _ h1 h2 ih => have := h2 _ (Int.le_refl _) h1; rw [hp] at this; cases this
theorem Cov.nights {p : Int → Bool} {a t sz : Int} {L : List (Int × Int)} (h : Cov p a L t) (ha : 0 ≤ a) (hz : 0 ≤ sz) (hp : sz = 0 → ∀ u, p u = false) :
    (nst sz L).1 + compl sz ((nst sz L).2.2 - (nst sz L).2.1) = nights p sz a (t - a).toNat := by
  unfold Go.Proofs.Ytiohakpbgmignaa.nights
  by_cases h0 : sz = 0
  · subst h0
    rw [h.empty (hp rfl), if_pos rfl]; rfl
  · rw [if_neg h0]
    obtain ⟨i1, i2⟩ := h.rel ha (show 0 < sz by omega)
    unfold fin
    rcases i2 with ⟨j1, j2, j3⟩ | ⟨j1, j2, j3⟩
    · rw [j1, ← j3, j2]
      unfold compl
      by_cases h5 : sz ≤ t - (nst sz L).2.1
      · rw [if_pos ⟨by omega, h5⟩, if_pos ⟨h5, by omega⟩]
      · rw [if_neg (by omega), if_neg (by omega)]; simp
    · rw [j2, if_neg (by omega), j3]
/-- What the program's numbers stay within. -/
theorem Cov.bounds {p : Int → Bool} {a t : Int} {L : List (Int × Int)} (sz : Int) (h : Cov p a L t) (ha : 0 ≤ a) :
    (0 ≤ sumL L ∧ sumL L ≤ t - a) ∧ (0 ≤ (nst sz L).1 ∧ (nst sz L).1 ≤ t - a) ∧ (0 ≤ (nst sz L).2.1 ∧ (nst sz L).2.1 ≤ (nst sz L).2.2 ∧ (nst sz L).2.2 ≤ t) := by
  induction h with
  | nil => exact ⟨⟨Int.le_refl _, by simp [sumL]⟩, ⟨Int.le_refl _, by simp [nst]⟩, Int.le_refl _, Int.le_refl _, ha⟩
  | @skip L t t' h0 h1 h2 ih => have := h0.le; omega
  | @stay L t t' h0 h1 h2 ih =>
    have hle := h0.le
    rw [sumL_snoc, nst_snoc]
    unfold nstep compl
    refine ⟨by simp only; omega, ?_⟩
    split
    · simp only; omega
    · split <;> simp only <;> omega

/-! Parts with one offset each. -/
inductive Seg (g : Int → Int) (a : Int) : List (Int × Int × Int) → Int → Prop
  | nil : Seg g a [] a
  | add {L : List (Int × Int × Int)} {t x : Int} (t' : Int) : Seg g a L t → t < t' → (∀ u, t ≤ u → u < t' → g u = x) → Seg g a (L ++ [(t, t', x)]) t'
theorem Seg.le {g : Int → Int} {a t : Int} {L : List (Int × Int × Int)} (h : Seg g a L t) : a ≤ t := by
  induction h with
  | nil => exact Int.le_refl _
  | add t' _ h1 _ ih => omega
theorem Seg.last {g : Int → Int} {a t f t' x : Int} {L : List (Int × Int × Int)} (h : Seg g a (L ++ [(f, t', x)]) t) : Seg g a L f ∧ t' = t ∧ f < t' ∧ ∀ u, f ≤ u → u < t' → g u = x := by
  generalize hM : L ++ [(f, t', x)] = M at h
  cases h with
  | nil => simp at hM
  | add t' h0 h1 h2 =>
    obtain ⟨e1, e2⟩ := List.append_inj' hM rfl
    subst e1
    simp only [List.cons.injEq, Prod.mk.injEq, and_true] at e2
    obtain ⟨rfl, rfl, rfl⟩ := e2
    exact ⟨h0, rfl, h1, h2⟩
theorem Seg.det {g : Int → Int} {a t t' : Int} {L : List (Int × Int × Int)} (h : Seg g a L t) (h' : Seg g a L t') : t = t' := by
  cases h with
  | nil => generalize hM : ([] : List (Int × Int × Int)) = M at h'; cases h' with
    | nil => rfl
    | add => simp at hM
  | add s h0 h1 h2 => exact h'.last.2.1

/-! Bands of clock times. -/
def inB (c f t : Int) : Bool := if f ≤ t then decide (f ≤ c ∧ c < t) else decide (f ≤ c ∨ c < t)
def bandB (o : Int) (ss : List (Int × Int)) (f t u : Int) : Bool := inB ((u + offs o ss u) % 1440) f t
theorem inB_mod {v f t : Int} (hf : 0 ≤ f ∧ f < 1440) (ht : 0 ≤ t ∧ t < 1440) : inB (v % 1440) f t = decide ((v - f) % 1440 < (t - f) % 1440) := by
  unfold inB
  split
  · apply decide_eq_decide.2; omega
  · apply decide_eq_decide.2; omega
theorem inB_off {f t : Int} (h : (t - f) % 1440 = 0) (hf : 0 ≤ f ∧ f < 1440) (ht : 0 ≤ t ∧ t < 1440) (v : Int) : inB (v % 1440) f t = false := by
  rw [inB_mod hf ht, h]; simp; omega
theorem inB_not {v f t : Int} (hf : 0 ≤ f ∧ f < 1440) (ht : 0 ≤ t ∧ t < 1440) (h : f ≠ t) : inB (v % 1440) t f = !inB (v % 1440) f t := by
  rw [inB_mod hf ht, inB_mod ht hf, ← decide_not]
  apply decide_eq_decide.2; omega
end Go.Proofs.Ytiohakpbgmignaa

