/-
  The law TextJoined walked: the lines of a text, joined with bytes 10, give the text again, except for a last byte 10.
-/
import Derived.Test.YtdacigihhbcppaaDoorTbP
import Derived.Test.YtdacigihhbcppaaDoorTbL
set_option linter.unusedVariables false
set_option linter.unusedSimpArgs false
namespace Go.Proofs.YtdacigihhbcppaaDoor
open Go.RowKit

/-- What Lines returns: a slice that reads as these texts, and the error. -/
def RetSE (w : World) (fs : List (List UInt8)) (err : Int) (e : Ending) (w' : World) : Prop := ∃ a n c, e = .returned (.tuple #[.slice a n c, .int .i64 err]) ∧ SIn w' a n fs ∧ n ≤ c ∧ c ≤ 9223372036854775807 ∧ (∀ x, a = some x → x.block < w'.heap.size) ∧ Below w.heap.size w w'
theorem lines_any (l : List UInt8) (w : World) : Calls Tryd.prog 11 #[.string ⟨l.toArray⟩] w (RetSE w (linesL l) (linesE l)) := by
  have key : Calls Tryd.prog 11 #[.string ⟨l.toArray⟩] w (RetLn w (linesL l) (linesE l)) := by
    by_cases h : 20000 < l.length
    · have hE : linesE l = 10 := by unfold linesE; rw [if_pos h]
      have hL : linesL l = [] := by unfold linesL; rw [if_neg (by rw [hE]; decide)]
      rw [hE, hL]; exact lines_long l h w
    · cases hp : l.all plOk with
      | true => exact lines_good l (by omega) hp w
      | false =>
        have hE : linesE l = 1 := by unfold linesE; rw [if_neg h, if_neg (by rw [hp]; decide)]
        have hL : linesL l = [] := by unfold linesL; rw [if_neg (by rw [hE]; decide)]
        rw [hE, hL]; exact lines_bad l (by omega) hp w
  refine key.mono ?_
  rintro e w' ⟨v, rfl, ho, hb⟩
  obtain ⟨a, c, rfl, h1, h2, h3, h4⟩ := SIn.of_owns ho
  refine ⟨a, _, c, rfl, h3, h1, h2, fun x hx => ?_, hb⟩
  subst hx
  obtain ⟨_, o, h5, _⟩ := ownsRow_block ho x.block rfl
  exact (Array.getElem?_eq_some_iff.1 h5).1

/-- The lines of a rest without their ends, where a line has begun with cur. -/
def lw : List UInt8 → List UInt8 → List (List UInt8)
  | cur, [] => one cur
  | cur, c :: r => if c.toNat = 10 then cur :: lw [] r else lw (cur ++ [c]) r
theorem trim_snoc (x : List UInt8) (c : UInt8) : trim (x ++ [c]) = if c.toNat = 10 then x else x ++ [c] := by
  unfold trim
  have h1 : bAt (x ++ [c]) ((x ++ [c]).length - 1) = c := by
    unfold bAt; simp [List.getD]
  rw [h1]
  by_cases h : c.toNat = 10
  · rw [if_pos ⟨by simp, h⟩, if_pos h]; simp
  · rw [if_neg (fun h' => h h'.2), if_neg h]
theorem trim_app (x : List UInt8) {p : List UInt8} (hp : p ≠ []) : trim (x ++ p) = x ++ trim p := by
  obtain ⟨q, c, rfl⟩ : ∃ q c, p = q ++ [c] := ⟨p.dropLast, p.getLast hp, (List.dropLast_concat_getLast hp).symm⟩
  rw [← List.append_assoc, trim_snoc, trim_snoc]
  split
  · rfl
  · rw [List.append_assoc]
theorem lp_ne : ∀ l, ∀ p ∈ lp l, p ≠ []
  | [], p, h => by simp [lp] at h
  | c :: r, p, h => by
    unfold lp at h
    split at h
    · rcases List.mem_cons.1 h with rfl | h
      · simp
      · exact lp_ne r p h
    · split at h
      · simp at h; subst h; simp
      · rename_i p' ps hp
        rcases List.mem_cons.1 h with rfl | h
        · simp
        · exact lp_ne r p (by rw [hp]; exact List.mem_cons_of_mem _ h)
theorem lp_nil {l : List UInt8} (h : lp l = []) : l = [] := by
  cases l with
  | nil => rfl
  | cons c r =>
    unfold lp at h
    split at h
    · cases h
    · split at h <;> cases h
def gl (cur : List UInt8) : List (List UInt8) → List (List UInt8)
  | [] => one cur
  | p :: ps => trim (cur ++ p) :: ps.map trim
theorem lw_gl : ∀ (r cur : List UInt8), lw cur r = gl cur (lp r)
  | [], cur => rfl
  | c :: r, cur => by
    unfold lw lp
    by_cases h : c.toNat = 10
    · rw [if_pos h, if_pos (u8_eq.2 (show c.toNat = (10 : UInt8).toNat from h))]
      show _ = trim (cur ++ [c]) :: _
      rw [trim_snoc, if_pos h, lw_gl r []]
      congr 1
      cases hp : lp r with
      | nil => rfl
      | cons p ps => simp [gl]
    · rw [if_neg h, if_neg (fun h' => h (u8_eq.1 h')), lw_gl r (cur ++ [c])]
      cases hp : lp r with
      | nil =>
        show one (cur ++ [c]) = [trim (cur ++ [c])]
        rw [trim_snoc, if_neg h]
        unfold one; rw [if_pos (by simp)]
      | cons p ps => simp [gl]
theorem lines_lw (l : List UInt8) : (lp l).map trim = lw [] l := by
  rw [lw_gl]
  cases hp : lp l with
  | nil => rfl
  | cons p ps => simp [gl]
theorem lw_nil : ∀ (r cur : List UInt8), lw cur r = [] → r = []
  | [], _, _ => rfl
  | c :: r, cur, h => by
    unfold lw at h
    split at h
    · cases h
    · have := lw_nil r _ h
      subst this
      unfold lw one at h
      rw [if_pos (by simp)] at h
      cases h
/-- Texts joined with bytes 10. -/
def jn : List (List UInt8) → List UInt8
  | [] => []
  | [x] => x
  | x :: y :: r => x ++ 10 :: jn (y :: r)
theorem jn_lw : ∀ (r cur : List UInt8), jn (lw cur r) = cur ++ r ∨ jn (lw cur r) ++ [10] = cur ++ r
  | [], cur => by
    left
    unfold lw one
    by_cases h : 0 < cur.length
    · rw [if_pos h]; simp [jn]
    · rw [if_neg h]
      have : cur = [] := List.eq_nil_of_length_eq_zero (by omega)
      rw [this]; rfl
  | c :: r, cur => by
    unfold lw
    by_cases h : c.toNat = 10
    · have hc : c = 10 := UInt8.toNat_inj.1 (by rw [h]; rfl)
      rw [if_pos h, hc]
      have ih := jn_lw r []
      cases hl : lw [] r with
      | nil =>
        have hr := lw_nil r [] hl
        right
        rw [hr]; rfl
      | cons y ys =>
        rw [hl, List.nil_append] at ih
        rcases ih with ih | ih
        · left; show cur ++ 10 :: jn (y :: ys) = _; rw [ih]
        · right; show (cur ++ 10 :: jn (y :: ys)) ++ [10] = _; rw [List.append_assoc, List.cons_append, ih]
    · rw [if_neg h]
      have ih := jn_lw r (cur ++ [c])
      simpa using ih
theorem jn_snoc : ∀ (ls : List (List UInt8)) (x : List UInt8), jn (ls ++ [x]) = if ls = [] then x else jn ls ++ 10 :: x
  | [], x => by simp [jn]
  | [y], x => by simp [jn]
  | y :: z :: r, x => by
    have ih := jn_snoc (z :: r) x
    rw [if_neg (by simp)] at ih ⊢
    show y ++ 10 :: jn (z :: r ++ [x]) = _
    rw [ih]
    show _ = (y ++ 10 :: jn (z :: r)) ++ 10 :: x
    simp
theorem str_app (x y : List UInt8) : (⟨x.toArray⟩ : ByteArray) ++ ⟨y.toArray⟩ = ⟨(x ++ y).toArray⟩ := by
  apply ByteArray.ext
  show (ByteArray.append _ _).data = _
  simp
theorem loopAll (b : ByteArray) : ∀ (n i : Nat) (r : List UInt8), i + n = b.size → ByteArray.toList.loop b i r = r.reverse ++ b.data.toList.drop i := by
  intro n
  induction n with
  | zero =>
    intro i r h
    unfold ByteArray.toList.loop
    have : ¬ i < b.size := by omega
    rw [if_neg this]
    have h2 : b.data.toList.length ≤ i := by
      have : b.data.toList.length = b.size := Array.length_toList
      omega
    rw [List.drop_eq_nil_of_le h2]; simp
  | succ n ih =>
    intro i r h
    unfold ByteArray.toList.loop
    have h1 : i < b.size := by omega
    rw [if_pos h1, ih (i+1) _ (by omega)]
    have h3 : i < b.data.toList.length := by rw [Array.length_toList]; exact h1
    rw [List.drop_eq_getElem_cons h3]
    have h4 : b.get! i = b.data.toList[i] := by
      have h5 : i < b.data.size := h1
      show b.data[i]! = _
      rw [getElem!_pos b.data i h5]
      rfl
    rw [h4]; simp
theorem toListD (b : ByteArray) : b.toList = b.data.toList := by
  unfold ByteArray.toList
  rw [loopAll b b.size 0 [] (by omega)]; simp
theorem jn_take {ls : List (List UInt8)} {k : Nat} (hk : k < ls.length) : jn (ls.take (k + 1)) = if k = 0 then sAt ls k else jn (ls.take k) ++ 10 :: sAt ls k := by
  have e1 : ls.take (k + 1) = ls.take k ++ [sAt ls k] := by rw [List.take_succ_eq_append_getElem hk]; simp [sAt, List.getD, List.getElem?_eq_getElem hk]
  rw [e1, jn_snoc]
  by_cases h : k = 0
  · subst h; simp
  · rw [if_neg h, if_neg (by intro h2; have h3 := congrArg List.length h2; rw [List.length_take, List.length_nil] at h3; omega)]
theorem jn_le : ∀ (ls : List (List UInt8)) (k : Nat), (jn (ls.take k)).length ≤ (jn ls).length
  | [], k => by simp [jn]
  | [x], 0 => by simp [jn]
  | [x], k + 1 => by simp
  | x :: y :: r, 0 => by simp [jn]
  | x :: y :: r, 1 => by simp [jn]
  | x :: y :: r, k + 2 => by
    have ih := jn_le (y :: r) (k + 1)
    show (x ++ 10 :: jn (y :: r.take k)).length ≤ (x ++ 10 :: jn (y :: r)).length
    rw [show (y :: r).take (k + 1) = y :: r.take k from rfl] at ih
    simp only [List.length_append, List.length_cons]
    omega
set_option maxHeartbeats 4000000 in
set_option maxRecDepth 100000 in
theorem textJoined_any (l : List UInt8) (hl : l.length ≤ 9223372036854775807) (w : World) : Calls Tryd.prog 5 #[.string ⟨l.toArray⟩] w (RetB1 w true) := by
  have hsz := bsize l
  by_cases h5 : 30000 < l.length
  · obtain ⟨L, HL⟩ : ∃ v, Hid (l.length = v) := ⟨_, rfl⟩
    rw [HL.out] at hsz h5
    have q1 : (30000 : Int) < (L : Int) := by omega
    clear hl
    go_enter Tryd.func5, Tryd.ntmps5
    go_wp2_with (go_at_call 10; (with_reducible refine (awake_any _).mono ?_); rintro e w1 ⟨rfl, g1⟩)
    go_ret
    exact ⟨rfl, g1⟩
  have hp := lines_any l
  have hE := jn_lw l []
  rw [List.nil_append, ← lines_lw] at hE
  obtain ⟨L, HL⟩ : ∃ v, Hid (l.length = v) := ⟨_, rfl⟩
  rw [HL.out] at hsz h5
  have q1 : decide ((30000 : Int) < (L : Int)) = false := by simp; omega
  obtain ⟨E, HE⟩ : ∃ v, Hid (linesE l = v) := ⟨_, rfl⟩
  have hLL : linesL l = if E = 0 then (lp l).map trim else [] := by unfold linesL; rw [HE.out]
  obtain ⟨LL, HLL⟩ : ∃ v, Hid (linesL l = v) := ⟨_, rfl⟩
  rw [HE.out, HLL.out] at hp
  rw [HLL.out] at hLL
  have HP := Lib.hid hp
  have H30 : Hid (L ≤ 30000) := by unfold Hid; omega
  clear hp hl h5
  by_cases h0 : E = 0
  · rw [if_pos h0] at hLL
    rw [← hLL] at hE
    have q2 : (E != 0) = false := by simpa using h0
    subst h0
    have HJ := Lib.hid hE
    have HLN : Hid (∀ k, (jn (LL.take k)).length ≤ 30000) := by
      intro k
      have h1 := jn_le LL k
      have h2 := HL.out
      have h30 := H30.out
      rcases HJ.out with h3 | h3
      · rw [h3] at h1; omega
      · have h4 := congrArg List.length h3
        simp only [List.length_append, List.length_singleton] at h4; omega
    clear hE hLL
    go_enter Tryd.func5, Tryd.ntmps5
    go_wp2_with fail
    refine (HP.out _).mono ?_
    rintro e w1 ⟨a, n, c, rfl, s1, c1, c2, b1, g1⟩
    obtain ⟨hn, hcell⟩ := s1
    have HN := Lib.hid hn
    have HC := Lib.hid hcell
    have G1 := Lib.hid g1
    clear hn hcell g1 b1
    go_wp2_with fail
    go_loop [5, 6] (fun t i => ∃ k : Nat, k ≤ n ∧ i = .int .i64 k ∧ t = .string ⟨(jn (LL.take k)).toArray⟩) (fun _ i => n - (intOf i).toNat)
    case atStart => exact ⟨0, by omega, rfl, rfl⟩
    case round =>
      obtain ⟨k, hk, rfl, rfl⟩ := hrel
      by_cases hlt : k < n
      · obtain ⟨g, o, ha, hx⟩ : ∃ g o, a = some ⟨g, o, none⟩ ∧ w1.cell? ⟨g, o + k, none⟩ = some (.string ⟨(sAt LL k).toArray⟩) := by
          rcases HC.out with h | ⟨g, o, h1, h2⟩
          · omega
          · exact ⟨g, o, h1, h2 k hlt⟩
        subst ha
        have hj := jn_take (ls := LL) (k := k) (by rw [HN.out]; exact hlt)
        have HJT := Lib.hid hj
        clear hj
        obtain ⟨X, HX⟩ : ∃ X, Hid (sAt LL k = X) := ⟨_, rfl⟩
        rw [HX.out] at hx
        obtain ⟨Y, HY⟩ : ∃ Y, Hid (jn (LL.take k) = Y) := ⟨_, rfl⟩
        rw [HY.out]
        have j0 : (0 : Int) ≤ (k : Int) := by omega
        have j1 : (k : Int) < (n : Int) := by omega
        by_cases hk0 : k = 0
        · have q3 : ¬ 0 < k := by omega
          have HR : Hid (jn (LL.take (k + 1)) = X) := by unfold Hid; rw [HJT.out, if_pos hk0, HX.out]
          have hY0 : Y = [] := by rw [← HY.out, hk0]; rfl
          have b1 : ¬ 9223372036854775807 < Y.length + X.length := by
            have h1 := HLN.out (k + 1)
            rw [HR.out] at h1
            rw [hY0]; simp only [List.length_nil]; omega
          have HY0 := Lib.hid hY0
          clear hk0 hY0
          go_wp2_with fail
          go_round
          case rel => exact ⟨k + 1, by omega, by go_num, by rw [HR.out, HY0.out, str_app, List.nil_append]⟩
          case measure => simp [intOf]; omega
        · have q3 : 0 < k := by omega
          have HR : Hid (jn (LL.take (k + 1)) = Y ++ 10 :: X) := by unfold Hid; rw [HJT.out, if_neg hk0, HX.out, HY.out]
          have h1 := HLN.out (k + 1)
          rw [HR.out] at h1
          simp only [List.length_append, List.length_cons] at h1
          have b1 : ¬ 9223372036854775807 < Y.length + 1 := by omega
          have b2 : ¬ 9223372036854775807 < Y.length + 1 + X.length := by omega
          clear hk0 h1
          go_wp2_with fail
          go_round
          case rel => exact ⟨k + 1, by omega, by go_num, by rw [HR.out, show ({ data := #[10] } : ByteArray) = ⟨([10] : List UInt8).toArray⟩ from rfl, str_app, str_app, List.append_assoc]; rfl⟩
          case measure => simp [intOf]; omega
      · obtain rfl : k = n := by omega
        have j1 : ¬ (k : Int) < (k : Int) := by omega
        have ht : LL.take k = LL := List.take_of_length_le (by rw [HN.out]; exact Nat.le_refl _)
        rw [ht]
        have h1 := HLN.out k
        rw [ht] at h1
        obtain ⟨Y, HY⟩ : ∃ Y, Hid (jn LL = Y) := ⟨_, rfl⟩
        rw [HY.out] at h1 ⊢
        have h2 := HJ.out
        rw [HY.out] at h2
        have b1 : ¬ 9223372036854775807 < Y.length + 1 := by omega
        clear ht h1
        by_cases h3 : Y = l
        · have e1 : (Y == l) = true := by rw [beq_iff_eq]; exact h3
          clear h2 h3
          go_wp2_with (go_at_call 10; (with_reducible refine (awake_any _).mono ?_); rintro e w2 ⟨rfl, g2⟩)
          go_ret
          exact ⟨rfl, G1.out.trans (g2.mono G1.out.size)⟩
        · have e1 : (Y == l) = false := by rw [beq_eq_false_iff_ne]; exact h3
          have e2 : (({ data := Y.toArray } : ByteArray) ++ { data := #[10] }).toList = l := by
            rw [show ({ data := #[10] } : ByteArray) = ⟨([10] : List UInt8).toArray⟩ from rfl, str_app, toListD]
            exact h2.resolve_left h3
          have e3 : ((({ data := Y.toArray } : ByteArray) ++ { data := #[10] }).toList == l) = true := by rw [beq_iff_eq]; exact e2
          clear h2 h3
          go_wp2_with (go_at_call 10; (with_reducible refine (awake_any _).mono ?_); rintro e w2 ⟨rfl, g2⟩)
          go_ret
          exact ⟨rfl, G1.out.trans (g2.mono G1.out.size)⟩
  · have q2 : (E != 0) = true := by simpa using h0
    rw [if_neg h0] at hLL
    subst hLL
    clear hE h0
    go_enter Tryd.func5, Tryd.ntmps5
    go_wp2_with fail
    refine (HP.out _).mono ?_
    rintro e w1 ⟨a, n, c, rfl, s1, c1, c2, b1, g1⟩
    obtain rfl : n = 0 := s1.1.symm
    clear s1
    go_wp2_with (go_at_call 10; (with_reducible refine (awake_any _).mono ?_); rintro e w2 ⟨rfl, g2⟩)
    go_ret
    exact ⟨rfl, g1.trans (g2.mono g1.size)⟩
end Go.Proofs.YtdacigihhbcppaaDoor

