/-
  The program's isPlain and bytes.Lines; the step of an append in a region that draws its order, within a round.
-/
import Derived.Test.YtdacigihhbcppaaDoorTbN
import Derived.Test.YtdacigihhbcppaaDoorTbG
set_option linter.unusedVariables false
set_option linter.unusedSimpArgs false
namespace Go.Proofs.YtdacigihhbcppaaDoor
open Go.RowKit Go.Shelf

def plOk (b : UInt8) : Bool := decide (b.toNat = 10) || decide (32 ≤ b.toNat ∧ b.toNat ≤ 126)
set_option maxHeartbeats 4000000 in
set_option maxRecDepth 100000 in
theorem isPlain_any {S : Nat → Prop} (a : Option Addr) (n c : Nat) (l : List UInt8) (w : World) (h : BIn S w a l) (hn : l.length = n) (hc : n ≤ c) (hm : n ≤ 9223372036854775807) :
    Calls Tryd.prog 26 #[.slice a n c] w (RetQ w (l.all plOk)) := by
  obtain ⟨B, HB⟩ : ∃ B, Hid (l.all plOk = B) := ⟨_, rfl⟩
  rw [HB.out]
  have HN := Lib.hid hn
  have HIN := Lib.hid h
  clear hn h
  go_enter Tryd.func26, Tryd.ntmps26
  go_wp2_with fail
  go_loop [7] (fun i => ∃ k : Nat, k ≤ n ∧ i = .int .i64 k ∧ Hid ((l.take k).all plOk = true)) (fun i => n - (intOf i).toNat)
  case atStart => exact ⟨0, by omega, rfl, by unfold Hid; simp⟩
  case round =>
    obtain ⟨k, hk, rfl, hall⟩ := hrel
    by_cases hlt : k < n
    · have hta := all_take plOk (l := l) (k := k) (by rw [HN.out]; exact hlt)
      have hbad := all_bad plOk (l := l) (k := k) (by rw [HN.out]; exact hlt)
      obtain ⟨g, o, ha, hcell⟩ := HIN.out.cell_any (i := k) (by rw [HN.out]; exact hlt)
      subst ha
      obtain ⟨b, Hb⟩ : ∃ v, Hid (bAt l k = v) := ⟨_, rfl⟩
      rw [Hb.out] at hta hbad hcell
      rw [show plOk b = (decide (b.toNat = 10) || decide (32 ≤ b.toNat ∧ b.toNat ≤ 126)) from rfl] at hta hbad
      obtain ⟨m, Hm⟩ : ∃ v, Hid (b.toNat = v) := ⟨_, rfl⟩
      have hm : m < 256 := by rw [← Hm.out]; exact UInt8.toNat_lt _
      rw [Hm.out] at hta hbad hcell
      have j0 : (0 : Int) ≤ (k : Int) := by omega
      have j1 : (k : Int) < (n : Int) := by omega
      have HTA := Lib.hid hta
      have HBAD := Lib.hid hbad
      clear hta hbad
      by_cases h10 : m = 10
      · have u1 : ((m : Int) == 10) = true := by simp; omega
        have HA : Hid ((l.take (k + 1)).all plOk = true) := by unfold Hid; rw [HTA.out, hall.out]; simp [h10]
        clear h10
        go_wp2_with fail
        go_round
        case rel => exact ⟨k + 1, by omega, by go_num, HA⟩
        case measure => simp [intOf]; omega
      have u1 : ((m : Int) == 10) = false := by simp; omega
      by_cases h32 : 32 ≤ m
      · have u2 : (32 : Int) ≤ (m : Int) := by omega
        by_cases h126 : m ≤ 126
        · have u3 : (m : Int) ≤ 126 := by omega
          have HA : Hid ((l.take (k + 1)).all plOk = true) := by unfold Hid; rw [HTA.out, hall.out]; simp; omega
          clear h10
          go_wp2_with fail
          go_round
          case rel => exact ⟨k + 1, by omega, by go_num, HA⟩
          case measure => simp [intOf]; omega
        · have u3 : decide ((m : Int) ≤ 126) = false := by simp; omega
          obtain rfl : B = false := by rw [← HB.out]; exact HBAD.out (by simp; omega)
          clear h10
          go_wp2_with fail
          go_ret
          exact ⟨rfl, rfl⟩
      · have u2 : decide ((32 : Int) ≤ (m : Int)) = false := by simp; omega
        obtain rfl : B = false := by rw [← HB.out]; exact HBAD.out (by simp; omega)
        clear h10
        go_wp2_with fail
        go_ret
        exact ⟨rfl, rfl⟩
    · obtain rfl : k = n := by omega
      obtain rfl : B = true := by
        rw [← HB.out, ← hall.out, List.take_of_length_le (by rw [HN.out]; exact Nat.le_refl _)]
      have j1 : ¬ (k : Int) < (k : Int) := by omega
      go_wp2_with fail
      go_ret
      exact ⟨rfl, rfl⟩

def RetLinesF (w : World) (sv : Value) (e : Ending) (w' : World) : Prop :=
  e = .returned (.func (.func 40) #[] #[.pointer (some ⟨w.heap.size, 0, none⟩)]) ∧ w' = w.alloc (.cells #[sv] 29)
set_option maxHeartbeats 2000000 in
set_option maxRecDepth 100000 in
theorem blines_any (a : Option Addr) (n c : Nat) (w : World) : Calls Tryd.prog 27 #[.slice a n c] w (RetLinesF w (.slice a n c)) := by
  go_enter Tryd.func27, Tryd.ntmps27
  go_wp2
  go_ret
  exact ⟨rfl, rfl⟩

/-- An append onto a list of the call's own, as a step of a region that draws its order. -/
theorem opIn_append {F : Fence} {n : Nat} {P : Program} {ops : Array Oper} {Q : Exit → Act → World → Prop} {K : Act → World → Prop} {a : Act} {w : World} {o : Oper}
    (hg : o.guard = none) (s x : Operand) (t : TypeId) (hop : o.op = Op.call { callee := Callee.builtin Builtin.append, args := #[s, x], argTypes := #[t, t] })
    (base : Nat) (e : TypeId) (ti : TypeInfo) (z : Value) (size bytes : Nat) (h1 : P.underlying t = some (.slice e)) (h2 : P.info? e = some ti) (h3 : ti.zero = some z) (h4 : ti.size = size) (h5 : ti.bytes = bytes) (h6 : z.cells.size = size) (h7 : 0 < size)
    (v : Value) (k : Nat) (xs : List Value) (hs : a.eval s = v) (hown : w.ownsRow base e size v k xs) (ad : Addr) (m c : Nat) (news : List Value) (hx : a.eval x = .slice (some ad) m c) (hn : news.length = m * size)
    (hc : ∀ j u, news[j]? = some u → w.cell? (ad.add j) = some u) (h1c : ∀ u ∈ news, u.oneCell' = true) (b1 : k + m ≤ maxLen) (b2 : (k + m) * bytes ≤ 140737488355328) (b3 : base ≤ w.heap.size)
    (hK : ∀ v' w', w'.ownsRow base e size v' (k + m) (xs ++ news) → w.grownBy w' v.ownBlock → K (a.put o.dst v') w') :
    if Region.wanted o (yielded ops a.tmps) = true then Oper.wpIn F n P o a w K Q else (∀ f, o.about P w a.eval = some f → F.fn f) ∧ K (a.put o.dst undef) w := by
  rw [if_pos (by simp [Region.wanted, hg])]
  obtain ⟨v', w', hrun, r1, r2, _⟩ := run_append_own (P := P) w base t o.type e ti z size bytes h1 h2 h3 h4 h5 h6 h7 v k xs hown ad m c news hn hc h1c b1 b2 b3
  unfold Oper.wpIn
  refine ⟨?_, ?_⟩
  · simp [Oper.about, hop, resolve, Target.leads, Sem.run_pure]
  · rw [Oper.semAt_plain F _ _ (by rw [hop]; intro c hc'; cases hc')]
    simp [execOp, hop, resolve, invoke, builtin, hs, hx, hrun, Result.andThen]
    exact hK _ _ r1 r2
end Go.Proofs.YtdacigihhbcppaaDoor

