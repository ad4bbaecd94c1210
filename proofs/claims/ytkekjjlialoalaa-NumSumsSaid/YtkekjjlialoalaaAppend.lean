/- What 'append' does to a row of ints of the law's own, whatever slice of ints it takes; and a contract of the document's Sum. -/
import Derived.Test.YtkekjjlialoalaaSum
import Derived.Maps.AppendAt
import Derived.OwnWalk
import Derived.Laws.OwnMore
namespace Go.Proofs.Ytkekjjlialoalaa
open Go.ChangeShapes Go.WideShapes Go.ChangeAt Go.RowKit

theorem int_info : (Try.prog.info? 3).map (fun i => (i.zero, i.size, i.bytes)) = some (some (.int .i64 0), 1, 8) := by kernel_rfl

/-- Ints, as the cells that hold them. -/
def vals (zs : List Int) : List Value := zs.map (.int .i64)
theorem vals_length (zs : List Int) : (vals zs).length = zs.length := by simp [vals]
theorem vals_at {zs : List Int} {j : Nat} {u : Value} (h : (vals zs)[j]? = some u) : j < zs.length ∧ u = .int .i64 (zs.getD j 0) := by
  simp only [vals, List.getElem?_map, Option.map_eq_some_iff] at h
  obtain ⟨z, hz, rfl⟩ := h
  have hj : j < zs.length := by
    rcases Nat.lt_or_ge j zs.length with h | h
    · exact h
    · rw [List.getElem?_eq_none h] at hz; cases hz
  exact ⟨hj, by simp [List.getD, hz]⟩
theorem vals_get {zs : List Int} {j : Nat} (h : j < zs.length) : (vals zs)[j]? = some (.int .i64 (zs.getD j 0)) := by
  simp [vals, List.getD, h]
theorem vals_append (xs ys : List Int) : vals (xs ++ ys) = vals xs ++ vals ys := by simp [vals]

theorem append_ints (w : World) (base : Nat) (ty : TypeId) (v : Value) (n : Nat) (xs : List Int) (hown : w.ownsRow base 3 1 v n (vals xs)) (A : Option Addr) (m c : Nat) (zs : List Int) (hr : Reads w A m zs) (h63 : n + m ≤ 1048576) (hbase : base ≤ w.heap.size) :
    ∃ v' w', (Builtin.append_ #[28, 28] ty #[v, .slice A m c]).run Try.prog w = .ok v' w' ∧ w'.ownsRow base 3 1 v' (n + m) (vals (xs ++ zs)) ∧ w.grownBy w' v.ownBlock ∧ (v'.ownBlock = v.ownBlock ∨ v'.ownBlock = some w.heap.size) := by
  obtain ⟨i0, hi0, hz0, hz1, hz2⟩ := info_parts int_info
  obtain ⟨hl, _, hx⟩ := hr
  rw [vals_append]
  cases A with
  | none =>
    have hm : m = 0 := by
      rcases hx with h0 | ⟨b, off, h, _⟩
      · exact h0
      · cases h
    subst hm
    have hzs : zs = [] := List.eq_nil_of_length_eq_zero hl
    subst hzs
    refine ⟨v, w, ?_, by simpa [vals] using hown, World.grownBy.refl w _, .inl rfl⟩
    rcases hown.2 with ⟨rfl, rfl⟩ | ⟨g, cap, cur, rfl, _, _, hnc, _⟩
    · simp [Builtin.append_, run_underlying Try.underlying28, sizeOf, typeInfo, hi0, Builtin.lenOf, Builtin.firstCells]
    · simp [Builtin.append_, run_underlying Try.underlying28, sizeOf, typeInfo, hi0, Builtin.lenOf, Builtin.firstCells, hnc, storeCells]
  | some ad =>
    obtain ⟨v', w', h1, h2, h3, _, h5⟩ := run_append_own_at (P := Try.prog) w base 28 ty 3 i0 (.int .i64 0) 1 8 Try.underlying28 hi0 hz0 hz1 hz2 rfl (by omega) v n (vals xs) hown ad m c (vals zs)
      (by rw [vals_length, hl, Nat.mul_one])
      (fun j u hu => by
        obtain ⟨hj, rfl⟩ := vals_at hu
        rcases hx with h0 | ⟨b, off, h, hc⟩
        · omega
        · injection h with h
          subst h
          rw [Go.WideShapes.add_plain]
          exact hc j (by omega))
      (fun u hu => by
        simp only [vals, List.mem_map] at hu
        obtain ⟨z, _, rfl⟩ := hu
        rfl) (by simp only [maxLen]; omega) (by omega) hbase
    exact ⟨v', w', h1, h2, h3, h5⟩

theorem wpList_append_ints {w : World} {ops : Array Oper} {rest : List Oper} {o : Oper} {a : Act} {Q : Exit → Act → World → Prop} (hgd : o.guard = none) (s x : Operand)
    (ho : o.op = .call { callee := .builtin .append, args := #[s, x], argTypes := #[28, 28] })
    (base : Nat) (v : Value) (n : Nat) (xs : List Int) (hs : a.eval s = v) (hown : w.ownsRow base 3 1 v n (vals xs))
    (A : Option Addr) (m c : Nat) (zs : List Int) (hx : a.eval x = .slice A m c) (hr : Reads w A m zs) (h63 : n + m ≤ 1048576) (hbase : base ≤ w.heap.size)
    (h : ∀ v' w', w'.ownsRow base 3 1 v' (n + m) (vals (xs ++ zs)) → w.grownBy w' v.ownBlock → (v'.ownBlock = v.ownBlock ∨ v'.ownBlock = some w.heap.size) → wpList Try.prog ops Q rest (a.put o.dst v') w') :
    wpList Try.prog ops Q (o :: rest) a w :=
  wpList_plain hgd fun _ hK => by
    obtain ⟨v', w', hrun, h2, h3, h4⟩ := append_ints w base o.type v n xs hown A m c zs hr h63 hbase
    unfold Oper.wp execOp
    simp only [ho, resolve, invoke, builtin, Sem.run_bind, Sem.run_pure, Result.andThen_ok, List.map_toArray, List.map_cons, List.map_nil, hs, hx, hrun]
    exact hK _ _ (h v' w' h2 h3 h4)

theorem own_reads {w : World} {base : Nat} {A : Option Addr} {n k c : Nat} {zs : List Int} (h : w.ownsRow base 3 1 (.slice A n c) k (vals zs)) (hm : n ≤ 1048576) : Reads w A n zs ∧ n = k := by
  have hl : zs.length = k := by have := h.1; rw [vals_length] at this; omega
  rcases h.2 with ⟨h1, rfl⟩ | ⟨g, cap, cur, h1, _⟩
  · injection h1 with _ h2
    subst h2
    exact ⟨⟨hl, by simp [maxLen], .inl rfl⟩, rfl⟩
  · injection h1 with h2 h3
    subst h2; subst h3
    refine ⟨⟨hl, by simp only [maxLen]; omega, .inr ⟨g, 0, rfl, fun i hi => ?_⟩⟩, rfl⟩
    have := h.cells (g := g) rfl i _ (vals_get (by omega))
    rwa [Go.WideShapes.add_plain] at this

theorem own_slice {w : World} {base : Nat} {v : Value} {n : Nat} {xs : List Value} (h : w.ownsRow base 3 1 v n xs) : ∃ A c, v = .slice A n c := by
  rcases h.2 with ⟨rfl, rfl⟩ | ⟨g, cap, cur, rfl, _⟩
  · exact ⟨_, _, rfl⟩
  · exact ⟨_, _, rfl⟩

theorem ret_some {zs : List Int} {S : Int} (h : some S = sumFrom 0 zs) : Ending.returned (.tuple #[.int .i64 S, .int .i64 0]) = .returned (.tuple #[.int .i64 (sumN zs), .int .i64 (sumE zs)]) := by
  obtain ⟨h1, h2⟩ := sumN_some h.symm
  rw [h1, h2]
theorem ret_none {zs : List Int} (h : none = sumFrom 0 zs) : Ending.returned (.tuple #[.int .i64 0, .int .i64 2]) = .returned (.tuple #[.int .i64 (sumN zs), .int .i64 (sumE zs)]) := by
  obtain ⟨h1, h2⟩ := sumN_none h.symm
  rw [h1, h2]

theorem rsum_any (a : Option Addr) (len cap : Nat) (zs : List Int) (w : World) (hr : Reads w a len zs) :
    Calls Try.prog 19 #[.slice a len cap] w fun e w' => e = .returned (.tuple #[.int .i64 (sumN zs), .int .i64 (sumE zs)]) ∧ w = w' := by
  obtain ⟨hl, hm, hx⟩ := hr
  unfold maxLen at hm
  have HL := Lib.hid hl; clear hl
  rcases hx with h0 | ⟨b, off, rfl, hc⟩
  · obtain rfl : len = 0 := h0
    go_enter Try.func19, Try.ntmps19
    go_wp2
    go_loop [4, 5] (fun t i => ∃ (k : Nat) (S : Int), k ≤ 0 ∧ i = .int .i64 k ∧ t = .int .i64 S ∧ sumFrom S (zs.drop k) = sumFrom 0 zs) (fun _ i => 0 - (intOf i).toNat)
    case atStart => exact ⟨0, 0, Nat.zero_le _, rfl, rfl, rfl⟩
    case round =>
      obtain ⟨k, S, hk, rfl, rfl, hS⟩ := hrel
      have HQ := Lib.hid hS; clear hS
      obtain rfl : k = 0 := by omega
      have hq := HQ.out
      rw [sumFrom_end (by have := HL.out; omega)] at hq
      have HF := Lib.hid hq; clear hq HQ
      go_wp2
      go_ret2
      exact ⟨ret_some HF.out, rfl⟩
  · have HC := Lib.hid hc; clear hc
    go_enter Try.func19, Try.ntmps19
    go_wp2
    go_loop [4, 5] (fun t i => ∃ (k : Nat) (S : Int), k ≤ len ∧ i = .int .i64 k ∧ t = .int .i64 S ∧ sumFrom S (zs.drop k) = sumFrom 0 zs) (fun _ i => len - (intOf i).toNat)
    case atStart => exact ⟨0, 0, Nat.zero_le _, rfl, rfl, rfl⟩
    case round =>
      obtain ⟨k, S, hk, rfl, rfl, hS⟩ := hrel
      have HQ := Lib.hid hS; clear hS
      by_cases hlt : k < len
      · have hcell : w.cell? ⟨b, off + k, none⟩ = some (.int .i64 (zs.getD k 0)) := HC.out k hlt
        generalize hz : zs.getD k 0 = z at hcell
        have HZ := Lib.hid hz; clear hz
        have hkl : k < zs.length := by have := HL.out; omega
        have hst := sumFrom_step (S := S) hkl
        rw [HQ.out, HZ.out] at hst
        by_cases hok : okB S z (S + z) = true
        · rw [if_pos hok] at hst
          have HT := Lib.hid hst; clear hst hkl
          obtain ⟨e1, e2⟩ := addE_ok hok
          have HO := Lib.hid hok; clear hok
          go_wp2_with ((go_at_call 10; refine (radd_any _ _ _).mono ?_; rintro e w' ⟨rfl, rfl⟩; rw [e1, e2]))
          go_round
          case rel => exact ⟨k + 1, S + z, by omega, by go_num, rfl, HT.out.symm⟩
          case measure => simp [intOf]; omega
        · have hok : okB S z (S + z) = false := by simpa using hok
          rw [if_neg (by simp [hok])] at hst
          have HT := Lib.hid hst; clear hst hkl
          obtain ⟨e1, e2⟩ := addE_no hok
          clear hok
          go_wp2_with ((go_at_call 10; refine (radd_any _ _ _).mono ?_; rintro e w' ⟨rfl, rfl⟩; rw [e1, e2]))
          go_ret2
          exact ⟨ret_none HT.out.symm, rfl⟩
      · have hq := HQ.out
        rw [sumFrom_end (by have := HL.out; omega)] at hq
        have HF := Lib.hid hq; clear hq HQ
        go_wp2
        go_ret2
        exact ⟨ret_some HF.out, rfl⟩
end Go.Proofs.Ytkekjjlialoalaa
