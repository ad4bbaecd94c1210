/- Rows of ints: what append does to one, and what a slice expression reads. -/
import Derived.Test.YtpbjencigepnfaaNumSum
import Derived.Test.YtpbjencigepnfaaVecs
import Derived.Maps.AppendAt
import Derived.OwnWalk
import Derived.Laws.OwnMore
namespace Go.Proofs.Ytpbjencigepnfaa
open Go.ChangeShapes Go.WideShapes Go.ChangeAt Go.RowKit

theorem int_info : (Try.prog.info? 3).map (fun i => (i.zero, i.size, i.bytes)) = some (some (.int .i64 0), 1, 8) := by kernel_rfl

theorem vals_append (xs ys : List Int) : vals (xs ++ ys) = vals xs ++ vals ys := by simp [vals]

theorem append_ints (w : World) (base : Nat) (ty : TypeId) (v : Value) (n : Nat) (xs : List Int) (hown : w.ownsRow base 3 1 v n (vals xs)) (A : Option Addr) (m c : Nat) (zs : List Int) (hr : Reads w A m zs) (h63 : n + m ≤ 1048576) (hbase : base ≤ w.heap.size) :
    ∃ v' w', (Builtin.append_ #[51, 51] ty #[v, .slice A m c]).run Try.prog w = .ok v' w' ∧ w'.ownsRow base 3 1 v' (n + m) (vals (xs ++ zs)) ∧ w.grownBy w' v.ownBlock ∧ (v'.ownBlock = v.ownBlock ∨ v'.ownBlock = some w.heap.size) := by
  obtain ⟨i0, hi0, hz0, hz1, hz2⟩ := info_parts int_info
  obtain ⟨hl, _, hx⟩ := hr
  rw [vals_append]
  cases A with
  | none =>
    have hm : m = 0 := by
      rcases hx with h0 | ⟨b, off, h, _⟩
      · exact h0
      · cases h
    subst hm
    have hzs : zs = [] := List.eq_nil_of_length_eq_zero hl
    subst hzs
    refine ⟨v, w, ?_, by simpa [vals] using hown, World.grownBy.refl w _, .inl rfl⟩
    rcases hown.2 with ⟨rfl, rfl⟩ | ⟨g, cap, cur, rfl, _, _, hnc, _⟩
    · simp [Builtin.append_, run_underlying Try.underlying51, sizeOf, typeInfo, hi0, Builtin.lenOf, Builtin.firstCells]
    · simp [Builtin.append_, run_underlying Try.underlying51, sizeOf, typeInfo, hi0, Builtin.lenOf, Builtin.firstCells, hnc, storeCells]
  | some ad =>
    obtain ⟨v', w', h1, h2, h3, _, h5⟩ := run_append_own_at (P := Try.prog) w base 51 ty 3 i0 (.int .i64 0) 1 8 Try.underlying51 hi0 hz0 hz1 hz2 rfl (by omega) v n (vals xs) hown ad m c (vals zs)
      (by rw [vals_length, hl, Nat.mul_one])
      (fun j u hu => by
        obtain ⟨hj, rfl⟩ := vals_at hu
        rcases hx with h0 | ⟨b, off, h, hc⟩
        · omega
        · injection h with h
          subst h
          rw [Go.WideShapes.add_plain]
          exact hc j (by omega))
      (fun u hu => by
        simp only [vals, List.mem_map] at hu
        obtain ⟨z, _, rfl⟩ := hu
        rfl) (by simp only [maxLen]; omega) (by omega) hbase
    exact ⟨v', w', h1, h2, h3, h5⟩

theorem wpList_append_ints {w : World} {ops : Array Oper} {rest : List Oper} {o : Oper} {a : Act} {Q : Exit → Act → World → Prop} (hgd : o.guard = none) (s x : Operand)
    (ho : o.op = .call { callee := .builtin .append, args := #[s, x], argTypes := #[51, 51] })
    (base : Nat) (v : Value) (n : Nat) (xs : List Int) (hs : a.eval s = v) (hown : w.ownsRow base 3 1 v n (vals xs))
    (A : Option Addr) (m c : Nat) (zs : List Int) (hx : a.eval x = .slice A m c) (hr : Reads w A m zs) (h63 : n + m ≤ 1048576) (hbase : base ≤ w.heap.size)
    (h : ∀ v' w', w'.ownsRow base 3 1 v' (n + m) (vals (xs ++ zs)) → w.grownBy w' v.ownBlock → (v'.ownBlock = v.ownBlock ∨ v'.ownBlock = some w.heap.size) → wpList Try.prog ops Q rest (a.put o.dst v') w') :
    wpList Try.prog ops Q (o :: rest) a w :=
  wpList_plain hgd fun _ hK => by
    obtain ⟨v', w', hrun, h2, h3, h4⟩ := append_ints w base o.type v n xs hown A m c zs hr h63 hbase
    unfold Oper.wp execOp
    simp only [ho, resolve, invoke, builtin, Sem.run_bind, Sem.run_pure, Result.andThen_ok, List.map_toArray, List.map_cons, List.map_nil, hs, hx, hrun]
    exact hK _ _ (h v' w' h2 h3 h4)

theorem own_reads {w : World} {base : Nat} {A : Option Addr} {n k c : Nat} {zs : List Int} (h : w.ownsRow base 3 1 (.slice A n c) k (vals zs)) (hm : n ≤ 1048576) : Reads w A n zs ∧ n = k := by
  have hl : zs.length = k := by have := h.1; rw [vals_length] at this; omega
  rcases h.2 with ⟨h1, rfl⟩ | ⟨g, cap, cur, h1, _⟩
  · injection h1 with _ h2
    subst h2
    exact ⟨⟨hl, by simp [maxLen], .inl rfl⟩, rfl⟩
  · injection h1 with h2 h3
    subst h2; subst h3
    refine ⟨⟨hl, by simp only [maxLen]; omega, .inr ⟨g, 0, rfl, fun i hi => ?_⟩⟩, rfl⟩
    have := h.cells (g := g) rfl i _ (vals_get (by omega))
    rwa [Go.WideShapes.add_plain] at this

theorem own_slice {w : World} {base : Nat} {v : Value} {n : Nat} {xs : List Value} (h : w.ownsRow base 3 1 v n xs) : ∃ A c, v = .slice A n c := by
  rcases h.2 with ⟨rfl, rfl⟩ | ⟨g, cap, cur, rfl, _⟩
  · exact ⟨_, _, rfl⟩
  · exact ⟨_, _, rfl⟩

theorem reads_take {w : World} {a : Option Addr} {len cap K : Nat} {zs : List Int} (h : Reads w a len zs) (hk : K ≤ len) : Reads w (if cap = 0 then a else a.map (·.add 0)) K (zs.take K) := by
  obtain ⟨h1, h2, h3⟩ := h
  have e : (if cap = 0 then a else a.map (·.add 0)) = a := by
    split
    · rfl
    · cases a <;> simp [Addr.add]
  rw [e]
  refine ⟨by simp; omega, by omega, ?_⟩
  rcases h3 with h0 | ⟨b, off, rfl, hc⟩
  · exact .inl (by omega)
  · refine .inr ⟨b, off, rfl, fun i hi => ?_⟩
    rw [hc i (by omega)]
    simp [List.getD, hi]

theorem reads_drop {w : World} {a : Option Addr} {len cap K : Nat} {zs : List Int} (h : Reads w a len zs) (hk : K ≤ len) (hc : len ≤ cap) : Reads w (if cap = K then a else a.map (·.add K)) (len - K) (zs.drop K) := by
  obtain ⟨h1, h2, h3⟩ := h
  refine ⟨by simp; omega, by omega, ?_⟩
  rcases h3 with h0 | ⟨b, off, rfl, hcell⟩
  · exact .inl (by omega)
  · by_cases hK : len = K
    · exact .inl (by omega)
    · rw [if_neg (by omega)]
      refine .inr ⟨b, off + K, by simp only [Option.map_some, Go.WideShapes.add_plain], fun i hi => ?_⟩
      rw [Nat.add_assoc, hcell (K + i) (by omega)]
      simp [List.getD, List.getElem?_drop]

theorem slice_high (a : Option Addr) (len cap K : Nat) (h : K ≤ cap) (W : World) : (Instr.slice 51 (.slice a len cap) none (some (.int .i64 (K : Int))) none).run Try.prog W = .ok (.slice (if cap = 0 then a else a.map (·.add 0)) K cap) W := by
  obtain ⟨i0, hi0, hz0, hz1, hz2⟩ := info_parts int_info
  simp [Instr.slice, run_underlying Try.underlying51, Instr.sliceBounds, Instr.sliceBound, asIntOf, sizeOf, typeInfo, hi0, h]

theorem slice_low (a : Option Addr) (len cap K : Nat) (h : K ≤ len) (W : World) : (Instr.slice 51 (.slice a len cap) (some (.int .i64 (K : Int))) none none).run Try.prog W = .ok (.slice (if cap = K then a else a.map (·.add K)) (len - K) (cap - K)) W := by
  obtain ⟨i0, hi0, hz0, hz1, hz2⟩ := info_parts int_info
  simp [Instr.slice, run_underlying Try.underlying51, Instr.sliceBounds, Instr.sliceBound, asIntOf, sizeOf, typeInfo, hi0, hz1, h]

theorem sum_is {zs : List Int} {x y : Int} (h : sumN zs = x ∧ sumE zs = y) {a : Option Addr} {len cap : Nat} {w : World} (hr : Reads w a len zs) :
    Calls Try.prog 30 #[.slice a len cap] w fun e w' => e = .returned (.tuple #[.int .i64 x, .int .i64 y]) ∧ Below w.heap.size w w' := by
  have := sum_any a len cap zs w hr
  rw [h.1, h.2] at this
  exact this
end Go.Proofs.Ytpbjencigepnfaa
