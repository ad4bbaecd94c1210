/- What a law of layer 2 needs: vectors that come in; 'awake'. -/
import Derived.Test.YtpbjencigepnfaaVecDo
import Derived.Test.YtpbjencigepnfaaKeep
import Derived.Test.YtpbjencigepnfaaVecGrow
import Derived.OpenShut
import Derived.ChangeOld
import Derived.Below
namespace Go.Proofs.Ytpbjencigepnfaa
open Go.ChangeShapes Go.WideShapes Go.ChangeAt Go.RowKit

theorem ints_of_cells : ∀ (l : List Value), (∀ i, i < l.length → ∃ n, l[i]? = some (.int .i64 n) ∧ (Lit.int .i64 n).wf = true) → ∃ zs : List Int, l = vals zs ∧ ∀ z ∈ zs, (Lit.int .i64 z).wf = true
  | [], _ => ⟨[], rfl, by simp⟩
  | v :: l, h => by
    obtain ⟨n, h1, h2⟩ := h 0 (by simp)
    obtain ⟨zs, h3, h4⟩ := ints_of_cells l (fun i hi => by simpa using h (i + 1) (by simpa using hi))
    refine ⟨n :: zs, ?_, ?_⟩
    · simp only [List.getElem?_cons_zero, Option.some.injEq] at h1
      simp [vals, h1, h3]
    · intro z hz
      rcases List.mem_cons.1 hz with rfl | hz
      · exact h2
      · exact h4 z hz

/-- A vector that comes in. -/
theorem open_vec {H : Type} {enc : TypeId × Value → H} {W : World} {b b' : Nat} {sp : Nat → Bool} {held : Bool} {v : Value} {d : DataW H} {p : List MemPlace} (hval : Value.okWide Try.prog W .any b' 23 v)
    (h : DataW.Trod enc Try.prog W b sp held 23 v d p) : ∃ zs : List Int, v = .agg (vals zs).toArray ∧ zs.length = 16 ∧ ∀ z ∈ zs, (Lit.int .i64 z).wf = true := by
  have c1 : Try.prog.cellsOf 3 = 1 := by kernel_rfl
  have c2 : Try.prog.cellsOf 23 = 16 := by kernel_rfl
  obtain ⟨cs, rfl, hsz, _⟩ : ∃ cs, v = .agg cs ∧ cs.size = Try.prog.cellsOf 23 ∧ Row.okWide Try.prog W .any b' 23 cs := by
    simpa [Value.okWide, Try.underlying23] using hval
  obtain ⟨l⟩ := cs
  rw [c2] at hsz
  have hsz : l.length = 16 := by simpa using hsz
  obtain ⟨fuel, hf⟩ := h
  obtain ⟨xs, m, _, _, _, hn, hel⟩ := DataW.trod_array Try.underlying23 hf
  obtain ⟨zs, h1, h2⟩ := ints_of_cells l (fun i hi => by
    have he := hel i (by omega)
    rw [c1, Nat.mul_one, List.getElem?_eq_getElem (show i < xs.length by omega)] at he
    obtain ⟨n, h1, _, h3⟩ := DataW.trod_int Try.underlying3 he
    refine ⟨n, ?_, h3⟩
    have h1 : (l.drop i).take 1 = [.int .i64 n] := h1
    rw [List.drop_eq_getElem_cons hi] at h1
    simp only [List.take_succ_cons, List.take_zero, List.cons.injEq, and_true] at h1
    rw [List.getElem?_eq_getElem hi, h1])
  subst h1
  exact ⟨zs, rfl, by rw [← vals_length]; exact hsz, h2⟩

/-- A vector, stored into a block that was just made for it. -/
theorem wpList_store_new {ops : Array Oper} {rest : List Oper} {o : Oper} {a : Act} {w : World} {Q : Exit → Act → World → Prop} (hgd : o.guard = none) (hd : o.dst = none) (x y : Operand) (ho : o.op = .store 23 x y)
    (zs : List Int) (hx : a.eval x = .pointer (some ⟨w.heap.size, 0, none⟩)) (hy : a.eval y = .agg (vals zs).toArray) (hl : zs.length = 16)
    (h : ∀ w2, Blk w2 w.heap.size 23 zs → Below w.heap.size w w2 → w.heap.size + 1 ≤ w2.heap.size → wpList Try.prog ops Q rest a w2) :
    wpList Try.prog ops Q (o :: rest) a (w.alloc (.cells #[.int .i64 0, .int .i64 0, .int .i64 0, .int .i64 0, .int .i64 0, .int .i64 0, .int .i64 0, .int .i64 0, .int .i64 0, .int .i64 0, .int .i64 0, .int .i64 0, .int .i64 0, .int .i64 0, .int .i64 0, .int .i64 0] 23)) := by
  rw [← zlit]
  exact wpList_store_vec hgd x y ho w.heap.size zs hx hy zeros (Blk.new w _ zeros) zeros_length hl (by rw [hd]; exact h _ ((Blk.new w _ zeros).setRow zs) (below_setRow (box w _ zeros).2 (Nat.le_refl _) _) (by simp))

def j0 : List Int := [3, 5, 0, 0, 0, 0, 0, 0, 0, 0, 0, 0, 0, 0, 0, 0]
def g0 : List Int := [3, 9, 0, 0, 0, 0, 0, 0, 0, 0, 0, 0, 0, 0, 0, 0]

theorem awake_join (w : World) : Calls Try.prog 42 #[.agg #[.int .i64 1, .int .i64 5, .int .i64 0, .int .i64 0, .int .i64 0, .int .i64 0, .int .i64 0, .int .i64 0, .int .i64 0, .int .i64 0, .int .i64 0, .int .i64 0, .int .i64 0, .int .i64 0, .int .i64 0, .int .i64 0], .agg #[.int .i64 3, .int .i64 2, .int .i64 0, .int .i64 0, .int .i64 0, .int .i64 0, .int .i64 0, .int .i64 0, .int .i64 0, .int .i64 0, .int .i64 0, .int .i64 0, .int .i64 0, .int .i64 0, .int .i64 0, .int .i64 0]] w fun e w' => e = .returned (.agg (vals j0).toArray) ∧ Below w.heap.size w w' := by
  have h := join_any [1, 5, 0, 0, 0, 0, 0, 0, 0, 0, 0, 0, 0, 0, 0, 0] [3, 2, 0, 0, 0, 0, 0, 0, 0, 0, 0, 0, 0, 0, 0, 0] rfl rfl w
  rw [show joinL [1, 5, 0, 0, 0, 0, 0, 0, 0, 0, 0, 0, 0, 0, 0, 0] [3, 2, 0, 0, 0, 0, 0, 0, 0, 0, 0, 0, 0, 0, 0, 0] = j0 by decide] at h
  exact h

theorem awake_grow (w : World) : Calls Try.prog 37 #[.agg (vals j0).toArray, .int .i64 1, .int .i64 4] w fun e w' => e = .returned (.tuple #[.agg (vals g0).toArray, .int .i64 0]) ∧ Below w.heap.size w w' := by
  have h := grow_any j0 1 4 rfl w
  rw [show growL j0 1 4 = g0 by decide, show growE j0 1 4 = 0 by decide] at h
  exact h

theorem awake_over (w : World) : Calls Try.prog 44 #[.agg (vals g0).toArray, .agg (vals j0).toArray] w fun e w' => e = .returned (.bool true) ∧ Below w.heap.size w w' := by
  have h := over_any g0 j0 rfl rfl w
  rw [show overB g0 j0 = true by decide] at h
  exact h

theorem awake_eq (xs : List Int) (h : xs.length = 16) (w : World) : (Op.equalIn 10000 23 (.agg (vals xs).toArray) (.agg (vals xs).toArray)).run Try.prog w = .ok true w := by
  rw [eql_vec xs xs h h, beq_self_eq_true]

end Go.Proofs.Ytpbjencigepnfaa
