/- Rows of slices of bytes, all of the call's own: append, and what is read of them. -/
import Derived.Test.YtnbhgnkkedainaaDoorFu
namespace Go.Proofs.YtnbhgnkkedainaaDoor
open Go.ChangeShapes Go.WideShapes Go.ChangeAt Go.RowKit

theorem s_info : (Tryd.prog.info? 34).map (fun i => (i.zero, i.size, i.bytes)) = some (some (.slice none 0 0), 1, 24) := by kernel_rfl
def prt (x : BPart) : Value := .slice x.1 x.2.2.length x.2.1
def prts (L : List BPart) : List Value := L.map prt
theorem prts_length (L : List BPart) : (prts L).length = L.length := by simp [prts]
theorem prts_append (L M : List BPart) : prts (L ++ M) = prts L ++ prts M := by simp [prts]
/-- The bytes of each. -/
def txt (L : List BPart) : List (List UInt8) := L.map (·.2.2)
theorem txt_append (L M : List BPart) : txt (L ++ M) = txt L ++ txt M := by simp [txt]
theorem txt_length (L : List BPart) : (txt L).length = L.length := by simp [txt]
/-- All is as it was; v is a row of the call's own of slices of bytes, each of the call's own. -/
structure KL (w0 : World) (v : Value) (L : List BPart) (w : World) : Prop where
  bel : Below w0.heap.size w0 w
  own : w.ownsRow w0.heap.size 34 1 v L.length (prts L)
  all : ∀ x ∈ L, Own w w0.heap.size (prt x) x.2.2
theorem KL.start {w0 w : World} (hb : Below w0.heap.size w0 w) : KL w0 (.slice none 0 0) [] w := ⟨hb, World.ownsRow_nil _ _ _ _, by simp⟩
theorem owns_below {w w' : World} {base : Nat} {e : TypeId} {v : Value} {n : Nat} {xs : List Value} (h : w.ownsRow base e 1 v n xs) (hb : Below w.heap.size w w') : w'.ownsRow base e 1 v n xs := by
  refine ⟨h.1, ?_⟩
  rcases h.2 with ⟨h1, h2⟩ | ⟨g, cap, cur, h1, h2, h3, h4⟩
  · exact .inl ⟨h1, h2⟩
  · refine .inr ⟨g, cap, cur, h1, h2, ?_, h4⟩
    rw [hb.block g (Array.getElem?_eq_some_iff.1 h3).1]; exact h3
theorem KL.call {w0 w w' : World} {v : Value} {L : List BPart} (h : KL w0 v L w) (hb : Below w.heap.size w w') : KL w0 v L w' := ⟨h.bel.trans (hb.mono h.bel.size), owns_below h.own hb, fun x hx => (h.all x hx).below hb⟩
theorem KL.slice {w0 w : World} {v : Value} {L : List BPart} (h : KL w0 v L w) : ∃ A c, v = .slice A L.length c ∧ L.length ≤ c := by
  rcases h.own.2 with ⟨rfl, h0⟩ | ⟨g, cap, cur, rfl, _, _, h1, _⟩
  · exact ⟨none, 0, by rw [h0], by omega⟩
  · exact ⟨_, _, rfl, h1⟩
theorem KL.lift {w0 w w' : World} {v : Value} {L : List BPart} (hb : Below w0.heap.size w0 w) (h : KL w v L w') : KL w0 v L w' := by
  refine ⟨hb.trans (h.bel.mono hb.size), ?_, fun x hx => (h.all x hx).mono hb.size⟩
  refine ⟨h.own.1, ?_⟩
  rcases h.own.2 with h1 | ⟨g, cap, cur, h1, h2, h3⟩
  · exact .inl h1
  · exact .inr ⟨g, cap, cur, h1, by have := hb.size; omega, h3⟩
theorem apart {w : World} {base base' : Nat} {x : BPart} {v : Value} {n : Nat} {xs : List Value} (h : Own w base (prt x) x.2.2) (hv : w.ownsRow base' 34 1 v n xs) : (prt x).ownBlock = none ∨ (prt x).ownBlock ≠ v.ownBlock := by
  rcases h.2 with ⟨h1, _⟩ | ⟨g, cap, cur, h1, h2, h3, _⟩
  · left; rw [h1]; rfl
  · right
    rw [h1]
    rcases hv.2 with ⟨k1, _⟩ | ⟨g', cap', cur', k1, k2, k3, _⟩
    · rw [k1]; simp [Value.ownBlock]
    · rw [k1]
      simp only [Value.ownBlock, ne_eq, Option.some.injEq]
      intro e
      subst e
      rw [h3] at k3
      injection k3 with k3
      injection k3 with _ k4
      exact absurd k4 (by decide)
/-- append(v, p): the one slice lies in a row of its own. -/
theorem app_part {w0 w : World} {ops : Array Oper} {rest : List Oper} {o : Oper} {a : Act} {Q : Exit → Act → World → Prop} {v : Value} {L : List BPart} (hk : KL w0 v L w) {A : Option Addr} {n c : Nat} {p : List UInt8} (hn : p.length = n) (hp : Own w w0.heap.size (.slice A n c) p) (hgd : o.guard = none) (s x : Operand)
    (ho : o.op = .call { callee := .builtin .append, args := #[s, x], argTypes := #[31, 31] }) (hs : a.eval s = v) (hx : a.eval x = .slice (some ⟨w.heap.size, 0, none⟩) 1 1) (h63 : L.length ≤ 1048000)
    (h : ∀ v' w', KL w0 v' (L ++ [(A, c, p)]) w' → wpList Tryd.prog ops Q rest (a.put o.dst v') w') : wpList Tryd.prog ops Q (o :: rest) a (w.alloc (.cells #[.slice A n c] 34)) :=
  wpList_plain hgd fun _ hK => by
    subst hn
    obtain ⟨i0, hi0, hz0, hz1, hz2⟩ := info_parts s_info
    have h1 := hk.call (below_new w (.cells #[.slice A p.length c] 34))
    have hp1 := hp.below (below_new w (.cells #[.slice A p.length c] 34))
    obtain ⟨v', w', hrun, h2, h3, _, _⟩ := run_append_own_at (P := Tryd.prog) (w.alloc (.cells #[.slice A p.length c] 34)) w0.heap.size 31 o.type 34 i0 (.slice none 0 0) 1 24 Tryd.underlying31 hi0 hz0 hz1 hz2 rfl (by omega) v L.length (prts L) h1.own ⟨w.heap.size, 0, none⟩ 1 1 [.slice A p.length c]
      rfl
      (fun j u hu => by
        match j, hu with
        | 0, hu =>
          simp at hu; subst hu
          simp [Addr.add]
        | j + 1, hu => simp at hu)
      (fun u hu => by simp at hu; subst hu; rfl) (by simp only [maxLen]; omega) (by omega) h1.bel.size
    unfold Oper.wp execOp
    simp only [ho, resolve, invoke, builtin, Sem.run_bind, Sem.run_pure, Result.andThen_ok, List.map_toArray, List.map_cons, List.map_nil, hs, hx, hrun]
    refine hK _ _ (h v' w' ⟨h1.bel.grown h3 h1.bel.size fun k hk' => (h1.own.lt k hk').1, ?_, fun x hx => ?_⟩)
    · rw [List.length_append, prts_append]; exact h2
    · rcases List.mem_append.1 hx with hx | hx
      · exact World.ownsRow.kept (h1.all x hx) h3 (apart (h1.all x hx) h1.own)
      · simp at hx; subst hx
        exact World.ownsRow.kept hp1 h3 (apart (x := (A, c, p)) hp1 h1.own)
/-- The i-th of them, as a cell. -/
theorem KL.cell {w0 w : World} {g off : Nat} {n c : Nat} {L : List BPart} (h : KL w0 (.slice (some ⟨g, off, none⟩) n c) L w) {i : Nat} {x : BPart} (hi : L[i]? = some x) : w.cell? ⟨g, off + i, none⟩ = some (prt x) := by
  have hpx : (prts L)[i]? = some (prt x) := by simp [prts, hi]
  rcases h.own.2 with ⟨h1, h0⟩ | ⟨g', cap, cur, h1, h2, h3, _⟩
  · cases h1
  · injection h1 with h1 _ _
    injection h1 with h1
    injection h1 with e1 e2
    subst e1; subst e2
    have := h.own.cells (g := g) rfl i _ hpx
    rwa [Go.WideShapes.add_plain] at this
end Go.Proofs.YtnbhgnkkedainaaDoor
