/- Holds that are appended to a row of the call's own, beside kept blocks of fields. -/
import Derived.Test.YtofngihdnjgmeaaLWk
namespace Go.Proofs.Ytofngihdnjgmeaa
set_option maxRecDepth 100000
open Go.ChangeShapes Go.WideShapes Go.ChangeAt Go.RowKit

/-- A row of the call's own is being filled. -/
def PendF (w : World) (l : List (Nat × TypeId × List Value)) (rows : List (Option Addr × Nat × List Ho)) (v : Value) (xs : List Ho) (u : World) : Prop :=
  ∃ u0, KeepF w l rows u0 ∧ Below u0.heap.size u0 u ∧ Own u u0.heap.size v xs
section
variable {ops : Array Oper} {rest : List Oper} {o : Oper} {a : Act} {w u : World} {l : List (Nat × TypeId × List Value)} {rows : List (Option Addr × Nat × List Ho)} {Q : Exit → Act → World → Prop} {v : Value} {xs : List Ho}
theorem PendF.keep (h : PendF w l rows v xs u) : KeepF w l rows u := by
  obtain ⟨u0, h1, h2, _⟩ := h
  exact h1.call h2
theorem PendF.done {A : Option Addr} {c : Nat} (h : PendF w l rows (.slice A xs.length c) xs u) (hn : xs.length ≤ 1000) : KeepF w l ((A, xs.length, xs) :: rows) u := by
  obtain ⟨u0, h1, h2, h3⟩ := h
  exact h1.own h2 h3 hn
theorem PendF.slice (h : PendF w l rows v xs u) : ∃ A c, v = .slice A xs.length c := by
  obtain ⟨_, _, _, h3⟩ := h
  exact h3.slice
theorem build_p (hk : KeepF w l rows u) (hgd : o.guard = none) (ho : o.op = .buildSlice 31 0 #[])
    (h : ∀ A c u', PendF w l rows (.slice A 0 c) [] u' → wpList Try.prog ops Q rest (a.put o.dst (.slice A 0 c)) u') : wpList Try.prog ops Q (o :: rest) a u :=
  wpList_plain hgd fun K hK => by
    have hb : Below u.heap.size u (u.alloc (.cells #[] 59)) := (Below.refl _ _).alloc (Nat.le_refl _) _
    have ho' : Own (u.alloc (.cells #[] 59)) u.heap.size (.slice (some ⟨u.heap.size, 0, none⟩) 0 0) [] := World.ownsRow_made u #[] 0 (Nat.le_refl _) (Nat.zero_le _) (by simp)
    unfold Oper.wp execOp
    simp only [ho, List.map_toArray, List.map_nil, Sem.run_bind, Sem.run_pure, Result.andThen_ok, run_build0]
    exact hK _ _ (h _ _ _ ⟨u, hk, hb, ho'⟩)
theorem app_p (hk : PendF w l rows v xs u) (hgd : o.guard = none) (s x : Operand) (ho : o.op = .call { callee := .builtin .append, args := #[s, x], argTypes := #[31, 31] }) (hs : a.eval s = v)
    {A : Option Addr} {m c : Nat} {zs R : List Ho} (hx : a.eval x = .slice A m c) (hr : Row u A m zs) (hR : xs ++ zs = R) (h63 : xs.length + m ≤ 2000)
    (h : ∀ A' c' u', PendF w l rows (.slice A' R.length c') R u' → wpList Try.prog ops Q rest (a.put o.dst (.slice A' R.length c')) u') : wpList Try.prog ops Q (o :: rest) a u :=
  wpList_plain hgd fun K hK => by
    subst hR
    obtain ⟨u0, h1, h2, h3⟩ := hk
    obtain ⟨v', w', hrun, h4, h5, _⟩ := append_hos u u0.heap.size o.type v xs h3 A m c zs hr h63 h2.size
    obtain ⟨A', c', rfl⟩ := h4.slice
    unfold Oper.wp execOp
    simp only [ho, resolve, invoke, builtin, Sem.run_bind, Sem.run_pure, Result.andThen_ok, List.map_toArray, List.map_cons, List.map_nil, hs, hx, hrun]
    exact hK _ _ (h A' c' w' ⟨u0, h1, h2.grown h5 h2.size (fun k hk => own_baseH h3 k hk), h4⟩)
end
end Go.Proofs.Ytofngihdnjgmeaa
