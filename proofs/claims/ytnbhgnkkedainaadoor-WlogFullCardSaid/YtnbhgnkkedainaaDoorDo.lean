/- Contracts of a disk's Sync, Append, Swap and Cut, and of what a disk that is not there tells. -/
import Derived.Test.YtnbhgnkkedainaaDoorDm
namespace Go.Proofs.YtnbhgnkkedainaaDoor
open Go.ChangeShapes Go.WideShapes Go.ChangeAt Go.RowKit

theorem sync_any (r : Nat) (z f : Int) (v : Value) (d : List UInt8) (n : Nat) (hn : d.length = n) (w : World) (h : Dk w r z v f d) :
    Calls Tryd.prog 30 #[.pointer (some ⟨r, 0, none⟩)] w fun e w' => e = .returned (.tuple #[]) ∧ Dk w' r z v (n : Int) d ∧ Mv w w' r v v := by
  have HD := Lib.hid h
  obtain ⟨B, c, rfl, _⟩ := h.own.slice
  have HC := Lib.hid h.cel
  have c1 := h.c1
  rw [hn] at c1
  rw [hn] at HD HC
  rw [hn]
  clear h hn
  go_enter Tryd.func30, Tryd.ntmps30
  go_wp2_with (first
    | (with_reducible refine store_c HC.out rfl rfl rfl _ _ rfl rfl rfl rfl (by simp) ?_))
  go_end0
  exact ⟨rfl, HD.out.setSafe _, Mv.set 2 _⟩
theorem sync_no (w : World) : Calls Tryd.prog 30 #[.pointer none] w fun e w' => e = .returned (.tuple #[]) ∧ w = w' := by
  go_enter Tryd.func30, Tryd.ntmps30
  go_wp2
  go_end0
  exact ⟨rfl, rfl⟩
/-- append onto a row of the call's own, with what becomes of its block. -/
theorem app_mv {w : World} {ops : Array Oper} {rest : List Oper} {o : Oper} {a : Act} {Q : Exit → Act → World → Prop} {base : Nat} {v : Value} {l : List UInt8} (hown : Own w base v l) (hbase : base ≤ w.heap.size) {A : Option Addr} {m : List UInt8} (hr : Bys w A m) {k : Nat} (hk : m.length = k) (hgd : o.guard = none) (s x : Operand)
    (ho : o.op = .call { callee := .builtin .append, args := #[s, x], argTypes := #[34, 34] }) (hs : a.eval s = v)
    {c : Nat} (hx : a.eval x = .slice A k c) (h63 : l.length + m.length ≤ 1048576)
    (h : ∀ v' w', Own w' base v' (l ++ m) → w.grownBy w' v.ownBlock → (v'.ownBlock = v.ownBlock ∨ v'.ownBlock = some w.heap.size) → wpList Tryd.prog ops Q rest (a.put o.dst v') w') : wpList Tryd.prog ops Q (o :: rest) a w :=
  wpList_plain hgd fun _ hK => by
    subst hk
    obtain ⟨v', w', hrun, h2, h3, h4⟩ := append_bys w base o.type v l hown A c m hr h63 hbase
    unfold Oper.wp execOp
    simp only [ho, resolve, invoke, builtin, Sem.run_bind, Sem.run_pure, Result.andThen_ok, List.map_toArray, List.map_cons, List.map_nil, hs, hx, hrun]
    exact hK _ _ (h v' w' h2 h3 h4)
/-- Append, if there is no room. -/
theorem append_full (r : Nat) (z : Nat) (f : Int) (v : Value) (d : List UInt8) (A : Option Addr) (k c : Nat) (hz : d.length ≤ z) (hz2 : z ≤ 1048576) (hk : z < d.length + k) (w : World) (h : Dk w r z v f d) :
    Calls Tryd.prog 24 #[.pointer (some ⟨r, 0, none⟩), .slice A k c] w fun e w' => e = .returned (.int .i64 7) ∧ Below w.heap.size w w' := by
  have hx := room_any r z f v d w h d.length rfl (by omega) (by omega)
  clear h
  generalize d.length = n at *
  have i1 : (z : Int) - n < k := by omega
  have i2 : decide ((z : Int) - n < k) = true := by simp; omega
  have HW := Lib.hid True.intro
  go_enter Tryd.func24, Tryd.ntmps24
  go_wp2_with (first
    | (go_at_call 36; (with_reducible refine hx.mono ?_); rintro e u ⟨rfl, q, rfl⟩))
  go_ret
  exact ⟨rfl, below_dn _ _⟩
theorem append_any (r : Nat) (z : Nat) (f : Int) (v : Value) (d : List UInt8) (A : Option Addr) (k c : Nat) (m : List UInt8) (hm : m.length = k) (hz2 : z ≤ 1048576) (hk : d.length + k ≤ z) (w : World) (hA : Bys w A m) (h : Dk w r z v f d) :
    Calls Tryd.prog 24 #[.pointer (some ⟨r, 0, none⟩), .slice A k c] w fun e w' => e = .returned (.int .i64 0) ∧ ∃ v', Dk w' r z v' f (d ++ m) ∧ Mv w w' r v v' := by
  have hx := room_any r z f v d w h d.length rfl (by omega) (by omega)
  obtain ⟨B, c', rfl, _⟩ := h.own.slice
  have HL := Lib.hid hm
  have hD := h
  have hA' := hA
  have HQ := Lib.hid (show ∀ q, Dk (w.drewN q) r z (.slice B d.length c') f d ∧ Bys (w.drewN q) A m ∧ (w.drewN q).cell? ⟨r, 1, none⟩ = some (.slice B d.length c') from fun q => ⟨h.below (below_dn _ _), hA.below (below_dn _ _), (h.below (below_dn _ _)).c1⟩)
  clear hD hA' h hA hm
  generalize hn : d.length = n at *
  have HN := Lib.hid (show d.length + m.length ≤ 1048576 by have := HL.out; omega)
  clear hn
  have i1 : ¬ (z : Int) - n < k := by omega
  have i2 : decide ((z : Int) - n < k) = false := by simp; omega
  go_enter Tryd.func24, Tryd.ntmps24
  go_wp2_with (first
    | (go_at_call 36; (with_reducible refine hx.mono ?_); rintro e u ⟨rfl, q, rfl⟩; obtain ⟨hd, ha, c1⟩ := HQ.out q; clear HQ hx; have HM := Lib.hid (Mv.below r (.slice B n c') (below_dn w q)); generalize w.drewN q = u at *; have HD := Lib.hid hd; have HA := Lib.hid ha; clear hd ha)
    | (refine app_mv HD.out.own (Nat.zero_le _) HA.out HL.out rfl _ _ rfl rfl rfl HN.out ?_; intro v' u' ho hg hv; have hm := HM.out.trans (Mv.grown (r := r) hg hv); have hc : Cel u' r 58 [.int .i64 z, .slice B n c', .int .i64 f] := (hg.block r HD.out.cel.lt (fun e => HD.out.apart e.symm)).trans HD.out.cel; clear HM hg hv c1; have HM := Lib.hid hm; have HO := Lib.hid ho; have HC := Lib.hid hc; obtain ⟨B2, c2, hv2, _⟩ := ho.slice; clear ho hc hm; generalize (d ++ m).length = N2 at hv2; subst hv2)
    | (with_reducible refine store_c HC.out rfl rfl rfl _ _ rfl rfl rfl rfl (by simp) ?_))
  go_ret
  exact ⟨rfl, _, Dk.setRow HC.out HO.out, HM.out.trans (Mv.set 1 _)⟩
theorem append_no (A : Option Addr) (k c : Nat) (w : World) : Calls Tryd.prog 24 #[.pointer none, .slice A k c] w fun e w' => e = .returned (.int .i64 1) ∧ w = w' := by
  go_enter Tryd.func24, Tryd.ntmps24
  go_wp2
  go_ret
  exact ⟨rfl, rfl⟩
end Go.Proofs.YtnbhgnkkedainaaDoor
