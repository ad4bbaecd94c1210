/- Lists that are cut, rows of bytes of a call's own, frames that are torn. -/
import Derived.Test.YtnbhgnkkedainaaDoorWk
namespace Go.Proofs.YtnbhgnkkedainaaDoor
open Go.ChangeShapes Go.WideShapes Go.ChangeAt Go.RowKit

theorem run_highL (a : Option Addr) (len cap K : Nat) (h : K ≤ cap) (W : World) : (Instr.slice 31 (.slice a len cap) none (some (.int .i64 (K : Int))) none).run Tryd.prog W = .ok (.slice a K cap) W := by
  obtain ⟨i0, hi0, hz0, hz1, hz2⟩ := info_parts s_info
  have e : (Instr.slice 31 (.slice a len cap) none (some (.int .i64 (K : Int))) none).run Tryd.prog W = .ok (.slice (if cap = 0 then a else a.map (·.add 0)) K cap) W := by
    simp [Instr.slice, run_underlying Tryd.underlying31, Instr.sliceBounds, Instr.sliceBound, asIntOf, sizeOf, typeInfo, hi0, h]
  rw [high0] at e
  exact e
section
variable {ops : Array Oper} {rest : List Oper} {o : Oper} {a : Act} {w u u' : World} {F : Nat → Prop} {own ro : List Th} {Q : Exit → Act → World → Prop} {S : World → Prop}
theorem high_sliceL {A : Option Addr} {n c K : Nat} (hK : K ≤ c) (x y : Operand) (ho : o.op = .slice 31 x none (some y) none) (hx : a.eval x = .slice A n c) (hy : a.eval y = .int .i64 (K : Int)) (hw : Region.wanted o (yielded ops a.tmps) = true)
    (h : wpList Tryd.prog ops Q rest (a.put o.dst (.slice A K c)) u) : wpList Tryd.prog ops Q (o :: rest) a u :=
  BigFrame.wpList_want hw fun _ hQ => by
    have e := run_highL A n c K hK u
    unfold Oper.wp execOp
    simp only [ho, hx, Option.map_some, Option.map_none, hy, Sem.run_bind]
    simp [Instr.sliceAt, e]
    exact hQ _ _ h
theorem yield_highL {A : Option Addr} {n c K : Nat} (hK : K ≤ c) (x y : Operand) (ho : o.op = .slice 31 x none (some y) none) (hx : a.eval x = .slice A n c) (hy : a.eval y = .int .i64 (K : Int)) (hw : Region.wanted o (yielded ops a.tmps) = true) :
    YieldsIf Tryd.prog ops S o (.slice A K c) a :=
  .inl ⟨hw, fun w _ => by
    unfold execOp
    have h := run_highL A n c K hK w
    simp only [ho, hx, Option.map_some, Option.map_none, hy, Sem.run_bind]
    simp [Instr.sliceAt, h]⟩
/-- A row of bytes with none in it. -/
theorem buildB_k (hk : Kg w F own ro u) (hgd : o.guard = none) (ho : o.op = .buildSlice 34 0 #[])
    (h : ∀ v u', Kg w F (Th.row v [] :: own) ro u' → wpList Tryd.prog ops Q rest (a.put o.dst v) u') : wpList Tryd.prog ops Q (o :: rest) a u :=
  build_none (Below.refl _ _) hgd ho fun v u' h1 _ => h v u' (hk.add (t := Th.row v []) h1.bel (h1.own.mono (Nat.zero_le _)) fun k hk' => h1.own.base k hk')
/-- A row grows by bytes that lie apart from it. -/
theorem appB_k (hk : Kg w F own ro u) (i : Nat) {v : Value} {d : List UInt8} (hi : own[i]? = some (Th.row v d)) {A : Option Addr} {m : List UInt8} (hA : Bys u A m) {k : Nat} (hm : m.length = k) (hgd : o.guard = none) (s x : Operand)
    (ho : o.op = .call { callee := .builtin .append, args := #[s, x], argTypes := #[34, 34] }) (hs : a.eval s = v) {c : Nat} (hx : a.eval x = .slice A k c) (h63 : d.length + m.length ≤ 1048576)
    (h : ∀ B N c' u', (d ++ m).length = N → N ≤ c' → Kg w F (own.set i (Th.row (.slice B N c') (d ++ m))) ro u' → wpList Tryd.prog ops Q rest (a.put o.dst (.slice B N c')) u') : wpList Tryd.prog ops Q (o :: rest) a u :=
  app_mv (hk.rowIn i hi) (Nat.zero_le _) hA hm hgd s x ho hs hx h63 fun v' u' h1 h2 h3 => by
    obtain ⟨B, c', rfl, hc⟩ := h1.slice
    refine h B _ c' u' rfl hc (hk.move i hi ⟨h2.os, h2.tape, h2.output, h2.size, fun k hk hn => h2.block k hk fun e => hn e.symm⟩ h1 fun k hk => ?_)
    have hk' : (Value.slice B (d ++ m).length c').ownBlock = some k := hk
    rcases h3 with h4 | h4
    · exact .inl (h4.symm.trans hk')
    · rw [h4] at hk'; injection hk' with hk'; exact .inr (by omega)
/-- A byte of a row is another one. -/
theorem Kg.setByte (h : Kg w F own ro u) (i : Nat) {g n c : Nat} {l : List UInt8} (hi : own[i]? = some (Th.row (.slice (some ⟨g, 0, none⟩) n c) l)) (hn : l.length = n) (k : Nat) (d : UInt8) : Kg w F (own.set i (Th.row (.slice (some ⟨g, 0, none⟩) n c) (l.set k d))) ro (u.setCell ⟨g, k, none⟩ (.int .u8 (d.toNat : Int))) := by
  subst hn
  obtain ⟨h1, h2⟩ := World.ownsRow.stored (h.rowIn i hi) k (.int .u8 (d.toNat : Int))
  refine h.move i hi ⟨h2.os, h2.tape, h2.output, h2.size, fun k hk hn => h2.block k hk fun e => hn e.symm⟩ ?_ fun k hk => .inl hk
  show Own _ 0 _ (l.set k d)
  unfold Own
  rw [← bys_set, List.length_set]
  exact h1
theorem Kg.byteAt (h : Kg w F own ro u) (i : Nat) {g n c : Nat} {l : List UInt8} (hi : own[i]? = some (Th.row (.slice (some ⟨g, 0, none⟩) n c) l)) {k : Nat} (hk : k < l.length) : u.cell? ⟨g, k, none⟩ = some (.int .u8 ((l.getD k 0).toNat : Int)) := by
  have h1 : Own u 0 (.slice (some ⟨g, 0, none⟩) n c) l := h.rowIn i hi
  have := h1.cells (g := g) rfl k _ (bys_get hk)
  rw [Go.WideShapes.add_plain] at this
  simpa using this
theorem storeB_k (h : Kg w F own ro u) (i : Nat) {g n c : Nat} {l : List UInt8} (hi : own[i]? = some (Th.row (.slice (some ⟨g, 0, none⟩) n c) l)) (hn : l.length = n) {k : Nat} (hk : k < n) (d : UInt8) {z : Int} (hz : z = (d.toNat : Int))
    (hgd : o.guard = none) (hd : o.dst = none) (x y : Operand) (ho : o.op = .store 5 x y) (hx : a.eval x = .pointer (some ⟨g, k, none⟩)) (hy : a.eval y = .int .u8 z)
    (hQ : ∀ u', Kg w F (own.set i (Th.row (.slice (some ⟨g, 0, none⟩) n c) (l.set k d))) ro u' → wpList Tryd.prog ops Q rest a u') : wpList Tryd.prog ops Q (o :: rest) a u :=
  wpList_plain hgd fun K hK => by
    subst hz
    have hc := h.byteAt i hi (k := k) (by omega)
    have h1 : Own u 0 (.slice (some ⟨g, 0, none⟩) n c) l := h.rowIn i hi
    have hf : u.frozen? ⟨g, k, none⟩ = false := by
      subst hn
      exact World.ownsRow.frozenAt h1 k
    have := hK _ _ (hQ _ (h.setByte i hi hn k d))
    unfold Oper.wp execOp
    simp only [ho, hx, hy]
    simp [go_sem, hc, hf]
    simpa [hd, Act.put] using this
end
theorem row_at {u : World} {base : Nat} {A : Option Addr} {n c : Nat} {l : List UInt8} (h : Own u base (.slice A n c) l) (h0 : 0 < l.length) : ∃ g, A = some ⟨g, 0, none⟩ := by
  rcases h.2 with ⟨_, h1⟩ | ⟨g, cap, cur, h1, _⟩
  · omega
  · injection h1 with h1
    exact ⟨g, h1⟩
/-- The first ones of a list. -/
theorem LL.take {w : World} {A : Option Addr} {n : Nat} {L : List BPart} (h : LL w A n L) {k : Nat} (hk : k ≤ n) : LL w A k (L.take k) := by
  obtain ⟨h1, h2⟩ := h
  refine ⟨by rw [List.length_take]; omega, ?_⟩
  rcases h2 with h2 | ⟨b, off, rfl, h3⟩
  · exact .inl (by omega)
  · refine .inr ⟨b, off, rfl, fun i x hx => h3 i x ?_⟩
    rw [List.getElem?_take] at hx
    split at hx
    · exact hx
    · cases hx
theorem txt_take (L : List BPart) (k : Nat) : txt (L.take k) = (txt L).take k := by simp [txt]
/-- So many frames are whole. -/
theorem whole_frames (M : List (List UInt8)) (k : Nat) : ∃ j, j ≤ M.length ∧ (fls (M.take j)).length ≤ k ∧ ∀ i, j < i → i ≤ M.length → k < (fls (M.take i)).length := by
  have h : ∀ n, n ≤ M.length → ∃ j, j ≤ n ∧ (fls (M.take j)).length ≤ k ∧ ∀ i, j < i → i ≤ n → k < (fls (M.take i)).length := by
    intro n
    induction n with
    | zero => exact fun _ => ⟨0, Nat.le_refl _, by simp [fls], fun i h1 h2 => by omega⟩
    | succ n ih =>
      intro hn
      by_cases hk : (fls (M.take (n + 1))).length ≤ k
      · exact ⟨n + 1, Nat.le_refl _, hk, fun i h1 h2 => by omega⟩
      · obtain ⟨j, h1, h2, h3⟩ := ih (by omega)
        refine ⟨j, by omega, h2, fun i h4 h5 => ?_⟩
        by_cases hi : i ≤ n
        · exact h3 i h4 hi
        · obtain rfl : i = n + 1 := by omega
          omega
  exact h M.length (Nat.le_refl _)
/-- A frame of which the last bytes are missing ends too early. -/
theorem tk_short {p : List UInt8} (hp : p.length ≤ 32768) {q : Nat} (hq : q < (frm p).length) : tkE ((frm p).take q) = 3 := by
  have hl : ((frm p).take q).length = q := by rw [List.length_take]; omega
  have h8 := frm_length p
  by_cases h : q < 8
  · rw [tkE, if_pos (by omega)]
  · have hd : dcd ((frm p).take q) = p.length := by
      rw [dcd_of_take (by omega) q (by omega)]
      unfold frm
      rw [List.append_assoc]
      exact dcd_cod (by omega) _
    rw [tkE, if_neg (by omega), if_neg (by omega), if_pos (by omega)]
theorem torn_tail {M : List (List UInt8)} (hM : ∀ p ∈ M, p.length ≤ 32768) {k j : Nat} (_hj : j ≤ M.length) (h1 : (fls (M.take j)).length ≤ k) (h2 : ∀ i, j < i → i ≤ M.length → k < (fls (M.take i)).length) : tkE (((fls M).take k).drop (fls (M.take j)).length) = 3 := by
  have e : (fls M).take k = fls (M.take j) ++ (fls (M.drop j)).take (k - (fls (M.take j)).length) := by
    conv => lhs; rw [← List.take_append_drop j M, fls_append]
    rw [List.take_append, List.take_of_length_le h1]
  rw [e, List.drop_append_of_le_length (Nat.le_refl _), List.drop_length, List.nil_append]
  rcases Nat.lt_or_ge j M.length with hlt | hge
  · have h3 := h2 (j + 1) (by omega) (by omega)
    rw [fls_take hlt, List.length_append] at h3
    have hd : M.drop j = M[j] :: M.drop (j + 1) := List.drop_eq_getElem_cons hlt
    have hg : M.getD j [] = M[j] := by simp [List.getD, hlt]
    rw [hg] at h3
    rw [hd, fls_cons]
    have hp := hM _ (List.getElem_mem hlt)
    rw [List.take_append_of_le_length (by omega)]
    exact tk_short hp (by omega)
  · rw [List.drop_eq_nil_of_le hge, show fls [] = [] from rfl, List.take_nil]
    exact tk_nil
end Go.Proofs.YtnbhgnkkedainaaDoor
