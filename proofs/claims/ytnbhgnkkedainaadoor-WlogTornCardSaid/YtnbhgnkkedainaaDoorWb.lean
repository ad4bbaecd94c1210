/- What a log's Append is made of: a list of one, a record more in its row, the cell of the row. -/
import Derived.Test.YtnbhgnkkedainaaDoorWa
namespace Go.Proofs.YtnbhgnkkedainaaDoor
open Go.ChangeShapes Go.WideShapes Go.ChangeAt Go.RowKit

theorem set_one (f : Nat → Value) (v : Value) : (Array.map f (Array.range 1)).setIfInBounds 0 v = #[v] := by
  apply Array.ext
  · simp
  · intro i h1 h2
    have : i = 0 := by simp at h2; omega
    subst this
    simp
theorem run_build1 (A : Option Addr) (n c : Nat) (u : World) : (Instr.buildSlice 31 1 #[(0, .slice A n c)]).run Tryd.prog u = .ok (.slice (some ⟨u.heap.size, 0, none⟩) 1 1) (u.alloc (.cells #[.slice A n c] 34)) := by
  obtain ⟨i0, hi0, hz0, hz1, hz2⟩ := info_parts s_info
  simp [Instr.buildSlice, run_underlying Tryd.underlying31, sizeOf, typeInfo, zeroValue, hi0, hz0, hz1, Instr.fill, Value.cells, newRow, newObj, set_one]
  rfl
/-- Cells of one type alone. -/
def cellT (ty : TypeId) : Bool := ty == 3 || ty == 34 || ty == 31 || ty == 25
def plainW : Value → Bool
  | .int _ _ => true
  | .slice _ _ _ => true
  | .pointer _ => true
  | _ => false
theorem run_load_t {W : World} {ad : Addr} {v : Value} {ty : TypeId} (ht : cellT ty = true) (hc : W.cell? ad = some v) : (Instr.loadAt ty (.pointer (some ad))).run Tryd.prog W = .ok v W := by
  simp only [cellT, Bool.or_eq_true, beq_iff_eq] at ht
  rcases ht with ((rfl | rfl) | rfl) | rfl <;> simp [go_sem, hc]
theorem run_store_t {W : World} {ad : Addr} {v v' : Value} {ty : TypeId} (ht : cellT ty = true) (hc : W.cell? ad = some v') (hf : W.frozen? ad = false) (hv : plainW v = true) : (Instr.storeAt ty (.pointer (some ad)) v).run Tryd.prog W = .ok () (W.setCell ad v) := by
  simp only [cellT, Bool.or_eq_true, beq_iff_eq] at ht
  cases v <;> simp only [plainW, Bool.false_eq_true] at hv <;> rcases ht with ((rfl | rfl) | rfl) | rfl <;> simp [go_sem, hc, hf]
section
variable {ops : Array Oper} {rest : List Oper} {o : Oper} {a : Act} {u : World} {Q : Exit → Act → World → Prop} {K : Act → World → Prop} {S : World → Prop}
theorem wp_store_t {b : Nat} {t : TypeId} {cs : List Value} (hC : Cel u b t cs) {ty : TypeId} (ht : cellT ty = true) (hd : o.dst = none) (x y : Operand) (ho : o.op = .store ty x y) {off : Nat} {v : Value} (hx : a.eval x = .pointer (some ⟨b, off, none⟩)) (hy : a.eval y = v) (hv : plainW v = true) (hr : off < cs.length)
    (h : K a (u.setCell ⟨b, off, none⟩ v)) : o.wp Tryd.prog a u K Q := by
  have e := run_store_t (v := v) ht (hC.cell (List.getElem?_eq_getElem hr)) (hC.frozen off) hv
  unfold Oper.wp execOp
  simp only [ho, hx, hy, Sem.run_bind, Sem.run_pure, Result.andThen_ok, e]
  simpa [hd, Act.put, Oper.upon] using h
theorem store_t {b : Nat} {t : TypeId} {cs : List Value} (hC : Cel u b t cs) {ty : TypeId} (ht : cellT ty = true) (hgd : o.guard = none) (hd : o.dst = none) (x y : Operand) (ho : o.op = .store ty x y) {off : Nat} {v : Value} (hx : a.eval x = .pointer (some ⟨b, off, none⟩)) (hy : a.eval y = v) (hv : plainW v = true) (hr : off < cs.length)
    (h : wpList Tryd.prog ops Q rest a (u.setCell ⟨b, off, none⟩ v)) : wpList Tryd.prog ops Q (o :: rest) a u :=
  wpList_plain hgd fun _ hK => wp_store_t hC ht hd x y ho hx hy hv hr (hK _ _ h)
theorem yield_t {ty : TypeId} (ht : cellT ty = true) {ad : Addr} {v : Value} (hS : ∀ u, S u → u.cell? ad = some v) (x : Operand) (ho : o.op = .load ty x) (hx : a.eval x = .pointer (some ad)) (hw : Region.wanted o (yielded ops a.tmps) = true) : YieldsIf Tryd.prog ops S o v a :=
  .inl ⟨hw, fun u' hu => by
    unfold execOp
    simp only [ho, hx, Sem.run_bind, Sem.run_pure, Result.andThen_ok, run_load_t ht (hS u' hu)]⟩
theorem wp_build1 (x : Operand) (ho : o.op = .buildSlice 31 1 #[(0, x)]) {A : Option Addr} {n c : Nat} (hx : a.eval x = .slice A n c)
    (h : K (a.put o.dst (.slice (some ⟨u.heap.size, 0, none⟩) 1 1)) (u.alloc (.cells #[.slice A n c] 34))) : o.wp Tryd.prog a u K Q := by
  unfold Oper.wp execOp
  simp only [ho, List.map_toArray, List.map_cons, List.map_nil, hx, Sem.run_bind, Sem.run_pure, Result.andThen_ok, run_build1]
  exact h
/-- append(v, p): the one slice lies in a row of its own. -/
theorem wp_push {L : List BPart} {v : Value} (hown : u.ownsRow 0 34 1 v L.length (prts L)) {g : Nat} {x : BPart} (hc : u.cell? ⟨g, 0, none⟩ = some (prt x)) (s y : Operand)
    (ho : o.op = .call { callee := .builtin .append, args := #[s, y], argTypes := #[31, 31] }) (hs : a.eval s = v) (hy : a.eval y = .slice (some ⟨g, 0, none⟩) 1 1) (h63 : L.length ≤ 1048000)
    (h : ∀ v' u', u'.ownsRow 0 34 1 v' (L.length + 1) (prts (L ++ [x])) → u.grownBy u' v.ownBlock → (v'.ownBlock = v.ownBlock ∨ v'.ownBlock = some u.heap.size) → K (a.put o.dst v') u') : o.wp Tryd.prog a u K Q := by
  obtain ⟨i0, hi0, hz0, hz1, hz2⟩ := info_parts s_info
  obtain ⟨v', w', hrun, h2, h3, _, h5⟩ := run_append_own_at (P := Tryd.prog) u 0 31 o.type 34 i0 (.slice none 0 0) 1 24 Tryd.underlying31 hi0 hz0 hz1 hz2 rfl (by omega) v L.length (prts L) hown ⟨g, 0, none⟩ 1 1 [prt x]
    rfl
    (fun j y hy => by
      match j, hy with
      | 0, hy =>
        simp at hy; subst hy
        simpa [Addr.add] using hc
      | j + 1, hy => simp at hy)
    (fun y hy => by simp at hy; subst hy; rfl) (by simp only [maxLen]; omega) (by omega) (Nat.zero_le _)
  have hK := h v' w' (by rw [prts_append]; exact h2) h3 h5
  unfold Oper.wp execOp
  simp only [ho, resolve, invoke, builtin, Sem.run_bind, Sem.run_pure, Result.andThen_ok, List.map_toArray, List.map_cons, List.map_nil, hs, hy, hrun]
  exact hK
end
theorem cel_row {u : World} {r : Nat} {t t' : TypeId} {cs : List Value} (h : Cel u r t cs) (ht : t ≠ t') {v : Value} {n : Nat} {xs : List Value} {base : Nat} (ho : u.ownsRow base t' 1 v n xs) : v.ownBlock ≠ some r := fun e => by
  rcases ho.2 with ⟨rfl, _⟩ | ⟨g, cap, cur, rfl, _, h3, _⟩
  · simp [Value.ownBlock] at e
  · simp [Value.ownBlock] at e
    subst e
    unfold Cel at h
    rw [h3] at h
    injection h with h
    injection h with _ h2
    exact ht h2.symm
theorem row_row {u : World} {t t' : TypeId} (ht : t ≠ t') {v v' : Value} {n n' : Nat} {xs xs' : List Value} {base base' : Nat} (h : u.ownsRow base t 1 v n xs) (h' : u.ownsRow base' t' 1 v' n' xs') {k : Nat} (hk : v.ownBlock = some k) : some k ≠ v'.ownBlock := fun e => by
  rcases h.2 with ⟨rfl, _⟩ | ⟨g, cap, cur, rfl, _, h3, _⟩
  · simp [Value.ownBlock] at hk
  · exact cel_row (cs := cur.toList) (by unfold Cel; simpa using h3) ht h' (by rw [← e, ← hk]; rfl)
theorem row_slice {u : World} {v : Value} {n : Nat} {xs : List Value} {t : TypeId} {base : Nat} (h : u.ownsRow base t 1 v n xs) : ∃ A c, v = .slice A n c ∧ n ≤ c := by
  rcases h.2 with ⟨rfl, h0⟩ | ⟨g, cap, cur, rfl, _, _, h1, _⟩
  · exact ⟨none, 0, by rw [h0], by omega⟩
  · exact ⟨_, _, rfl, h1⟩
/-- No thing. -/
def Th.nil : Th := ⟨fun _ => False, fun _ => True, fun _ _ => trivial, fun _ h => h.elim⟩
section
variable {w u u' : World} {F : Nat → Prop} {own ro : List Th}
/-- A row of the call's own became a record of a log. -/
theorem Kg.push {A : Option Addr} {n c : Nat} {p : List UInt8} {r rd : Nat} {v v' : Value} {L : List BPart} (h : Kg w F (Th.row (.slice A n c) p :: Th.lo r rd v L :: own) ro u) (hn : p.length = n) (hg : u.grownBy u' v.ownBlock)
    (hv : v'.ownBlock = v.ownBlock ∨ v'.ownBlock = some u.heap.size) (ho : u'.ownsRow 0 34 1 v' (L.length + 1) (prts (L ++ [(A, c, p)]))) : Kg w F (Th.lo r rd v' (L ++ [(A, c, p)]) :: own) ro (u'.setCell ⟨r, 1, none⟩ v') := by
  subst hn
  have hrow : Own u 0 (prt (A, c, p)) p := h.rowIn 0 rfl
  have hlo : Lo u r rd v L := h.lo 1 rfl
  have hc : Cel u' r 63 [.pointer (some ⟨rd, 0, none⟩), v] := (hg.block r hlo.cel.lt fun e => cel_row hlo.cel (by decide) hlo.own e.symm).trans hlo.cel
  have hall : ∀ x ∈ L ++ [(A, c, p)], Own u 0 (prt x) x.2.2 := fun x hx => by
    rcases List.mem_append.1 hx with hx | hx
    · exact hlo.all x hx
    · obtain rfl := List.mem_singleton.1 hx
      exact hrow
  have hall' : ∀ x ∈ L ++ [(A, c, p)], Own u' 0 (prt x) x.2.2 := fun x hx => (hall x hx).else fun k hk => hg.block k ((hall x hx).lt hk) (row_row (by decide) (hall x hx) hlo.own hk)
  have hL' : Lo (u'.setCell ⟨r, 1, none⟩ v') r rd v' (L ++ [(A, c, p)]) := by
    refine ⟨hc.setCell 1 v', row_stay (by rw [List.length_append]; exact ho) fun k hk => heap_setCell_other u' ⟨r, 1, none⟩ k v' fun e => ?_, fun x hx => (hall' x hx).else fun k hk => heap_setCell_other u' ⟨r, 1, none⟩ k v' fun e => ?_⟩
    · exact cel_row hc (by decide) ho (by simp only at e; rw [← e]; exact hk)
    · exact cel_row hc (by decide) (hall' x hx) (by simp only at e; rw [← e]; exact hk)
  have h2 := h.move2 0 1 (x := Th.row (.slice A p.length c) p) (y := Th.lo r rd v L) (x' := Th.nil) (y' := Th.lo r rd v' (L ++ [(A, c, p)])) (u' := u'.setCell ⟨r, 1, none⟩ v') rfl rfl (by omega)
    ⟨hg.os, hg.tape, hg.output, by simpa using hg.size, fun k hk hn => by
      rw [heap_setCell_other u' ⟨r, 1, none⟩ k v' fun e => hn (.inr (.inl e))]
      exact hg.block k hk fun e => hn (.inr (.inr (.inl e.symm)))⟩ trivial hL' (fun _ h => h.elim) (fun _ h => h.elim) (by
    rintro k (hk | hk | ⟨x, hx, hk⟩)
    · exact .inl (.inr (.inl hk))
    · rcases hv with h1 | h1
      · exact .inl (.inr (.inr (.inl (h1 ▸ hk))))
      · rw [h1] at hk; injection hk with hk; exact .inr (by omega)
    · rcases List.mem_append.1 hx with hx | hx
      · exact .inl (.inr (.inr (.inr ⟨x, hx, hk⟩)))
      · obtain rfl := List.mem_singleton.1 hx
        exact .inl (.inl hk))
  simp only [List.set_cons_zero, List.set_cons_succ] at h2
  exact h2.tail
/-- A row of the call's own alone became a log's. -/
theorem Kg.only {A : Option Addr} {n c : Nat} {p : List UInt8} {r rd : Nat} {v : Value} {L : List BPart} (h : Kg w F (Th.row (.slice A n c) p :: Th.lo r rd v L :: own) ro u) (hn : p.length = n) :
    Kg w F (Th.lo r rd (.slice (some ⟨u.heap.size, 0, none⟩) 1 1) [(A, c, p)] :: own) ro ((u.alloc (.cells #[.slice A n c] 34)).setCell ⟨r, 1, none⟩ (.slice (some ⟨u.heap.size, 0, none⟩) 1 1)) := by
  subst hn
  have hb := below_new u (.cells #[.slice A p.length c] 34)
  have hnew := heap_alloc_new u (.cells #[.slice A p.length c] 34)
  have hsz : (u.alloc (.cells #[.slice A p.length c] 34)).heap.size = u.heap.size + 1 := by simp
  have hold := fun k (hk : k < u.heap.size) => hb.block k hk
  have hrow : Own u 0 (prt (A, c, p)) p := h.rowIn 0 rfl
  have hlo : Lo u r rd v L := h.lo 1 rfl
  have hrlt := hlo.cel.lt
  generalize u.alloc (.cells #[.slice A p.length c] 34) = u1 at *
  have hc : Cel u1 r 63 [.pointer (some ⟨rd, 0, none⟩), v] := (hold r hrlt).trans hlo.cel
  have ho : u1.ownsRow 0 34 1 (.slice (some ⟨u.heap.size, 0, none⟩) 1 1) 1 (prts [(A, c, p)]) :=
    ⟨rfl, .inr ⟨u.heap.size, 1, #[.slice A p.length c], rfl, Nat.zero_le _, hnew, Nat.le_refl _, by simp only [maxLen]; omega, rfl, rfl⟩⟩
  have hr1 : Own u1 0 (prt (A, c, p)) p := hrow.else fun k hk => hold k (hrow.lt hk)
  have hL' : Lo (u1.setCell ⟨r, 1, none⟩ (.slice (some ⟨u.heap.size, 0, none⟩) 1 1)) r rd (.slice (some ⟨u.heap.size, 0, none⟩) 1 1) [(A, c, p)] := by
    refine ⟨hc.setCell 1 _, row_stay ho fun k hk => heap_setCell_other u1 ⟨r, 1, none⟩ k _ fun e => ?_, fun x hx => ?_⟩
    · simp only [Value.ownBlock, Option.some.injEq] at hk; simp only at e; omega
    · obtain rfl := List.mem_singleton.1 hx
      exact hr1.else fun k hk => heap_setCell_other u1 ⟨r, 1, none⟩ k _ fun e => cel_row hc (by decide) hr1 (by simp only at e; rw [← e]; exact hk)
  have h2 := h.move2 0 1 (x := Th.row (.slice A p.length c) p) (y := Th.lo r rd v L) (x' := Th.nil) (y' := Th.lo r rd (.slice (some ⟨u.heap.size, 0, none⟩) 1 1) [(A, c, p)]) (u' := u1.setCell ⟨r, 1, none⟩ (.slice (some ⟨u.heap.size, 0, none⟩) 1 1)) rfl rfl (by omega)
    ⟨hb.os, hb.tape, hb.output, by simp [hsz], fun k hk hn => by
      rw [heap_setCell_other u1 ⟨r, 1, none⟩ k _ fun e => hn (.inr (.inl e))]
      exact hold k hk⟩ trivial hL' (fun _ h => h.elim) (fun _ h => h.elim) (by
    rintro k (hk | hk | ⟨x, hx, hk⟩)
    · exact .inl (.inr (.inl hk))
    · simp only [Value.ownBlock, Option.some.injEq] at hk; exact .inr (by omega)
    · obtain rfl := List.mem_singleton.1 hx
      exact .inl (.inl hk))
  simp only [List.set_cons_zero, List.set_cons_succ] at h2
  exact h2.tail
end
end Go.Proofs.YtnbhgnkkedainaaDoor
