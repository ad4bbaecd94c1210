/- A contract of rights.Free. -/
import Derived.Test.YtpbjencigepnfaaConcat
import Derived.Test.YtpbjencigepnfaaRtDo
import Derived.Test.YtpbjencigepnfaaRtq
namespace Go.Proofs.Ytpbjencigepnfaa
open Go.ChangeShapes Go.WideShapes Go.ChangeAt Go.RowKit

/-! ### Rows of ints that are made, beside what is kept. -/
theorem set_one (f : Nat → Value) (v : Value) : (Array.map f (Array.range 1)).setIfInBounds 0 v = #[v] := by
  apply Array.ext
  · simp
  · intro i h1 h2
    have : i = 0 := by simp at h2; omega
    subst this
    simp
theorem run_build1 (z : Int) (u : World) : (Instr.buildSlice 51 1 #[(0, .int .i64 z)]).run Try.prog u = .ok (.slice (some ⟨u.heap.size, 0, none⟩) 1 1) (u.alloc (.cells (vals [z]).toArray 3)) := by
  obtain ⟨i0, hi0, hz0, hz1, hz2⟩ := info_parts int_info
  simp [Instr.buildSlice, run_underlying Try.underlying51, sizeOf, typeInfo, zeroValue, hi0, hz0, hz1, Instr.fill, Value.cells, newRow, newObj, vals, set_one]
  rfl
theorem wp_build1 {o : Oper} {a : Act} {w u : World} {l : List (Nat × TypeId × List Int)} {K : Act → World → Prop} {Q : Exit → Act → World → Prop} (hk : KeepR w l u) (x : Operand) (ho : o.op = .buildSlice 51 1 #[(0, x)]) {z : Int} (hx : a.eval x = .int .i64 z)
    (h : ∀ b u', KeepR w ((b, 3, [z]) :: l) u' → Below u.heap.size u u' → K (a.put o.dst (.slice (some ⟨b, 0, none⟩) 1 1)) u') : o.wp Try.prog a u K Q := by
  unfold Oper.wp execOp
  simp only [ho, List.map_toArray, List.map_cons, List.map_nil, hx, Sem.run_bind, Sem.run_pure, Result.andThen_ok, run_build1]
  exact h _ _ (hk.new rfl) (box u _ _).2
theorem build1 {ops : Array Oper} {rest : List Oper} {o : Oper} {a : Act} {w u : World} {l : List (Nat × TypeId × List Int)} {Q : Exit → Act → World → Prop} (hk : KeepR w l u) (hgd : o.guard = none) (x : Operand) (ho : o.op = .buildSlice 51 1 #[(0, x)]) {z : Int} (hx : a.eval x = .int .i64 z)
    (h : ∀ b u', KeepR w ((b, 3, [z]) :: l) u' → Below u.heap.size u u' → wpList Try.prog ops Q rest (a.put o.dst (.slice (some ⟨b, 0, none⟩) 1 1)) u') : wpList Try.prog ops Q (o :: rest) a u :=
  wpList_plain hgd fun _ hK => wp_build1 hk x ho hx fun b u' h1 h2 => hK _ _ (h b u' h1 h2)
theorem Blk.own {w : World} {base b : Nat} {zs : List Int} (h : Blk w b 3 zs) (hb : base ≤ b) {n : Nat} (hn : zs.length = n) (hm : n ≤ 1048576) : w.ownsRow base 3 1 (.slice (some ⟨b, 0, none⟩) n n) n (vals zs) :=
  ⟨by rw [vals_length, hn, Nat.mul_one], .inr ⟨b, n, _, rfl, hb, h, Nat.le_refl _, by simp only [maxLen]; omega, by simp [vals_length, hn], by simp [vals_length, hn, List.take_of_length_le]⟩⟩
theorem Blk.readsAll {w : World} {b : Nat} {t : TypeId} {zs : List Int} (h : Blk w b t zs) {n : Nat} (hl : zs.length = n) (hm : n ≤ 1048576) : Reads w (some ⟨b, 0, none⟩) n zs :=
  ⟨hl, by simp only [maxLen]; omega, .inr ⟨b, 0, rfl, fun i hi => by rw [Nat.zero_add]; exact h.cell (by omega)⟩⟩
theorem reads_seg {w : World} {b : Nat} {t : TypeId} {R : List Int} (h : Blk w b t R) {o n : Nat} (hr : o + n ≤ R.length) (hm : n ≤ 1048576) : Reads w (some ⟨b, o, none⟩) n (seg R o n) :=
  ⟨seg_length hr, by simp only [maxLen]; omega, .inr ⟨b, o, rfl, fun i hi => by rw [h.cell (by omega), seg_get hi]⟩⟩
theorem KeepR.grown {w u u' : World} {l : List (Nat × TypeId × List Int)} (h : KeepR w l u) {v : Value} {n : Nat} {xs : List Value} (ho : u.ownsRow w.heap.size 3 1 v n xs) (ht : ∀ x ∈ l, x.2.1 ≠ 3) (hg : u.grownBy u' v.ownBlock) : KeepR w l u' := by
  refine ⟨h.bel.grown hg h.bel.size (own_base ho), fun x hx => ⟨(h.blk x hx).1, ?_⟩, h.apart⟩
  have hb := (h.blk x hx).2
  refine (hg.block x.1 hb.lt fun e => ?_).trans hb
  rcases ho.2 with ⟨rfl, _⟩ | ⟨g, cap, cur, rfl, _, h3, _⟩
  · simp [Value.ownBlock] at e
  · simp only [Value.ownBlock, Option.some.injEq] at e
    unfold Blk at hb
    rw [e, h3] at hb
    injection hb with hb
    injection hb with _ hb
    exact ht x hx hb.symm
theorem own_apart {u u' : World} {base b : Nat} {t : TypeId} {R : List Int} {v : Value} {n : Nat} {xs : List Value} (ho : u.ownsRow base 3 1 v n xs) (hb : Blk u b t R) (ht : t ≠ 3) (hs : ∀ k, k ≠ b → u'.heap[k]? = u.heap[k]?) : u'.ownsRow base 3 1 v n xs := by
  refine ⟨ho.1, ?_⟩
  rcases ho.2 with ⟨h1, h2⟩ | ⟨g, cap, cur, h1, h2, h3, h4⟩
  · exact .inl ⟨h1, h2⟩
  · refine .inr ⟨g, cap, cur, h1, h2, ?_, h4⟩
    rw [hs g (fun e => ?_)]
    · exact h3
    · unfold Blk at hb
      rw [e, hb] at h3
      injection h3 with h3
      injection h3 with _ h3
      exact ht h3

/-! ### What is free. -/
/-- What the others moved to k. -/
def colL (R : List Int) (k : Nat) : List Int := (List.range 16).map fun j => R.getD (32 + j * 16 + k) 0
theorem colL_length (R : List Int) (k : Nat) : (colL R k).length = 16 := by simp [colL]
theorem colL_get {R : List Int} {k j : Nat} (h : j < 16) : (colL R k).getD j 0 = R.getD (32 + j * 16 + k) 0 := by simp [colL, List.getD, h]
/-- What is added up for what is free at k. -/
def fl (R : List Int) (k : Nat) : List Int := (R.getD k 0 :: colL R k) ++ (negs [R.getD (16 + k) 0] ++ negs (seg R (32 + k * 16) 16))
def freeN (R : List Int) (k : Int) : Int := if repB k then sumN (fl R k.toNat) else 0
def freeE (R : List Int) (k : Int) : Int := if repB k then sumE (fl R k.toNat) else 1
theorem free_no {R : List Int} {k : Int} (h : repB k = false) : freeN R k = 0 ∧ freeE R k = 1 := by simp [freeN, freeE, h]
theorem free_yes {R : List Int} {k : Nat} (h : k < 16) : freeN R k = sumN (fl R k) ∧ freeE R k = sumE (fl R k) := by
  have : repB (k : Int) = true := repB_iff.2 (by omega)
  simp [freeN, freeE, this]

theorem parts3 {u : World} {A B C : Option Addr} {n m p c d e : Nat} {xs ys zs : List Int} (h1 : Reads u A n xs) (h2 : Reads u B m ys) (h3 : Reads u C p zs) : PartsAt (u.alloc (.cells #[.slice A n c, .slice B m d, .slice C p e] 51)) u.heap.size [(A, n, c, xs), (B, m, d, ys), (C, p, e, zs)] := by
  have hb : Below u.heap.size u (u.alloc (.cells #[.slice A n c, .slice B m d, .slice C p e] 51)) := (Below.refl _ _).alloc (Nat.le_refl _) _
  have hh := heap_alloc_new u (.cells #[.slice A n c, .slice B m d, .slice C p e] 51)
  intro i x hx
  match i, hx with
  | 0, hx => simp only [List.getElem?_cons_zero, Option.some.injEq] at hx; subst hx; exact ⟨by rw [cell_of_row _ _ _ _ _ (0, 0) hh]; rfl, reads_below hb h1⟩
  | 1, hx => simp only [List.getElem?_cons_succ, List.getElem?_cons_zero, Option.some.injEq] at hx; subst hx; exact ⟨by rw [cell_of_row _ _ _ _ _ (0, 0) hh]; rfl, reads_below hb h2⟩
  | 2, hx => simp only [List.getElem?_cons_succ, List.getElem?_cons_zero, Option.some.injEq] at hx; subst hx; exact ⟨by rw [cell_of_row _ _ _ _ _ (0, 0) hh]; rfl, reads_below hb h3⟩
  | i + 3, hx => simp at hx

theorem set_three (f : Nat → Value) (x y z : Value) : (((Array.map f (Array.range 3)).setIfInBounds 0 x).setIfInBounds 1 y).setIfInBounds 2 z = #[x, y, z] := by
  apply Array.ext
  · simp
  · intro i h1 h2
    have : i = 0 ∨ i = 1 ∨ i = 2 := by simp at h2; omega
    rcases this with rfl | rfl | rfl <;> simp
theorem set_two (f : Nat → Value) (x y : Value) : ((Array.map f (Array.range 2)).setIfInBounds 0 x).setIfInBounds 1 y = #[x, y] := by
  apply Array.ext
  · simp
  · intro i h1 h2
    have : i = 0 ∨ i = 1 := by simp at h2; omega
    rcases this with rfl | rfl <;> simp
theorem row_info : (Try.prog.info? 51).map (fun i => (i.zero, i.size, i.bytes)) = some (some (.slice none 0 0), 1, 24) := by kernel_rfl
theorem run_build3 (A B C : Option Addr) (n m p c d e : Nat) (u : World) : (Instr.buildSlice 72 3 #[(0, .slice A n c), (1, .slice B m d), (2, .slice C p e)]).run Try.prog u = .ok (.slice (some ⟨u.heap.size, 0, none⟩) 3 3) (u.alloc (.cells #[.slice A n c, .slice B m d, .slice C p e] 51)) := by
  obtain ⟨i0, hi0, hz0, hz1, hz2⟩ := info_parts row_info
  simp [Instr.buildSlice, run_underlying Try.underlying72, sizeOf, typeInfo, zeroValue, hi0, hz0, hz1, Instr.fill, Value.cells, newRow, newObj, set_three]
  rfl
theorem run_build2 (A B : Option Addr) (n m c d : Nat) (u : World) : (Instr.buildSlice 72 2 #[(0, .slice A n c), (1, .slice B m d)]).run Try.prog u = .ok (.slice (some ⟨u.heap.size, 0, none⟩) 2 2) (u.alloc (.cells #[.slice A n c, .slice B m d] 51)) := by
  obtain ⟨i0, hi0, hz0, hz1, hz2⟩ := info_parts row_info
  simp [Instr.buildSlice, run_underlying Try.underlying72, sizeOf, typeInfo, zeroValue, hi0, hz0, hz1, Instr.fill, Value.cells, newRow, newObj, set_two]
  rfl
theorem wp_build3 {o : Oper} {a : Act} {u : World} {K : Act → World → Prop} {Q : Exit → Act → World → Prop} (x y z : Operand) (ho : o.op = .buildSlice 72 3 #[(0, x), (1, y), (2, z)]) {A B C : Option Addr} {n m p c d e : Nat} {xs ys zs : List Int}
    (hx : a.eval x = .slice A n c) (hy : a.eval y = .slice B m d) (hz : a.eval z = .slice C p e) (h1 : Reads u A n xs) (h2 : Reads u B m ys) (h3 : Reads u C p zs)
    (h : ∀ b u', PartsAt u' b [(A, n, c, xs), (B, m, d, ys), (C, p, e, zs)] → Below u.heap.size u u' → K (a.put o.dst (.slice (some ⟨b, 0, none⟩) 3 3)) u') : o.wp Try.prog a u K Q := by
  unfold Oper.wp execOp
  simp only [ho, List.map_toArray, List.map_cons, List.map_nil, hx, hy, hz, Sem.run_bind, Sem.run_pure, Result.andThen_ok, run_build3]
  exact h _ _ (parts3 h1 h2 h3) ((Below.refl _ _).alloc (Nat.le_refl _) _)
theorem parts2 {u : World} {A B : Option Addr} {n m c d : Nat} {xs ys : List Int} (h1 : Reads u A n xs) (h2 : Reads u B m ys) : PartsAt (u.alloc (.cells #[.slice A n c, .slice B m d] 51)) u.heap.size [(A, n, c, xs), (B, m, d, ys)] := by
  have hb : Below u.heap.size u (u.alloc (.cells #[.slice A n c, .slice B m d] 51)) := (Below.refl _ _).alloc (Nat.le_refl _) _
  have hh := heap_alloc_new u (.cells #[.slice A n c, .slice B m d] 51)
  intro i x hx
  match i, hx with
  | 0, hx => simp only [List.getElem?_cons_zero, Option.some.injEq] at hx; subst hx; exact ⟨by rw [cell_of_row _ _ _ _ _ (0, 0) hh]; rfl, reads_below hb h1⟩
  | 1, hx => simp only [List.getElem?_cons_succ, List.getElem?_cons_zero, Option.some.injEq] at hx; subst hx; exact ⟨by rw [cell_of_row _ _ _ _ _ (0, 0) hh]; rfl, reads_below hb h2⟩
  | i + 2, hx => simp at hx
theorem wp_build2 {o : Oper} {a : Act} {u : World} {K : Act → World → Prop} {Q : Exit → Act → World → Prop} (x y : Operand) (ho : o.op = .buildSlice 72 2 #[(0, x), (1, y)]) {A B : Option Addr} {n m c d : Nat} {xs ys : List Int}
    (hx : a.eval x = .slice A n c) (hy : a.eval y = .slice B m d) (h1 : Reads u A n xs) (h2 : Reads u B m ys)
    (h : ∀ b u', PartsAt u' b [(A, n, c, xs), (B, m, d, ys)] → Below u.heap.size u u' → K (a.put o.dst (.slice (some ⟨b, 0, none⟩) 2 2)) u') : o.wp Try.prog a u K Q := by
  unfold Oper.wp execOp
  simp only [ho, List.map_toArray, List.map_cons, List.map_nil, hx, hy, Sem.run_bind, Sem.run_pure, Result.andThen_ok, run_build2]
  exact h _ _ (parts2 h1 h2) ((Below.refl _ _).alloc (Nat.le_refl _) _)
end Go.Proofs.Ytpbjencigepnfaa
