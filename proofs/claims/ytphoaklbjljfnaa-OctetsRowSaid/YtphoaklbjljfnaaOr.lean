/- Contracts of a Reader's methods: Err, End, goOn, Number, and of Count and Text where they tell something. -/
import Derived.Test.YtphoaklbjljfnaaOu
import Derived.Test.YtphoaklbjljfnaaOg
namespace Go.Proofs.Ytphoaklbjljfnaa
open Go.ChangeShapes Go.WideShapes Go.ChangeAt Go.RowKit

/-- All is as it was but for new blocks, and block r. -/
structure Only (r : Nat) (w w' : World) : Prop where
  os : w'.os = w.os
  tape : w'.tape = w.tape
  output : w'.output = w.output
  size : w.heap.size ≤ w'.heap.size
  block : ∀ k, k < w.heap.size → k ≠ r → w'.heap[k]? = w.heap[k]?
theorem Only.refl (r : Nat) (w : World) : Only r w w := ⟨rfl, rfl, rfl, Nat.le_refl _, fun _ _ _ => rfl⟩
theorem Only.trans {r : Nat} {a b c : World} (h : Only r a b) (k : Only r b c) : Only r a c :=
  ⟨k.os.trans h.os, k.tape.trans h.tape, k.output.trans h.output, Nat.le_trans h.size k.size, fun i hi hr => (k.block i (Nat.lt_of_lt_of_le hi h.size) hr).trans (h.block i hi hr)⟩
theorem Only.drew {r : Nat} {a w : World} (h : Only r a w) : Only r a w.drew := ⟨h.os, h.tape, h.output, h.size, h.block⟩
theorem Only.setCell {r : Nat} {a w : World} (h : Only r a w) (i : Nat) (v : Value) : Only r a (w.setCell ⟨r, i, none⟩ v) :=
  h.trans ⟨rfl, rfl, rfl, by simp, fun k _ hk => heap_setCell_other w ⟨r, i, none⟩ k v hk⟩
theorem Only.below {r : Nat} {W w w' : World} (hb : Below W.heap.size W w) (h : Only r w w') (hr : W.heap.size ≤ r) : Below W.heap.size W w' :=
  hb.trans ⟨h.os, h.tape, h.output, h.size, fun k hk => h.block k (Nat.lt_of_lt_of_le hk hb.size) (by omega)⟩
theorem Rd.cell0 {w : World} {r : Nat} {A : Option Addr} {n c : Nat} {e : Int} (h : w.heap[r]? = some (.cells #[.slice A n c, .int .i64 e] 44 (0, 0))) : w.cell? ⟨r, 0, none⟩ = some (.slice A n c) := by rw [cell_of_row w r 0 _ 44 (0, 0) h]; rfl
theorem Rd.cell1 {w : World} {r : Nat} {A : Option Addr} {n c : Nat} {e : Int} (h : w.heap[r]? = some (.cells #[.slice A n c, .int .i64 e] 44 (0, 0))) : w.cell? ⟨r, 1, none⟩ = some (.int .i64 e) := by rw [cell_of_row w r 1 _ 44 (0, 0) h]; rfl
theorem Rd.fz {w : World} {r : Nat} {A : Option Addr} {n c : Nat} {e : Int} (h : w.heap[r]? = some (.cells #[.slice A n c, .int .i64 e] 44 (0, 0))) (k : Nat) : w.frozen? ⟨r, k, none⟩ = false := frozen_of_row w r k _ 44 h
/-- No byte lies in a reader's own block. -/
theorem Rd.noByte {w : World} {r : Nat} {A : Option Addr} {n c : Nat} {e : Int} (h : w.heap[r]? = some (.cells #[.slice A n c, .int .i64 e] 44 (0, 0))) {off : Nat} {z : Int} (hc : w.cell? ⟨r, off, none⟩ = some (.int .u8 z)) : False := by
  rw [cell_of_row w r off _ 44 (0, 0) h] at hc
  match off, hc with
  | 0, hc => simp at hc
  | 1, hc => simp at hc
  | k + 2, hc => simp at hc
theorem Bys.only {w w' : World} {B : Option Addr} {m : List UInt8} (h : Bys w B m) {r : Nat} {l : List UInt8} {e : Int} (hr : Rd w r l e) (ho : Only r w w') : Bys w' B m := by
  obtain ⟨A, c, h1, _, _⟩ := hr
  refine h.keep fun b hl ⟨off, z, hc⟩ => ho.block b hl ?_
  rintro rfl
  exact Rd.noByte h1 hc
theorem Rd.below {w w' : World} {r : Nat} {l : List UInt8} {e : Int} (h : Rd w r l e) (hb : Below w.heap.size w w') : Rd w' r l e := by
  obtain ⟨A, c, h1, h2, h3⟩ := h
  exact ⟨A, c, (hb.block r (Array.getElem?_eq_some_iff.1 h1).1).trans h1, h2, h3.below hb⟩
theorem Rd.lt {w : World} {r : Nat} {l : List UInt8} {e : Int} (h : Rd w r l e) : r < w.heap.size := by
  obtain ⟨A, c, h1, _⟩ := h
  exact (Array.getElem?_eq_some_iff.1 h1).1
theorem Rd.setErr {w : World} {r : Nat} {l : List UInt8} {e : Int} (h : Rd w r l e) (e' : Int) : Rd (w.setCell ⟨r, 1, none⟩ (.int .i64 e')) r l e' := by
  have h' := h
  obtain ⟨A, c, h1, h2, h3⟩ := h
  refine ⟨A, c, ?_, h2, h3.only h' ((Only.refl r w).setCell 1 _)⟩
  rw [heap_setCell_same w r 1 _ 44 _ h1]; rfl
theorem Rd.setLeft {w : World} {r : Nat} {l : List UInt8} {e : Int} (h : Rd w r l e) {B : Option Addr} {m : List UInt8} {n c : Nat} (hm : m.length = n) (hc : n ≤ c) (hB : Bys w B m) : Rd (w.setCell ⟨r, 0, none⟩ (.slice B n c)) r m e := by
  subst hm
  have h' := h
  obtain ⟨A, c', h1, h2, h3⟩ := h
  refine ⟨B, c, ?_, hc, hB.only h' ((Only.refl r w).setCell 0 _)⟩
  rw [heap_setCell_same w r 0 _ 44 _ h1]; rfl
theorem err_any (r : Nat) (l : List UInt8) (er : Int) (w : World) (h : Rd w r l er) :
    Calls Try.prog 17 #[.pointer (some ⟨r, 0, none⟩)] w fun e w' => e = .returned (.int .i64 er) ∧ w = w' := by
  obtain ⟨A, c, h1, _, _⟩ := h
  have c1 := Rd.cell1 h1
  clear h1
  go_enter Try.func17, Try.ntmps17
  go_wp2
  go_ret
  exact ⟨rfl, rfl⟩
def endE (l : List UInt8) (er : Int) : Int := if er = 0 then (if l = [] then 0 else 5) else er
theorem end_any (r : Nat) (l : List UInt8) (er : Int) (w : World) (h : Rd w r l er) :
    Calls Try.prog 16 #[.pointer (some ⟨r, 0, none⟩)] w fun e w' => e = .returned (.int .i64 (endE l er)) ∧ w = w' := by
  have he := err_any r l er w h
  obtain ⟨A, c, h1, _, _⟩ := h
  have c0 := Rd.cell0 h1
  clear h1
  by_cases h0 : er = 0
  · subst h0
    by_cases h2 : l = []
    · subst h2
      have hl : ([] : List UInt8).length = 0 := rfl
      rw [hl] at c0
      rw [show endE [] 0 = 0 from rfl]
      go_enter Try.func16, Try.ntmps16
      go_wp2_with (first
        | (go_at_call 17; (with_reducible refine he.mono ?_); rintro e u ⟨rfl, rfl⟩))
      go_ret
      exact ⟨rfl, rfl⟩
    · rw [show endE l 0 = 5 by rw [endE, if_pos rfl, if_neg h2]]
      have hl : 0 < l.length := by
        rcases Nat.eq_zero_or_pos l.length with h | h
        · exact absurd (List.eq_nil_of_length_eq_zero h) h2
        · exact h
      generalize l.length = n at *
      have hl' : (0 : Int) < (n : Int) := by omega
      go_enter Try.func16, Try.ntmps16
      go_wp2_with (first
        | (go_at_call 17; (with_reducible refine he.mono ?_); rintro e u ⟨rfl, rfl⟩))
      go_ret
      exact ⟨rfl, rfl⟩
  · rw [show endE l er = er by rw [endE, if_neg h0]]
    have h0' : (er != 0) = true := by simp [h0]
    have h0'' : (er == 0) = false := by simp [h0]
    go_enter Try.func16, Try.ntmps16
    go_wp2_with (first
      | (go_at_call 17; (with_reducible refine he.mono ?_); rintro e u ⟨rfl, rfl⟩))
    go_ret
    exact ⟨rfl, rfl⟩
theorem slice3 (A : Option Addr) (n c K : Nat) (h1 : K ≤ n) (h2 : n ≤ c) (W : World) : (Instr.slice 22 (.slice A n c) (some (.int .i64 (K : Int))) (some (.int .i64 (n : Int))) (some (.int .i64 (n : Int)))).run Try.prog W = .ok (.slice (if n = K then A else A.map (·.add K)) (n - K) (n - K)) W := by
  obtain ⟨i0, hi0, hz0, hz1, hz2⟩ := info_parts b_info
  simp [Instr.slice, run_underlying Try.underlying22, Instr.sliceBounds, Instr.sliceBound, asIntOf, sizeOf, typeInfo, hi0, hz1, h1, h2]
theorem wp_store_left {o : Oper} {a : Act} {w : World} {K : Act → World → Prop} {Q : Exit → Act → World → Prop} (hd : o.dst = none) (x y : Operand) (ho : o.op = .store 22 x y) {r : Nat} (hx : a.eval x = .pointer (some ⟨r, 0, none⟩)) {B : Option Addr} {n c : Nat} (hy : a.eval y = .slice B n c)
    {v : Value} (hc : w.cell? ⟨r, 0, none⟩ = some v) (hf : w.frozen? ⟨r, 0, none⟩ = false) (h : K a (w.setCell ⟨r, 0, none⟩ (.slice B n c))) : o.wp Try.prog a w K Q := by
  unfold Oper.wp execOp
  simp only [ho, hx, hy]
  simp [go_sem, hc, hf]
  simpa [hd, Act.put] using h
set_option maxRecDepth 100000 in
theorem goOn_any (r : Nat) (l : List UInt8) (er : Int) (k : Nat) (hk : k ≤ l.length) (w : World) (h : Rd w r l er) :
    Calls Try.prog 23 #[.pointer (some ⟨r, 0, none⟩), .int .i64 (k : Int)] w fun e w' => e = .returned (.tuple #[]) ∧ Rd w' r (l.drop k) er ∧ Only r w w' := by
  have HR := Lib.hid h
  obtain ⟨A, c, h1, hnc, hb⟩ := h
  have HC := Lib.hid (Rd.cell0 h1)
  have HZ := Lib.hid (Rd.fz h1 0)
  have HB := Lib.hid hb
  have HL := Lib.hid (show (l.drop k).length = l.length - k from List.length_drop)
  clear h1 hb
  generalize l.length = n at *
  go_enter Try.func23, Try.ntmps23
  go_wp2_with fail
  refine Draws.start (S := fun u : World => u = w.drew) (n := 17) 20 rfl (by kernel_rfl) ?_
  have HS := Lib.hid (show (fun u : World => u = w.drew) w.drew from rfl)
  refine Draws.take 0 (v := ?v1) HS.out rfl (by kernel_rfl) (fun _ _ _ h => h) (Or.inl ⟨rfl, ?h1⟩) ?r1
  case h1 => intro w' hw'; go_simp; (try with_reducible rfl)
  (try simp only [Act.put, List.setIfInBounds_toArray, List.set_cons_zero, List.set_cons_succ])
  refine Draws.take 1 (v := ?v2) HS.out rfl (by kernel_rfl) (fun _ _ _ h => h) (Or.inl ⟨rfl, ?h2⟩) ?r2
  case h2 => intro w' hw'; go_simp; (try with_reducible rfl)
  (try simp only [Act.put, List.setIfInBounds_toArray, List.set_cons_zero, List.set_cons_succ])
  refine Draws.take 2 (v := ?v3) HS.out rfl (by kernel_rfl) (fun _ _ _ h => h) (Or.inl ⟨rfl, ?h3⟩) ?r3
  case h3 => intro w' hw'; go_simp; (try with_reducible rfl)
  (try simp only [Act.put, List.setIfInBounds_toArray, List.set_cons_zero, List.set_cons_succ])
  refine Draws.take 3 (v := ?v4) HS.out rfl (by kernel_rfl) (fun _ _ _ h => h) (Or.inl ⟨rfl, ?h4⟩) ?r4
  case h4 => intro w' hw'; go_simp; (try with_reducible rfl)
  (try simp only [Act.put, List.setIfInBounds_toArray, List.set_cons_zero, List.set_cons_succ])
  refine Draws.take 4 (v := ?v5) HS.out rfl (by kernel_rfl) (fun _ _ _ h => h) (Or.inl ⟨rfl, ?h5⟩) ?r5
  case h5 => intro w' hw'; have c0 : w'.cell? ⟨r, 0, none⟩ = some (.slice A n c) := (by rw [hw']; exact HC.out); clear hw'; go_simp; (try with_reducible rfl)
  (try simp only [Act.put, List.setIfInBounds_toArray, List.set_cons_zero, List.set_cons_succ])
  refine Draws.take 5 (v := ?v6) HS.out rfl (by kernel_rfl) (fun _ _ _ h => h) (Or.inl ⟨rfl, ?h6⟩) ?r6
  case h6 => intro w' hw'; go_simp; (try with_reducible rfl)
  (try simp only [Act.put, List.setIfInBounds_toArray, List.set_cons_zero, List.set_cons_succ])
  refine Draws.take 6 (v := ?v7) HS.out rfl (by kernel_rfl) (fun _ _ _ h => h) (Or.inl ⟨rfl, ?h7⟩) ?r7
  case h7 => intro w' hw'; go_simp; (try with_reducible rfl)
  (try simp only [Act.put, List.setIfInBounds_toArray, List.set_cons_zero, List.set_cons_succ])
  refine Draws.take 7 (v := ?v8) HS.out rfl (by kernel_rfl) (fun _ _ _ h => h) (Or.inl ⟨rfl, ?h8⟩) ?r8
  case h8 => intro w' hw'; go_simp; (try with_reducible rfl)
  (try simp only [Act.put, List.setIfInBounds_toArray, List.set_cons_zero, List.set_cons_succ])
  refine Draws.take 8 (v := ?v9) HS.out rfl (by kernel_rfl) (fun _ _ _ h => h) (Or.inl ⟨rfl, ?h9⟩) ?r9
  case h9 => intro w' hw'; go_simp; (try with_reducible rfl)
  (try simp only [Act.put, List.setIfInBounds_toArray, List.set_cons_zero, List.set_cons_succ])
  refine Draws.take 9 (v := ?v10) HS.out rfl (by kernel_rfl) (fun _ _ _ h => h) (Or.inl ⟨rfl, ?h10⟩) ?r10
  case h10 => intro w' hw'; have c0 : w'.cell? ⟨r, 0, none⟩ = some (.slice A n c) := (by rw [hw']; exact HC.out); clear hw'; go_simp; (try with_reducible rfl)
  (try simp only [Act.put, List.setIfInBounds_toArray, List.set_cons_zero, List.set_cons_succ])
  refine Draws.take 10 (v := ?v11) HS.out rfl (by kernel_rfl) (fun _ _ _ h => h) (Or.inl ⟨rfl, ?h11⟩) ?r11
  case h11 => intro w' hw'; go_simp; (try with_reducible rfl)
  (try simp only [Act.put, List.setIfInBounds_toArray, List.set_cons_zero, List.set_cons_succ])
  refine Draws.take 11 (v := ?v12) HS.out rfl (by kernel_rfl) (fun _ _ _ h => h) (Or.inl ⟨rfl, ?h12⟩) ?r12
  case h12 => intro w' hw'; go_simp; (try with_reducible rfl)
  (try simp only [Act.put, List.setIfInBounds_toArray, List.set_cons_zero, List.set_cons_succ])
  refine Draws.take 12 (v := ?v13) HS.out rfl (by kernel_rfl) (fun _ _ _ h => h) (Or.inl ⟨rfl, ?h13⟩) ?r13
  case h13 => intro w' hw'; go_simp; (try with_reducible rfl)
  (try simp only [Act.put, List.setIfInBounds_toArray, List.set_cons_zero, List.set_cons_succ])
  refine Draws.take 13 (v := ?v14) HS.out rfl (by kernel_rfl) (fun _ _ _ h => h) (Or.inl ⟨rfl, ?h14⟩) ?r14
  case h14 => intro w' hw'; go_simp; (try with_reducible rfl)
  (try simp only [Act.put, List.setIfInBounds_toArray, List.set_cons_zero, List.set_cons_succ])
  refine Draws.take 14 (v := ?v15) HS.out rfl (by kernel_rfl) (fun _ _ _ h => h) (Or.inl ⟨rfl, ?h15⟩) ?r15
  case h15 => intro w' hw'; have c0 : w'.cell? ⟨r, 0, none⟩ = some (.slice A n c) := (by rw [hw']; exact HC.out); clear hw'; go_simp; (try with_reducible rfl)
  (try simp only [Act.put, List.setIfInBounds_toArray, List.set_cons_zero, List.set_cons_succ])
  refine Draws.take 15 (v := ?v16) HS.out rfl (by kernel_rfl) (fun _ _ _ h => h) (Or.inl ⟨rfl, ?h16⟩) ?r16
  case h16 => intro w' hw'; go_simp; (try with_reducible rfl)
  (try simp only [Act.put, List.setIfInBounds_toArray, List.set_cons_zero, List.set_cons_succ])
  refine Draws.take 16 (v := ?v17) HS.out rfl (by kernel_rfl) (fun _ _ _ h => h) (Or.inl ⟨rfl, ?h17⟩) ?r17
  case h17 => intro w' hw'; have c1 := slice3 A n c k hk hnc w'; go_simp; (try with_reducible rfl)
  (try simp only [Act.put, List.setIfInBounds_toArray, List.set_cons_zero, List.set_cons_succ])
  refine Draws.does 17 rfl (by kernel_rfl) rfl (fun K hK => ?_)
  go_simp
  refine hK.out _ _ (fun h => absurd h (by omega)) ?_
  clear hK K
  (try simp only [Act.put, List.setIfInBounds_toArray, List.set_cons_zero, List.set_cons_succ])
  refine Draws.does 18 rfl (by kernel_rfl) rfl (fun K hK => ?_)
  go_simp
  refine hK.out _ _ (fun h => absurd h (by omega)) ?_
  clear hK K
  (try simp only [Act.put, List.setIfInBounds_toArray, List.set_cons_zero, List.set_cons_succ])
  refine Draws.does 19 rfl (by kernel_rfl) rfl (fun K hK => ?_)
  refine wp_store_left rfl _ _ rfl rfl rfl HC.out HZ.out ?_
  refine hK.out _ _ (fun h => absurd h (by omega)) ?_
  clear hK K
  (try simp only [Act.put, List.setIfInBounds_toArray, List.set_cons_zero, List.set_cons_succ])
  refine Draws.done (by kernel_rfl) ?_
  go_wp2_with fail
  all_goals first
    | (go_end0; exact ⟨rfl, Rd.setLeft (w := w.drew) HR.out HL.out (Nat.le_refl _) (HB.out.drop k), ((Only.refl r w).drew).setCell 0 _⟩)
    | (go_end0; exact ⟨rfl, (show l.drop k = [] from List.eq_nil_of_length_eq_zero (by rw [HL.out]; omega)) ▸ Rd.setLeft (w := w.drew) HR.out rfl (Nat.le_refl _) (.inl rfl), ((Only.refl r w).drew).setCell 0 _⟩)
    | (go_end0; refine ⟨rfl, ?_, ((Only.refl r w).drew).setCell 0 _⟩; rw [show l.drop k = [] from List.eq_nil_of_length_eq_zero (by rw [HL.out]; omega)]; exact Rd.setLeft (w := w.drew) HR.out rfl (Nat.le_refl _) (.inl rfl))
end Go.Proofs.Ytphoaklbjljfnaa
