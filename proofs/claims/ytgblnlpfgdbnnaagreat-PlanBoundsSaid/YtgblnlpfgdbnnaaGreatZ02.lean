/- Plain arithmetic of layer 1 (num): which numbers may be, and what a sum, a difference and a product tell. No program is spoken of here. Contracts of num.Is and num.Add: each tells what the plain arithmetic tells, and leaves the world as it was. A region that draws its order, whose first operations read, call and make memory while S is kept, and whose last ones (stores) wait for all of the first: an operation that yields the same wherever S is kept may be taken first. Ints in memory: lists of ints as the cells that hold them, blocks that are kept while calls make memory, and what the operations on them do.; Rights (288 ints: Given, Used, then 16 rows of what each moved): the lists that they are, the cells that hold them, their parts, and what the operations on them do. Rights: when two are the same; a row of what was moved; rights that come in. Contracts of rights.told, rights.isReplica, rights.Give and the document's Give. Contracts of rights.Give and the document's Give. Contracts of rights.less, slices.Grow and slices.Concat of ints. Contracts of slices.Grow and slices.Concat of ints. A contract of rights.Free. A contract of rights.Free. Contracts of rights.Total, and the document's Free and Total. A contract of the document's Free. Aggregates that are filled with parts; rows of vectors; a contract of rights.vectors. A contract of rights.vectors.; Contracts of counter.Value and of the document's Value.; Contracts of View and Loose, of both.; Fields in a row: where one is (plan.Find, the document's at), and whether they may be (plan.Fields, the document's Fields).; The document's Fields; Total of both.; Plain facts of fields that may be, and of plans that fit. -/
import Derived.Test.YtgblnlpfgdbnnaaGreatRows
import Derived.Test.YtgblnlpfgdbnnaaGreatZ33
namespace Go.Proofs.YtgblnlpfgdbnnaaGreat

theorem take_snoc {xs : List Int} {k : Nat} (h : k < xs.length) : xs.take (k + 1) = xs.take k ++ [xs.getD k 0] := by
  rw [List.take_succ_eq_append_getElem h]; simp [List.getD, h]

end Go.Proofs.YtgblnlpfgdbnnaaGreat

namespace Go.Proofs.YtgblnlpfgdbnnaaGreat
set_option maxRecDepth 100000
open Go.ChangeShapes Go.WideShapes Go.ChangeAt Go.RowKit

/-! ### Parts of a list. -/
/-! ### Blocks. -/
/-! ### Operations at a plain region's list. -/
/-! ### What the types are. -/

theorem own_below {w w' : World} {base : Nat} {e : TypeId} {s : Nat} {v : Value} {n : Nat} {xs : List Value} (h : w.ownsRow base e s v n xs) (hb : Below w.heap.size w w') : w'.ownsRow base e s v n xs := by
  refine ⟨h.1, ?_⟩
  rcases h.2 with ⟨h1, h2⟩ | ⟨g, cap, cur, h1, h2, h3, h4⟩
  · exact .inl ⟨h1, h2⟩
  · refine .inr ⟨g, cap, cur, h1, h2, ?_, h4⟩
    rw [hb.block g (Array.getElem?_eq_some_iff.1 h3).1]; exact h3

/-! ### Rows of ints that are made, beside what is kept. -/
theorem build1 {ops : Array Oper} {rest : List Oper} {o : Oper} {a : Act} {w u : World} {l : List (Nat × TypeId × List Int)} {Q : Exit → Act → World → Prop} (hk : KeepR w l u) (hgd : o.guard = none) (x : Operand) (ho : o.op = .buildSlice 63 1 #[(0, x)]) {z : Int} (hx : a.eval x = .int .i64 z)
    (h : ∀ b u', KeepR w ((b, 3, [z]) :: l) u' → Below u.heap.size u u' → wpList Tryz.prog ops Q rest (a.put o.dst (.slice (some ⟨b, 0, none⟩) 1 1)) u') : wpList Tryz.prog ops Q (o :: rest) a u :=
  wpList_plain hgd fun _ hK => wp_build1 hk x ho hx fun b u' h1 h2 => hK _ _ (h b u' h1 h2)
/-! ### What is free. -/

set_option maxHeartbeats 1000000 in
theorem rvalue_any (C : List Int) (hC : C.length = 579) (w : World) :
    Calls Tryz.prog 54 #[.agg (vals C).toArray] w fun e w' => e = .returned (.tuple #[.int .i64 (sumN (valL C)), .int .i64 (sumE (valL C))]) ∧ Below w.heap.size w w' := by
  have HX1 := Lib.hid (seg_length (R := C) (o := 307) (n := 16) (by omega))
  have HY := Lib.hid (seg_length (R := C) (o := 19) (n := 16) (by omega))
  have HQ := Lib.hid (show (C.getD 0 0 :: seg C 307 16) ++ negs (seg C 19 16) = valL C from rfl)
  have HC := Lib.hid hC; clear hC
  have HK := Lib.hid (KeepR.start w)
  have HO := Lib.hid True.intro
  go_enter Tryz.func54, Tryz.ntmps54
  go_wp2_with (first
    | (with_reducible refine box_new (R := C) HK.out rfl _ rfl rfl ?_; intro b u hk hb; clear hb; have hc0 := (hk.get 0 rfl).cell (k := 0) (by have := HC.out; omega); clear HK; have HK := Lib.hid hk; clear hk)
    | (with_reducible refine build1 HK.out rfl _ rfl rfl ?_; intro b1 u hk hb; clear hb hc0; have ho := (hk.get 0 rfl).own (hk.blk _ (List.mem_cons_self ..)).1 (n := 1) rfl (by omega); clear HO; have HO := Lib.hid ho; clear ho; have hk1 := hk.tail; clear hk; have hk := hk1; clear hk1; clear HK; have HK := Lib.hid hk; clear hk))
  go_loopw [4, 5] (fun v i wr => ∃ m : Nat, m ≤ 16 ∧ i = .int .i64 m ∧ KeepR w [(b, 38, C)] wr ∧ wr.ownsRow w.heap.size 3 1 v (1 + m) (vals (C.getD 0 0 :: (seg C 307 16).take m))) (fun _ i _ => 16 - (intOf i).toNat)
  case atStart => exact ⟨0, by omega, rfl, HK.out, by simpa using HO.out⟩
  case round =>
    obtain ⟨m, hm, rfl, hk, ho⟩ := hrel
    clear HK HO
    have HK := Lib.hid hk; have HO := Lib.hid ho
    clear hk ho
    by_cases hlt : m < 16
    · have hc1 := (HK.out.get 0 rfl).cell (k := 307 + m) (by have := HC.out; omega)
      have hst := take_snoc (xs := seg C 307 16) (k := m) (by rw [HX1.out]; omega)
      rw [seg_get hlt] at hst
      generalize C.getD (307 + m) 0 = x at hc1 hst
      have HT := Lib.hid hst; clear hst
      have j1 : (0 : Int) ≤ (m : Int) := by omega
      have j2 : (m : Int) < 16 := by omega
      go_wp2_with (first
        | (with_reducible refine build1 HK.out rfl _ rfl rfl ?_; intro b1 u hk hb; clear hc1; have ho := own_below HO.out hb; clear hb HO; have HO := Lib.hid ho; clear ho; have HX := Lib.hid ((hk.get 0 rfl).readsAll (n := 1) rfl (by omega)); have hk1 := hk.tail; clear hk; have hk := hk1; clear hk1; clear HK; have HK := Lib.hid hk; clear hk)
        | (refine wpList_append_ints rfl _ _ rfl w.heap.size _ (1 + m) (C.getD 0 0 :: (seg C 307 16).take m) rfl HO.out _ 1 1 [x] rfl HX.out (by omega) HK.out.bel.size ?_; intro v' u ho hg hv; have hk := HK.out.grown HO.out (by simp) hg; clear HO HX hg hv; have HO := Lib.hid ho; clear ho; clear HK; have HK := Lib.hid hk; clear hk))
      go_roundw
      case rel => exact ⟨m + 1, by omega, by go_num, HK.out, by have h3 := HO.out; rw [List.cons_append, ← HT.out] at h3; exact h3⟩
      case measure => simp [intOf]; omega
    · obtain rfl : m = 16 := by omega
      simp only [show ((16 : Nat) : Int) = 16 from rfl]
      have ho := HO.out
      rw [List.take_of_length_le (by rw [HX1.out]; omega)] at ho
      clear HO
      have HO := Lib.hid ho; clear ho
      have hng : ∀ y : Int, wrap64 (0 - y) = ng y := fun y => by unfold ng; congr 1; omega
      go_wp2
      go_loopw [4, 6] (fun v i wr => ∃ m : Nat, m ≤ 16 ∧ i = .int .i64 m ∧ KeepR w [(b, 38, C)] wr ∧ wr.ownsRow w.heap.size 3 1 v (1 + 16 + m) (vals ((C.getD 0 0 :: seg C 307 16) ++ (negs (seg C 19 16)).take m))) (fun _ i _ => 16 - (intOf i).toNat)
      case atStart => exact ⟨0, by omega, rfl, HK.out, by simpa using HO.out⟩
      case round =>
        obtain ⟨m, hm, rfl, hk, ho⟩ := hrel
        clear HK HO
        have HK := Lib.hid hk; have HO := Lib.hid ho
        clear hk ho
        by_cases hlt : m < 16
        · have hc1 := (HK.out.get 0 rfl).cell (k := 19 + m) (by have := HC.out; omega)
          have hst := take_snoc (xs := negs (seg C 19 16)) (k := m) (by rw [negs_length, HY.out]; omega)
          rw [negs_get (by rw [HY.out]; omega), seg_get hlt] at hst
          generalize C.getD (19 + m) 0 = x at hc1 hst
          have HT := Lib.hid hst; clear hst
          have j1 : (0 : Int) ≤ (m : Int) := by omega
          have j2 : (m : Int) < 16 := by omega
          go_wp2_with (first
            | (with_reducible refine build1 HK.out rfl _ rfl rfl ?_; intro b1 u hk hb; clear hc1; have ho := own_below HO.out hb; clear hb HO; have HO := Lib.hid ho; clear ho; have HX := Lib.hid ((hk.get 0 rfl).readsAll (n := 1) rfl (by omega)); have hk1 := hk.tail; clear hk; have hk := hk1; clear hk1; clear HK; have HK := Lib.hid hk; clear hk)
            | (refine wpList_append_ints rfl _ _ rfl w.heap.size _ (1 + 16 + m) ((C.getD 0 0 :: seg C 307 16) ++ (negs (seg C 19 16)).take m) rfl HO.out _ 1 1 [ng x] rfl HX.out (by omega) HK.out.bel.size ?_; intro v' u ho hg hv; have hk := HK.out.grown HO.out (by simp) hg; clear HO HX hg hv; have HO := Lib.hid ho; clear ho; clear HK; have HK := Lib.hid hk; clear hk))
          go_roundw
          case rel => exact ⟨m + 1, by omega, by go_num, HK.out, by have h3 := HO.out; rw [List.append_assoc, ← HT.out] at h3; exact h3⟩
          case measure => simp [intOf]; omega
        · obtain rfl : m = 16 := by omega
          have ho := HO.out
          rw [List.take_of_length_le (by rw [negs_length, HY.out]; omega), HQ.out] at ho
          obtain ⟨A, c, rfl⟩ := own_slice ho
          have HV := Lib.hid (own_reads ho (by omega)).1
          clear ho HO
          go_wp2_with ((go_at_call 31; (with_reducible refine (rsum_any A _ c (valL C) _ HV.out).mono ?_); rintro e u ⟨rfl, rfl⟩))
          go_ret2
          exact ⟨rfl, HK.out.bel⟩

theorem rview_any (f : Fd) (hf : f.full) (w : World) :
    Calls Tryz.prog 24 #[.agg f.cells.toArray] w fun e w' => e = .returned (.tuple #[.int .i64 (viewN f), .int .i64 (viewE f)]) ∧ Below w.heap.size w w' := by
  have HK := Lib.hid (KeepF.start (w := w) (rows := []) (by simp))
  have HF := Lib.hid hf; clear hf
  have HC := Lib.hid (c_infoF HF.out)
  by_cases h1 : f.k = 1
  · rw [(view_1 h1).1, (view_1 h1).2]
    have hcl := rvalue_any f.C HF.out
    generalize sumN (valL f.C) = N at hcl ⊢
    generalize sumE (valL f.C) = E at hcl ⊢
    have hk1 : f.cells[1]? = some (.int .i64 1) := by rw [Fd.c1, h1]
    go_enter Tryz.func24, Tryz.ntmps24
    go_wp2_with (first
      | (with_reducible refine box_f HK.out rfl _ rfl rfl ?_; intro b u hk; clear HK; have HK := Lib.hid hk; clear hk)
      | (with_reducible refine load_f1 HK.out 0 cbI _ rfl rfl rfl rfl hk1 ?_)
      | (with_reducible refine load_fr HK.out 0 Tryz.underlying38 rfl HC.out _ rfl rfl rfl rfl (Fd.cC f) ?_)
      | (go_at_call 54; (with_reducible refine (hcl _).mono ?_); rintro e u ⟨rfl, hb⟩; have hk := HK.out.call hb; clear hb; clear HK; have HK := Lib.hid hk; clear hk))
    go_ret2
    exact ⟨rfl, HK.out.bel⟩
  · by_cases h2 : f.k = 2
    · rw [(view_2 h2).1, (view_2 h2).2]
      have hk1 : f.cells[1]? = some (.int .i64 2) := by rw [Fd.c1, h2]
      go_enter Tryz.func24, Tryz.ntmps24
      go_wp2_with (first
        | (with_reducible refine box_f HK.out rfl _ rfl rfl ?_; intro b u hk; clear HK; have HK := Lib.hid hk; clear hk)
        | (with_reducible refine load_f1 HK.out 0 cbI _ rfl rfl rfl rfl hk1 ?_)
        | (with_reducible refine load_f1 HK.out 0 cbI _ rfl rfl rfl rfl (Fd.cV HF.out) ?_))
      go_ret2
      exact ⟨rfl, HK.out.bel⟩
    · rw [(view_0 h1 h2).1, (view_0 h1 h2).2]
      have hk1 := Fd.c1 f
      generalize f.k = K at h1 h2 hk1
      go_enter Tryz.func24, Tryz.ntmps24
      go_wp2_with (first
        | (with_reducible refine box_f HK.out rfl _ rfl rfl ?_; intro b u hk; clear HK; have HK := Lib.hid hk; clear hk)
        | (with_reducible refine load_f1 HK.out 0 cbI _ rfl rfl rfl rfl hk1 ?_))
      go_ret2
      exact ⟨rfl, HK.out.bel⟩

/-! ### What is loose. -/

/-! ### Where a field is. -/
theorem isP_at {ps : List Pf} {s : ByteArray} (h : isP ps s = true) : ∃ p, ps[findP ps s]? = some p ∧ eqS p.nm s = true ∧ findP ps s < ps.length := by
  rw [isP, List.any_eq_true] at h
  have hl : findP ps s < ps.length := List.findIdx_lt_length_of_exists (by simpa using h)
  exact ⟨_, List.getElem?_eq_getElem hl, List.findIdx_getElem (w := hl), hl⟩
/-! ### By name. -/
/-! ### Whether fields may be. -/

/-! ### All views. -/
theorem rview_q (p : Pf) (hp : p.full) (A : Option Addr) (c : Nat) (w : World) :
    Calls Tryz.prog 24 #[.agg (p.fd A c).cells.toArray] w fun e w' => e = .returned (.tuple #[.int .i64 (vN p), .int .i64 (vE p)]) ∧ Below w.heap.size w w' := rview_any (p.fd A c) hp w

/-! ### Fields that may be. -/
theorem nm_inj {ps : List Pf} (h : ps.Pairwise fun a b => ltS a.nm b.nm = true) {a b : Pf} (ha : a ∈ ps) (hb : b ∈ ps) (e : a.nm = b.nm) : a = b := by
  obtain ⟨i, hi, rfl⟩ := List.mem_iff_getElem.1 ha
  obtain ⟨j, hj, rfl⟩ := List.mem_iff_getElem.1 hb
  rw [List.pairwise_iff_getElem] at h
  rcases Nat.lt_trichotomy i j with h1 | h1 | h1
  · exact absurd e (ltS_ne (h i j hi hj h1))
  · subst h1; rfl
  · exact absurd e.symm (ltS_ne (h j i hj hi h1))
/-! ### Plans that fit. -/

end Go.Proofs.YtgblnlpfgdbnnaaGreat
