/- Holds in memory: what the operations on them do; when two are the same; slices of holds that come in, and rows of holds that a call makes.; Contracts of what package hold and the document's layer 6 are made of: which numbers, which hold may be, and which one goes ahead.; Rows of holds: what append does to one, and what a literal and a slice expression make.; Contracts of num.Must and of num.Try's deferred call. Contracts of num.Sum and of num.Try at its closure. A contract of num.Sub. Contracts of the document's Is and Add of layer 1. A contract of the document's Sum of layer 1.; Rights that come in; 'awake' of layer 3. -/
import Derived.Test.YtgblnlpfgdbnnaaGreatZ09
namespace Go.Proofs.YtgblnlpfgdbnnaaGreat
set_option maxRecDepth 100000
open Go.ChangeShapes Go.WideShapes Go.ChangeAt Go.RowKit

theorem h_info : (Tryz.prog.info? 81).map (·.size) = some 5 := by kernel_rfl
theorem h_zero : (Tryz.prog.info? 81).bind (·.zero) = some (.agg (vals (zer 5)).toArray) := by kernel_rfl
theorem Ho.g0 (a : Ho) : a.l.getD 0 0 = a.r := rfl
theorem Ho.p0 (a : Ho) : 0 < a.l.length := by simp [Ho.len]
theorem Ho.g1 (a : Ho) : a.l.getD 1 0 = a.n := rfl
theorem Ho.p1 (a : Ho) : 1 < a.l.length := by simp [Ho.len]
theorem Ho.g2 (a : Ho) : a.l.getD 2 0 = a.a := rfl
theorem Ho.p2 (a : Ho) : 2 < a.l.length := by simp [Ho.len]
theorem Ho.g3 (a : Ho) : a.l.getD 3 0 = a.d := rfl
theorem Ho.p3 (a : Ho) : 3 < a.l.length := by simp [Ho.len]
theorem Ho.g4 (a : Ho) : a.l.getD 4 0 = a.s := rfl
theorem Ho.p4 (a : Ho) : 4 < a.l.length := by simp [Ho.len]

/-! ### Equality. -/
theorem fields5n {fs : List Field} {x1 x2 x3 x4 x5 : TypeId × Nat × String} (h : fs.map (fun f => (f.type, f.offset, f.name)) = [x1, x2, x3, x4, x5]) : ∃ f1 f2 f3 f4 f5, fs = [f1, f2, f3, f4, f5] ∧ (f1.type, f1.offset, f1.name) = x1 ∧ (f2.type, f2.offset, f2.name) = x2 ∧ (f3.type, f3.offset, f3.name) = x3 ∧ (f4.type, f4.offset, f4.name) = x4 ∧ (f5.type, f5.offset, f5.name) = x5 := by
  match fs, h with
  | [f1, f2, f3, f4, f5], h => exact ⟨f1, f2, f3, f4, f5, rfl, by simpa using h⟩
theorem h_fields : (Tryz.prog.fieldsOf 81).toList.map (fun f => (f.type, f.offset, f.name)) = [(3, 0, "Replica"), (3, 1, "Number"), (3, 2, "Amount"), (3, 3, "Due"), (3, 4, "State")] := by kernel_rfl
theorem h_under : Tryz.prog.underlying 81 = some (.struct (Tryz.prog.fieldsOf 81)) := by kernel_rfl
/-! ### Slices of holds. -/
/-- The numbers of holds, one behind the other. -/
def flat (hs : List Ho) : List Int := hs.flatMap Ho.l
theorem flat_length (hs : List Ho) : (flat hs).length = hs.length * 5 := by
  induction hs with
  | nil => rfl
  | cons h t ih => simp only [flat, List.flatMap_cons, List.length_append, List.length_cons, Ho.len] at *; omega
theorem flat_append (xs ys : List Ho) : flat (xs ++ ys) = flat xs ++ flat ys := by simp [flat]
theorem flat_seg : ∀ (hs : List Ho) (k : Nat), k < hs.length → seg (flat hs) (k * 5) 5 = (hs.getD k z5).l
  | h :: t, 0, _ => rfl
  | h :: t, k + 1, hk => by
    have ih := flat_seg t k (by simpa using hk)
    have e : flat (h :: t) = h.l ++ flat t := rfl
    rw [e, seg, show (k + 1) * 5 = h.l.length + k * 5 by rw [Ho.len]; omega, List.drop_append]
    rw [List.drop_of_length_le (by omega), List.nil_append, Nat.add_sub_cancel_left]
    simpa [seg] using ih
theorem flat_get {hs : List Ho} {k j : Nat} (hk : k < hs.length) (hj : j < 5) : (flat hs).getD (k * 5 + j) 0 = (hs.getD k z5).l.getD j 0 := by
  rw [← flat_seg hs k hk, seg_get hj]
/-- A slice of holds, as it reads. -/
def Row (w : World) (A : Option Addr) (n : Nat) (hs : List Ho) : Prop :=
  hs.length = n ∧ n ≤ 1000 ∧ (n = 0 ∨ ∃ b off : Nat, A = some ⟨b, off, none⟩ ∧ ∀ k, k < n → w.rangeAt b (off + k * 5) (vals (hs.getD k z5).l))
theorem range5 {w : World} {b o : Nat} {h : Ho} (hr : w.rangeAt b o (vals h.l)) : w.cell? ⟨b, o, none⟩ = some (.int .i64 h.r) ∧ w.cell? ⟨b, o + 1, none⟩ = some (.int .i64 h.n) ∧ w.cell? ⟨b, o + 2, none⟩ = some (.int .i64 h.a) ∧ w.cell? ⟨b, o + 3, none⟩ = some (.int .i64 h.d) ∧ w.cell? ⟨b, o + 4, none⟩ = some (.int .i64 h.s) :=
  ⟨hr 0 _ rfl, hr 1 _ rfl, hr 2 _ rfl, hr 3 _ rfl, hr 4 _ rfl⟩
theorem range_lt {w : World} {b o : Nat} {h : Ho} (hr : w.rangeAt b o (vals h.l)) : b < w.heap.size := cell_lt (range5 hr).1
theorem Row.below {w w' : World} {A : Option Addr} {n : Nat} {hs : List Ho} (h : Row w A n hs) {B : Nat} (hb : Below B w w') (hB : w.heap.size ≤ B) : Row w' A n hs := by
  obtain ⟨h1, h2, h3⟩ := h
  refine ⟨h1, h2, ?_⟩
  rcases h3 with h0 | ⟨b, off, rfl, hc⟩
  · exact .inl h0
  · exact .inr ⟨b, off, rfl, fun k hk => range_below (hc k hk) hb (Nat.lt_of_lt_of_le (range_lt (hc k hk)) hB)⟩
theorem Row.call {w w' : World} {A : Option Addr} {n : Nat} {hs : List Ho} (h : Row w A n hs) (hb : Below w.heap.size w w') : Row w' A n hs := h.below hb (Nat.le_refl _)
theorem Row.at {w : World} {A : Option Addr} {n : Nat} {hs : List Ho} (h : Row w A n hs) {k : Nat} (hk : k < n) : ∃ b off : Nat, A = some ⟨b, off, none⟩ ∧ ∀ j, j < n → w.rangeAt b (off + j * 5) (vals (hs.getD j z5).l) := by
  rcases h.2.2 with h0 | h0
  · omega
  · exact h0
theorem Row.nil (w : World) (A : Option Addr) : Row w A 0 [] := ⟨rfl, by omega, .inl rfl⟩
/-- The cells that a slice of holds reads. -/
theorem Row.cells {w : World} {b off n : Nat} {hs : List Ho} (hl : hs.length = n) (h : ∀ k, k < n → w.rangeAt b (off + k * 5) (vals (hs.getD k z5).l)) : ∀ j u, (vals (flat hs))[j]? = some u → w.cell? ⟨b, off + j, none⟩ = some u := by
  intro j u hu
  obtain ⟨hj, rfl⟩ := vals_at hu
  rw [flat_length, hl] at hj
  have hk : j / 5 < n := by omega
  have := h (j / 5) hk (j % 5) (.int .i64 ((hs.getD (j / 5) z5).l.getD (j % 5) 0)) (vals_get (by rw [Ho.len]; omega))
  rw [← flat_get (by omega) (by omega), show j / 5 * 5 + j % 5 = j by omega, show off + j / 5 * 5 + j % 5 = off + j by omega] at this
  exact this
/-- A part of a slice. -/
theorem Row.sub {w : World} {b off n : Nat} {hs : List Ho} (_hl : hs.length = n) (h : ∀ k, k < n → w.rangeAt b (off + k * 5) (vals (hs.getD k z5).l)) {i : Nat} : ∀ k, k < n - i → w.rangeAt b (off + i * 5 + k * 5) (vals ((hs.drop i).getD k z5).l) := by
  intro k hk
  have := h (i + k) (by omega)
  rw [show off + (i + k) * 5 = off + i * 5 + k * 5 by omega] at this
  simpa [List.getD, List.getElem?_drop] using this

/-! ### Rows that a call makes. -/
def Own (w : World) (base : Nat) (v : Value) (hs : List Ho) : Prop := w.ownsRow base 81 5 v hs.length (vals (flat hs))
theorem own_baseH {w : World} {base : Nat} {e : TypeId} {s : Nat} {v : Value} {n : Nat} {xs : List Value} (h : w.ownsRow base e s v n xs) (k : Nat) (hk : v.ownBlock = some k) : base ≤ k := (h.lt k hk).1
theorem own_belowH {w w' : World} {base : Nat} {e : TypeId} {s : Nat} {v : Value} {n : Nat} {xs : List Value} (h : w.ownsRow base e s v n xs) (hb : Below w.heap.size w w') : w'.ownsRow base e s v n xs := by
  refine ⟨h.1, ?_⟩
  rcases h.2 with ⟨h1, h2⟩ | ⟨g, cap, cur, h1, h2, h3, h4⟩
  · exact .inl ⟨h1, h2⟩
  · refine .inr ⟨g, cap, cur, h1, h2, ?_, h4⟩
    rw [hb.block g (Array.getElem?_eq_some_iff.1 h3).1]; exact h3
theorem Own.call {w w' : World} {base : Nat} {v : Value} {hs : List Ho} (h : Own w base v hs) (hb : Below w.heap.size w w') : Own w' base v hs := own_belowH h hb
theorem Own.mono {w : World} {base base' : Nat} {v : Value} {hs : List Ho} (h : Own w base v hs) (hb : base' ≤ base) : Own w base' v hs := by
  refine ⟨h.1, ?_⟩
  rcases h.2 with h | ⟨g, cap, cur, h1, h2, h3⟩
  · exact .inl h
  · exact .inr ⟨g, cap, cur, h1, Nat.le_trans hb h2, h3⟩
theorem Own.nil (w : World) (base : Nat) : Own w base (.slice none 0 0) [] := World.ownsRow_nil w base _ _
/-- It is there. -/
theorem Own.slice {w : World} {base : Nat} {v : Value} {hs : List Ho} (h : Own w base v hs) : ∃ A c, v = .slice A hs.length c := by
  rcases h.2 with ⟨rfl, h2⟩ | ⟨g, cap, cur, rfl, _⟩
  · exact ⟨none, 0, by rw [h2]⟩
  · exact ⟨_, cap, rfl⟩
theorem Own.at {w : World} {base : Nat} {v : Value} {hs : List Ho} (h : Own w base v hs) (hn : 0 < hs.length) : ∃ g cap, v = .slice (some ⟨g, 0, none⟩) hs.length cap ∧ base ≤ g ∧ g < w.heap.size := by
  rcases h.2 with ⟨rfl, h2⟩ | ⟨g, cap, cur, rfl, h1, h2, _⟩
  · omega
  · exact ⟨g, cap, rfl, h1, (Array.getElem?_eq_some_iff.1 h2).1⟩
theorem Own.range {w : World} {base g cap : Nat} {hs : List Ho} {n : Nat} (h : Own w base (.slice (some ⟨g, 0, none⟩) n cap) hs) {k : Nat} (hk : k < hs.length) : w.rangeAt g (k * 5) (vals (hs.getD k z5).l) := by
  have hl : n = hs.length := by
    rcases h.2 with ⟨h1, _⟩ | ⟨_, _, _, h1, _⟩
    · cases h1
    · injection h1
  subst hl
  intro j u hu
  obtain ⟨hj, rfl⟩ := vals_at hu
  rw [Ho.len] at hj
  rw [World.ownsRow.cellAt h _ (by omega), ← flat_get hk hj, vals_get (by rw [flat_length]; omega)]
theorem Own.row {w : World} {base : Nat} {A : Option Addr} {n c : Nat} {hs : List Ho} (h : Own w base (.slice A n c) hs) (hn : hs.length ≤ 1000) : Row w A n hs := by
  obtain ⟨A', c', e⟩ := h.slice
  injection e with e1 e2 e3
  subst e2
  rcases Nat.eq_zero_or_pos hs.length with h0 | h0
  · exact ⟨rfl, hn, .inl h0⟩
  · obtain ⟨g, cap, e, _⟩ := h.at h0
    injection e with e4 e5 e6
    subst e4
    exact ⟨rfl, hn, .inr ⟨g, 0, rfl, fun k hk => by rw [Nat.zero_add]; exact h.range hk⟩⟩
theorem Own.frozen {w : World} {base g cap n : Nat} {hs : List Ho} (h : Own w base (.slice (some ⟨g, 0, none⟩) n cap) hs) (j : Nat) : w.frozen? ⟨g, j, none⟩ = false := by
  have hl : n = hs.length := by
    rcases h.2 with ⟨h1, _⟩ | ⟨_, _, _, h1, _⟩
    · cases h1
    · injection h1
  subst hl
  exact World.ownsRow.frozenAt h j
/-- Below w's end all is as it was; these blocks of the call's own lie there, and this row of its own, apart from them. -/
structure KeepH (w : World) (l : List (Nat × TypeId × List Int)) (v : Value) (hs : List Ho) (u : World) : Prop where
  keep : KeepR w l u
  own : Own u w.heap.size v hs
  apart : ∀ x ∈ l, v.ownBlock ≠ some x.1
theorem KeepH.start (w : World) : KeepH w [] (.slice none 0 0) [] w := ⟨KeepR.start w, Own.nil _ _, by simp⟩
theorem KeepH.call {w u u' : World} {l : List (Nat × TypeId × List Int)} {v : Value} {hs : List Ho} (h : KeepH w l v hs u) (hb : Below u.heap.size u u') : KeepH w l v hs u' := ⟨h.keep.call hb, h.own.call hb, h.apart⟩
theorem KeepH.drew {w u : World} {l : List (Nat × TypeId × List Int)} {v : Value} {hs : List Ho} (h : KeepH w l v hs u) : KeepH w l v hs u.drew := ⟨h.keep.drew, h.own, h.apart⟩
theorem KeepH.tail {w u : World} {x : Nat × TypeId × List Int} {l : List (Nat × TypeId × List Int)} {v : Value} {hs : List Ho} (h : KeepH w (x :: l) v hs u) : KeepH w l v hs u := ⟨h.keep.tail, h.own, fun y hy => h.apart y (List.mem_cons_of_mem _ hy)⟩
/-- Another row, that a call made, in its place. -/
theorem KeepH.other {w u u' : World} {l : List (Nat × TypeId × List Int)} {v v' : Value} {hs hs' : List Ho} (h : KeepH w l v hs u) (hb : Below u.heap.size u u') (ho : Own u' u.heap.size v' hs') : KeepH w l v' hs' u' := by
  refine ⟨h.keep.call hb, ho.mono h.keep.bel.size, fun x hx e => ?_⟩
  have h1 := own_baseH ho _ e
  have h2 := (h.keep.blk x hx).2.lt
  omega
/-- The row has grown. -/
theorem KeepH.grown {w u u' : World} {l : List (Nat × TypeId × List Int)} {v v' : Value} {hs hs' : List Ho} (h : KeepH w l v hs u) (hg : u.grownBy u' v.ownBlock) (ho : Own u' w.heap.size v' hs') (hv : v'.ownBlock = v.ownBlock ∨ v'.ownBlock = some u.heap.size) : KeepH w l v' hs' u' := by
  refine ⟨⟨h.keep.bel.grown hg h.keep.bel.size (own_baseH h.own), fun x hx => ?_, h.keep.apart⟩, ho, fun x hx e => ?_⟩
  · have h1 := h.keep.blk x hx
    refine ⟨h1.1, ?_⟩
    unfold Blk
    rw [hg.block x.1 h1.2.lt (fun e => h.apart x hx e.symm)]
    exact h1.2
  · rcases hv with hv | hv
    · rw [hv] at e; exact h.apart x hx e
    · rw [hv] at e
      injection e with e
      have := (h.keep.blk x hx).2.lt
      omega

theorem geq_want {ops : Array Oper} {rest : List Oper} {o : Oper} {a : Act} {u : World} {Q : Exit → Act → World → Prop} {p q : Int} {b : Bool} (hb : decide (q ≤ p) = b) (x y : Operand) (t : TypeId) (ho : o.op = .binOp .geq 3 x y t) (hx : a.eval x = .int .i64 p) (hy : a.eval y = .int .i64 q)
    (hw : Region.wanted o (yielded ops a.tmps) = true) (h : wpList Tryz.prog ops Q rest (a.put o.dst (.bool b)) u) : wpList Tryz.prog ops Q (o :: rest) a u :=
  BigFrame.wpList_want hw fun K hK => by
    subst hb
    have h1 := hK _ _ h
    unfold Oper.wp execOp
    simp only [ho, hx, hy]
    simp [go_sem]
    simpa [Act.put] using h1
theorem leq_want {ops : Array Oper} {rest : List Oper} {o : Oper} {a : Act} {u : World} {Q : Exit → Act → World → Prop} {p q : Int} {b : Bool} (hb : decide (p ≤ q) = b) (x y : Operand) (t : TypeId) (ho : o.op = .binOp .leq 3 x y t) (hx : a.eval x = .int .i64 p) (hy : a.eval y = .int .i64 q)
    (hw : Region.wanted o (yielded ops a.tmps) = true) (h : wpList Tryz.prog ops Q rest (a.put o.dst (.bool b)) u) : wpList Tryz.prog ops Q (o :: rest) a u :=
  BigFrame.wpList_want hw fun K hK => by
    subst hb
    have h1 := hK _ _ h
    unfold Oper.wp execOp
    simp only [ho, hx, hy]
    simp [go_sem]
    simpa [Act.put] using h1
theorem rep_anyH (k : Int) (w : World) :
    Calls Tryz.prog 151 #[.int .i64 k] w fun e w' => e = .returned (.bool (repBH k)) ∧ w = w' := by
  by_cases h1 : 0 ≤ k
  · by_cases h3 : k < 16
    · rw [repB_iffH.2 ⟨h1, h3⟩]
      go_enter Tryz.func151, Tryz.ntmps151
      go_wp2
      go_ret
      exact ⟨rfl, rfl⟩
    · rw [repB_notH.2 (.inr (by omega))]
      go_enter Tryz.func151, Tryz.ntmps151
      go_wp2
      go_ret
      exact ⟨rfl, rfl⟩
  · rw [repB_notH.2 (.inl (by omega))]
    go_enter Tryz.func151, Tryz.ntmps151
    go_wp2
    go_ret
    exact ⟨rfl, rfl⟩
theorem cnt_anyH (n : Int) (w : World) :
    Calls Tryz.prog 152 #[.int .i64 n] w fun e w' => e = .returned (.bool (cntBH n)) ∧ w = w' := by
  by_cases h1 : 0 ≤ n
  · rw [show cntBH n = isB n by simp [cntBH, h1]]
    go_enter Tryz.func152, Tryz.ntmps152
    go_wp2_with (first
      | (go_at_call 38; (with_reducible refine (is_any _ _).mono ?_); rintro e u ⟨rfl, rfl⟩))
    go_ret
    exact ⟨rfl, rfl⟩
  · rw [show cntBH n = false by simp [cntBH, h1]]
    go_enter Tryz.func152, Tryz.ntmps152
    go_wp2_with (first
      | (go_at_call 38; (with_reducible refine (is_any _ _).mono ?_); rintro e u ⟨rfl, rfl⟩))
    go_ret
    exact ⟨rfl, rfl⟩
theorem nan_anyH (n : Int) (w : World) :
    Calls Tryz.prog 161 #[.int .i64 n] w fun e w' => e = .returned (.bool false) ∧ w = w' := by
  go_enter Tryz.func161, Tryz.ntmps161
  go_wp2
  go_ret
  simp
theorem cmpi_anyH (x y : Int) (w : World) :
    Calls Tryz.prog 137 #[.int .i64 x, .int .i64 y] w fun e w' => e = .returned (.int .i64 (cmpIH x y)) ∧ w = w' := by
  rcases cmpI_casesH x y with ⟨h, e⟩ | ⟨h, e⟩ | ⟨h, e⟩
  · rw [e]; clear e
    go_enter Tryz.func137, Tryz.ntmps137
    go_wp2_with (first
      | (go_at_call 161; (with_reducible refine (nan_anyH _ _).mono ?_); rintro e u ⟨rfl, rfl⟩))
    go_ret
    exact ⟨rfl, rfl⟩
  · rw [e]; clear e
    have h' : ¬ x < y := by omega
    go_enter Tryz.func137, Tryz.ntmps137
    go_wp2_with (first
      | (go_at_call 161; (with_reducible refine (nan_anyH _ _).mono ?_); rintro e u ⟨rfl, rfl⟩))
    go_ret
    exact ⟨rfl, rfl⟩
  · rw [e]; clear e
    have h1 : ¬ x < y := by omega
    have h2 : ¬ y < x := by omega
    clear h
    go_enter Tryz.func137, Tryz.ntmps137
    go_wp2_with (first
      | (go_at_call 161; (with_reducible refine (nan_anyH _ _).mono ?_); rintro e u ⟨rfl, rfl⟩))
    go_ret
    exact ⟨rfl, rfl⟩
set_option maxHeartbeats 1000000 in
theorem hright_any (a : Ho) (w : World) :
    Calls Tryz.prog 134 #[.agg (vals a.l).toArray] w fun e w' => e = .returned (.bool (rightH a)) ∧ Below w.heap.size w w' := by
  have HK := Lib.hid (KeepR.start w)
  cases h1 : repBH a.r with
  | false =>
    rw [show rightH a = false by simp only [rightH]; simp [h1]]
    go_enter Tryz.func134, Tryz.ntmps134
    go_wp2_with (first
      | (with_reducible refine box_new (R := a.l) HK.out rfl _ rfl rfl ?_; intro b u hk hb; clear hb; clear HK; have HK := Lib.hid hk; clear hk)
      | (with_reducible refine load_val HK.out 0 rfl _ rfl rfl rfl (Ho.g0 _) (Ho.p0 _) ?_)
      | (with_reducible refine load_val HK.out 0 rfl _ rfl rfl rfl (Ho.g1 _) (Ho.p1 _) ?_)
      | (with_reducible refine load_val HK.out 0 rfl _ rfl rfl rfl (Ho.g2 _) (Ho.p2 _) ?_)
      | (with_reducible refine load_val HK.out 0 rfl _ rfl rfl rfl (Ho.g3 _) (Ho.p3 _) ?_)
      | (with_reducible refine load_val HK.out 0 rfl _ rfl rfl rfl (Ho.g4 _) (Ho.p4 _) ?_)
      | (with_reducible refine load_val_want HK.out 0 _ rfl rfl rfl rfl (Ho.g0 _) (Ho.p0 _) ?_)
      | (with_reducible refine load_val_want HK.out 0 _ rfl rfl rfl rfl (Ho.g1 _) (Ho.p1 _) ?_)
      | (with_reducible refine load_val_want HK.out 0 _ rfl rfl rfl rfl (Ho.g2 _) (Ho.p2 _) ?_)
      | (with_reducible refine load_val_want HK.out 0 _ rfl rfl rfl rfl (Ho.g3 _) (Ho.p3 _) ?_)
      | (with_reducible refine load_val_want HK.out 0 _ rfl rfl rfl rfl (Ho.g4 _) (Ho.p4 _) ?_)
      | (go_at_call 151; (with_reducible refine (rep_anyH _ _).mono ?_); rintro e u ⟨rfl, rfl⟩)
      | (go_at_call 38; (with_reducible refine (is_any _ _).mono ?_); rintro e u ⟨rfl, rfl⟩)
      | (go_at_call 152; (with_reducible refine (cnt_anyH _ _).mono ?_); rintro e u ⟨rfl, rfl⟩))
    go_ret
    exact ⟨rfl, HK.out.bel⟩
  | true =>
    cases h2 : decide (1 ≤ a.n) with
    | false =>
      rw [show rightH a = false by simp only [rightH]; simp [h1, h2]]
      go_enter Tryz.func134, Tryz.ntmps134
      go_wp2_with (first
        | (with_reducible refine box_new (R := a.l) HK.out rfl _ rfl rfl ?_; intro b u hk hb; clear hb; clear HK; have HK := Lib.hid hk; clear hk)
        | (with_reducible refine load_val HK.out 0 rfl _ rfl rfl rfl (Ho.g0 _) (Ho.p0 _) ?_)
        | (with_reducible refine load_val HK.out 0 rfl _ rfl rfl rfl (Ho.g1 _) (Ho.p1 _) ?_)
        | (with_reducible refine load_val HK.out 0 rfl _ rfl rfl rfl (Ho.g2 _) (Ho.p2 _) ?_)
        | (with_reducible refine load_val HK.out 0 rfl _ rfl rfl rfl (Ho.g3 _) (Ho.p3 _) ?_)
        | (with_reducible refine load_val HK.out 0 rfl _ rfl rfl rfl (Ho.g4 _) (Ho.p4 _) ?_)
        | (with_reducible refine load_val_want HK.out 0 _ rfl rfl rfl rfl (Ho.g0 _) (Ho.p0 _) ?_)
        | (with_reducible refine load_val_want HK.out 0 _ rfl rfl rfl rfl (Ho.g1 _) (Ho.p1 _) ?_)
        | (with_reducible refine load_val_want HK.out 0 _ rfl rfl rfl rfl (Ho.g2 _) (Ho.p2 _) ?_)
        | (with_reducible refine load_val_want HK.out 0 _ rfl rfl rfl rfl (Ho.g3 _) (Ho.p3 _) ?_)
        | (with_reducible refine load_val_want HK.out 0 _ rfl rfl rfl rfl (Ho.g4 _) (Ho.p4 _) ?_)
        | (go_at_call 151; (with_reducible refine (rep_anyH _ _).mono ?_); rintro e u ⟨rfl, rfl⟩)
        | (go_at_call 38; (with_reducible refine (is_any _ _).mono ?_); rintro e u ⟨rfl, rfl⟩)
        | (go_at_call 152; (with_reducible refine (cnt_anyH _ _).mono ?_); rintro e u ⟨rfl, rfl⟩)
        | (with_reducible refine geq_want h2 _ _ _ rfl rfl rfl rfl ?_))
      go_ret
      exact ⟨rfl, HK.out.bel⟩
    | true =>
      cases h3 : isB a.n with
      | false =>
        rw [show rightH a = false by simp only [rightH]; simp [h1, h2, h3]]
        go_enter Tryz.func134, Tryz.ntmps134
        go_wp2_with (first
          | (with_reducible refine box_new (R := a.l) HK.out rfl _ rfl rfl ?_; intro b u hk hb; clear hb; clear HK; have HK := Lib.hid hk; clear hk)
          | (with_reducible refine load_val HK.out 0 rfl _ rfl rfl rfl (Ho.g0 _) (Ho.p0 _) ?_)
          | (with_reducible refine load_val HK.out 0 rfl _ rfl rfl rfl (Ho.g1 _) (Ho.p1 _) ?_)
          | (with_reducible refine load_val HK.out 0 rfl _ rfl rfl rfl (Ho.g2 _) (Ho.p2 _) ?_)
          | (with_reducible refine load_val HK.out 0 rfl _ rfl rfl rfl (Ho.g3 _) (Ho.p3 _) ?_)
          | (with_reducible refine load_val HK.out 0 rfl _ rfl rfl rfl (Ho.g4 _) (Ho.p4 _) ?_)
          | (with_reducible refine load_val_want HK.out 0 _ rfl rfl rfl rfl (Ho.g0 _) (Ho.p0 _) ?_)
          | (with_reducible refine load_val_want HK.out 0 _ rfl rfl rfl rfl (Ho.g1 _) (Ho.p1 _) ?_)
          | (with_reducible refine load_val_want HK.out 0 _ rfl rfl rfl rfl (Ho.g2 _) (Ho.p2 _) ?_)
          | (with_reducible refine load_val_want HK.out 0 _ rfl rfl rfl rfl (Ho.g3 _) (Ho.p3 _) ?_)
          | (with_reducible refine load_val_want HK.out 0 _ rfl rfl rfl rfl (Ho.g4 _) (Ho.p4 _) ?_)
          | (go_at_call 151; (with_reducible refine (rep_anyH _ _).mono ?_); rintro e u ⟨rfl, rfl⟩)
          | (go_at_call 38; (with_reducible refine (is_any _ _).mono ?_); rintro e u ⟨rfl, rfl⟩)
          | (go_at_call 152; (with_reducible refine (cnt_anyH _ _).mono ?_); rintro e u ⟨rfl, rfl⟩)
          | (with_reducible refine geq_want h2 _ _ _ rfl rfl rfl rfl ?_))
        go_ret
        exact ⟨rfl, HK.out.bel⟩
      | true =>
        cases h4 : cntBH a.a with
        | false =>
          rw [show rightH a = false by simp only [rightH]; simp [h1, h2, h3, h4]]
          go_enter Tryz.func134, Tryz.ntmps134
          go_wp2_with (first
            | (with_reducible refine box_new (R := a.l) HK.out rfl _ rfl rfl ?_; intro b u hk hb; clear hb; clear HK; have HK := Lib.hid hk; clear hk)
            | (with_reducible refine load_val HK.out 0 rfl _ rfl rfl rfl (Ho.g0 _) (Ho.p0 _) ?_)
            | (with_reducible refine load_val HK.out 0 rfl _ rfl rfl rfl (Ho.g1 _) (Ho.p1 _) ?_)
            | (with_reducible refine load_val HK.out 0 rfl _ rfl rfl rfl (Ho.g2 _) (Ho.p2 _) ?_)
            | (with_reducible refine load_val HK.out 0 rfl _ rfl rfl rfl (Ho.g3 _) (Ho.p3 _) ?_)
            | (with_reducible refine load_val HK.out 0 rfl _ rfl rfl rfl (Ho.g4 _) (Ho.p4 _) ?_)
            | (with_reducible refine load_val_want HK.out 0 _ rfl rfl rfl rfl (Ho.g0 _) (Ho.p0 _) ?_)
            | (with_reducible refine load_val_want HK.out 0 _ rfl rfl rfl rfl (Ho.g1 _) (Ho.p1 _) ?_)
            | (with_reducible refine load_val_want HK.out 0 _ rfl rfl rfl rfl (Ho.g2 _) (Ho.p2 _) ?_)
            | (with_reducible refine load_val_want HK.out 0 _ rfl rfl rfl rfl (Ho.g3 _) (Ho.p3 _) ?_)
            | (with_reducible refine load_val_want HK.out 0 _ rfl rfl rfl rfl (Ho.g4 _) (Ho.p4 _) ?_)
            | (go_at_call 151; (with_reducible refine (rep_anyH _ _).mono ?_); rintro e u ⟨rfl, rfl⟩)
            | (go_at_call 38; (with_reducible refine (is_any _ _).mono ?_); rintro e u ⟨rfl, rfl⟩)
            | (go_at_call 152; (with_reducible refine (cnt_anyH _ _).mono ?_); rintro e u ⟨rfl, rfl⟩)
            | (with_reducible refine geq_want h2 _ _ _ rfl rfl rfl rfl ?_))
          go_ret
          exact ⟨rfl, HK.out.bel⟩
        | true =>
          cases h5 : cntBH a.d with
          | false =>
            rw [show rightH a = false by simp only [rightH]; simp [h1, h2, h3, h4, h5]]
            go_enter Tryz.func134, Tryz.ntmps134
            go_wp2_with (first
              | (with_reducible refine box_new (R := a.l) HK.out rfl _ rfl rfl ?_; intro b u hk hb; clear hb; clear HK; have HK := Lib.hid hk; clear hk)
              | (with_reducible refine load_val HK.out 0 rfl _ rfl rfl rfl (Ho.g0 _) (Ho.p0 _) ?_)
              | (with_reducible refine load_val HK.out 0 rfl _ rfl rfl rfl (Ho.g1 _) (Ho.p1 _) ?_)
              | (with_reducible refine load_val HK.out 0 rfl _ rfl rfl rfl (Ho.g2 _) (Ho.p2 _) ?_)
              | (with_reducible refine load_val HK.out 0 rfl _ rfl rfl rfl (Ho.g3 _) (Ho.p3 _) ?_)
              | (with_reducible refine load_val HK.out 0 rfl _ rfl rfl rfl (Ho.g4 _) (Ho.p4 _) ?_)
              | (with_reducible refine load_val_want HK.out 0 _ rfl rfl rfl rfl (Ho.g0 _) (Ho.p0 _) ?_)
              | (with_reducible refine load_val_want HK.out 0 _ rfl rfl rfl rfl (Ho.g1 _) (Ho.p1 _) ?_)
              | (with_reducible refine load_val_want HK.out 0 _ rfl rfl rfl rfl (Ho.g2 _) (Ho.p2 _) ?_)
              | (with_reducible refine load_val_want HK.out 0 _ rfl rfl rfl rfl (Ho.g3 _) (Ho.p3 _) ?_)
              | (with_reducible refine load_val_want HK.out 0 _ rfl rfl rfl rfl (Ho.g4 _) (Ho.p4 _) ?_)
              | (go_at_call 151; (with_reducible refine (rep_anyH _ _).mono ?_); rintro e u ⟨rfl, rfl⟩)
              | (go_at_call 38; (with_reducible refine (is_any _ _).mono ?_); rintro e u ⟨rfl, rfl⟩)
              | (go_at_call 152; (with_reducible refine (cnt_anyH _ _).mono ?_); rintro e u ⟨rfl, rfl⟩)
              | (with_reducible refine geq_want h2 _ _ _ rfl rfl rfl rfl ?_))
            go_ret
            exact ⟨rfl, HK.out.bel⟩
          | true =>
            cases h6 : decide (1 ≤ a.s) with
            | false =>
              rw [show rightH a = false by simp only [rightH]; simp [h1, h2, h3, h4, h5, h6]]
              go_enter Tryz.func134, Tryz.ntmps134
              go_wp2_with (first
                | (with_reducible refine box_new (R := a.l) HK.out rfl _ rfl rfl ?_; intro b u hk hb; clear hb; clear HK; have HK := Lib.hid hk; clear hk)
                | (with_reducible refine load_val HK.out 0 rfl _ rfl rfl rfl (Ho.g0 _) (Ho.p0 _) ?_)
                | (with_reducible refine load_val HK.out 0 rfl _ rfl rfl rfl (Ho.g1 _) (Ho.p1 _) ?_)
                | (with_reducible refine load_val HK.out 0 rfl _ rfl rfl rfl (Ho.g2 _) (Ho.p2 _) ?_)
                | (with_reducible refine load_val HK.out 0 rfl _ rfl rfl rfl (Ho.g3 _) (Ho.p3 _) ?_)
                | (with_reducible refine load_val HK.out 0 rfl _ rfl rfl rfl (Ho.g4 _) (Ho.p4 _) ?_)
                | (with_reducible refine load_val_want HK.out 0 _ rfl rfl rfl rfl (Ho.g0 _) (Ho.p0 _) ?_)
                | (with_reducible refine load_val_want HK.out 0 _ rfl rfl rfl rfl (Ho.g1 _) (Ho.p1 _) ?_)
                | (with_reducible refine load_val_want HK.out 0 _ rfl rfl rfl rfl (Ho.g2 _) (Ho.p2 _) ?_)
                | (with_reducible refine load_val_want HK.out 0 _ rfl rfl rfl rfl (Ho.g3 _) (Ho.p3 _) ?_)
                | (with_reducible refine load_val_want HK.out 0 _ rfl rfl rfl rfl (Ho.g4 _) (Ho.p4 _) ?_)
                | (go_at_call 151; (with_reducible refine (rep_anyH _ _).mono ?_); rintro e u ⟨rfl, rfl⟩)
                | (go_at_call 38; (with_reducible refine (is_any _ _).mono ?_); rintro e u ⟨rfl, rfl⟩)
                | (go_at_call 152; (with_reducible refine (cnt_anyH _ _).mono ?_); rintro e u ⟨rfl, rfl⟩)
                | (with_reducible refine geq_want h2 _ _ _ rfl rfl rfl rfl ?_)
                | (with_reducible refine geq_want h6 _ _ _ rfl rfl rfl rfl ?_))
              go_ret
              exact ⟨rfl, HK.out.bel⟩
            | true =>
              cases h7 : decide (a.s ≤ 3) with
              | false =>
                rw [show rightH a = false by simp only [rightH]; simp [h1, h2, h3, h4, h5, h6, h7]]
                go_enter Tryz.func134, Tryz.ntmps134
                go_wp2_with (first
                  | (with_reducible refine box_new (R := a.l) HK.out rfl _ rfl rfl ?_; intro b u hk hb; clear hb; clear HK; have HK := Lib.hid hk; clear hk)
                  | (with_reducible refine load_val HK.out 0 rfl _ rfl rfl rfl (Ho.g0 _) (Ho.p0 _) ?_)
                  | (with_reducible refine load_val HK.out 0 rfl _ rfl rfl rfl (Ho.g1 _) (Ho.p1 _) ?_)
                  | (with_reducible refine load_val HK.out 0 rfl _ rfl rfl rfl (Ho.g2 _) (Ho.p2 _) ?_)
                  | (with_reducible refine load_val HK.out 0 rfl _ rfl rfl rfl (Ho.g3 _) (Ho.p3 _) ?_)
                  | (with_reducible refine load_val HK.out 0 rfl _ rfl rfl rfl (Ho.g4 _) (Ho.p4 _) ?_)
                  | (with_reducible refine load_val_want HK.out 0 _ rfl rfl rfl rfl (Ho.g0 _) (Ho.p0 _) ?_)
                  | (with_reducible refine load_val_want HK.out 0 _ rfl rfl rfl rfl (Ho.g1 _) (Ho.p1 _) ?_)
                  | (with_reducible refine load_val_want HK.out 0 _ rfl rfl rfl rfl (Ho.g2 _) (Ho.p2 _) ?_)
                  | (with_reducible refine load_val_want HK.out 0 _ rfl rfl rfl rfl (Ho.g3 _) (Ho.p3 _) ?_)
                  | (with_reducible refine load_val_want HK.out 0 _ rfl rfl rfl rfl (Ho.g4 _) (Ho.p4 _) ?_)
                  | (go_at_call 151; (with_reducible refine (rep_anyH _ _).mono ?_); rintro e u ⟨rfl, rfl⟩)
                  | (go_at_call 38; (with_reducible refine (is_any _ _).mono ?_); rintro e u ⟨rfl, rfl⟩)
                  | (go_at_call 152; (with_reducible refine (cnt_anyH _ _).mono ?_); rintro e u ⟨rfl, rfl⟩)
                  | (with_reducible refine geq_want h2 _ _ _ rfl rfl rfl rfl ?_)
                  | (with_reducible refine geq_want h6 _ _ _ rfl rfl rfl rfl ?_)
                  | (with_reducible refine leq_want h7 _ _ _ rfl rfl rfl rfl ?_))
                go_ret
                exact ⟨rfl, HK.out.bel⟩
              | true =>
                rw [show rightH a = true by simp only [rightH]; simp [h1, h2, h3, h4, h5, h6, h7]]
                go_enter Tryz.func134, Tryz.ntmps134
                go_wp2_with (first
                  | (with_reducible refine box_new (R := a.l) HK.out rfl _ rfl rfl ?_; intro b u hk hb; clear hb; clear HK; have HK := Lib.hid hk; clear hk)
                  | (with_reducible refine load_val HK.out 0 rfl _ rfl rfl rfl (Ho.g0 _) (Ho.p0 _) ?_)
                  | (with_reducible refine load_val HK.out 0 rfl _ rfl rfl rfl (Ho.g1 _) (Ho.p1 _) ?_)
                  | (with_reducible refine load_val HK.out 0 rfl _ rfl rfl rfl (Ho.g2 _) (Ho.p2 _) ?_)
                  | (with_reducible refine load_val HK.out 0 rfl _ rfl rfl rfl (Ho.g3 _) (Ho.p3 _) ?_)
                  | (with_reducible refine load_val HK.out 0 rfl _ rfl rfl rfl (Ho.g4 _) (Ho.p4 _) ?_)
                  | (with_reducible refine load_val_want HK.out 0 _ rfl rfl rfl rfl (Ho.g0 _) (Ho.p0 _) ?_)
                  | (with_reducible refine load_val_want HK.out 0 _ rfl rfl rfl rfl (Ho.g1 _) (Ho.p1 _) ?_)
                  | (with_reducible refine load_val_want HK.out 0 _ rfl rfl rfl rfl (Ho.g2 _) (Ho.p2 _) ?_)
                  | (with_reducible refine load_val_want HK.out 0 _ rfl rfl rfl rfl (Ho.g3 _) (Ho.p3 _) ?_)
                  | (with_reducible refine load_val_want HK.out 0 _ rfl rfl rfl rfl (Ho.g4 _) (Ho.p4 _) ?_)
                  | (go_at_call 151; (with_reducible refine (rep_anyH _ _).mono ?_); rintro e u ⟨rfl, rfl⟩)
                  | (go_at_call 38; (with_reducible refine (is_any _ _).mono ?_); rintro e u ⟨rfl, rfl⟩)
                  | (go_at_call 152; (with_reducible refine (cnt_anyH _ _).mono ?_); rintro e u ⟨rfl, rfl⟩)
                  | (with_reducible refine geq_want h2 _ _ _ rfl rfl rfl rfl ?_)
                  | (with_reducible refine geq_want h6 _ _ _ rfl rfl rfl rfl ?_)
                  | (with_reducible refine leq_want h7 _ _ _ rfl rfl rfl rfl ?_))
                go_ret
                exact ⟨rfl, HK.out.bel⟩

theorem h_info3 : (Tryz.prog.info? 81).map (fun i => (i.zero, i.size, i.bytes)) = some (some (.agg (vals (zer 5)).toArray), 5, 40) := by kernel_rfl
theorem i_info3 : (Tryz.prog.info? 3).map (fun i => (i.zero, i.size, i.bytes)) = some (some (.int .i64 0), 1, 8) := by kernel_rfl
theorem vals_appendH (xs ys : List Int) : vals (xs ++ ys) = vals xs ++ vals ys := by simp [vals]
theorem append_hos (w : World) (base : Nat) (ty : TypeId) (v : Value) (xs : List Ho) (hown : Own w base v xs) (A : Option Addr) (m c : Nat) (zs : List Ho) (hr : Row w A m zs) (h63 : xs.length + m ≤ 2000) (hbase : base ≤ w.heap.size) :
    ∃ v' w', (Builtin.append_ #[41, 41] ty #[v, .slice A m c]).run Tryz.prog w = .ok v' w' ∧ Own w' base v' (xs ++ zs) ∧ w.grownBy w' v.ownBlock ∧ (v'.ownBlock = v.ownBlock ∨ v'.ownBlock = some w.heap.size) := by
  obtain ⟨i0, hi0, hz0, hz1, hz2⟩ := info_parts h_info3
  obtain ⟨hl, _, hx⟩ := hr
  unfold Own
  rw [List.length_append, hl, flat_append, vals_appendH]
  cases A with
  | none =>
    have hm : m = 0 := by
      rcases hx with h0 | ⟨b, off, h, _⟩
      · exact h0
      · cases h
    subst hm
    have hzs : zs = [] := List.eq_nil_of_length_eq_zero hl
    subst hzs
    refine ⟨v, w, ?_, by rw [show vals (flat []) = [] from rfl, List.append_nil]; exact hown, World.grownBy.refl w _, .inl rfl⟩
    rcases hown.2 with ⟨rfl, h0⟩ | ⟨g, cap, cur, rfl, _, _, hnc, _⟩
    · simp [Builtin.append_, run_underlying Tryz.underlying41, sizeOf, typeInfo, hi0, Builtin.lenOf, Builtin.firstCells]
    · simp [Builtin.append_, run_underlying Tryz.underlying41, sizeOf, typeInfo, hi0, Builtin.lenOf, Builtin.firstCells, hnc, storeCells]
  | some ad =>
    obtain ⟨v', w', h1, h2, h3, _, h5⟩ := run_append_own_at (P := Tryz.prog) w base 41 ty 81 i0 (.agg (vals (zer 5)).toArray) 5 40 Tryz.underlying41 hi0 hz0 hz1 hz2 rfl (by omega) v xs.length (vals (flat xs)) hown ad m c (vals (flat zs))
      (by rw [vals_length, flat_length, hl])
      (fun j u hu => by
        rcases hx with h0 | ⟨b, off, h, hc⟩
        · obtain ⟨hj, _⟩ := vals_at hu
          rw [flat_length] at hj; omega
        · injection h with h
          subst h
          rw [Go.WideShapes.add_plain]
          exact Row.cells hl hc j u hu)
      (vals_one _) (by simp only [maxLen]; omega) (by omega) hbase
    exact ⟨v', w', h1, h2, h3, h5⟩
theorem set_five (f : Nat → Value) (v0 v1 v2 v3 v4 : Value) : (((((Array.map f (Array.range 5)).setIfInBounds 0 v0).setIfInBounds 1 v1).setIfInBounds 2 v2).setIfInBounds 3 v3).setIfInBounds 4 v4 = #[v0, v1, v2, v3, v4] := by
  apply Array.ext
  · simp
  · intro i h1 h2
    have : i = 0 ∨ i = 1 ∨ i = 2 ∨ i = 3 ∨ i = 4 := by simp at h2; omega
    rcases this with rfl | rfl | rfl | rfl | rfl <;> simp
theorem KeepH.one {w u : World} {l : List (Nat × TypeId × List Int)} {v : Value} {hs : List Ho} {b : Nat} {t : TypeId} {h : Ho} (hk : KeepH w ((b, t, h.l) :: l) v hs u) : Row u (some ⟨b, 0, none⟩) 1 [h] :=
  ⟨rfl, by omega, .inr ⟨b, 0, rfl, fun k hk' => by
    have : k = 0 := by omega
    subst this
    exact (hk.keep.get 0 rfl).range⟩⟩
/-- Two numbers. -/
theorem set_pairH (f : Nat → Value) (v v' : Value) : ((Array.map f (Array.range 2)).setIfInBounds 0 v).setIfInBounds 1 v' = #[v, v'] := by
  apply Array.ext
  · simp
  · intro i h1 h2
    have : i = 0 ∨ i = 1 := by simp at h2; omega
    rcases this with rfl | rfl <;> simp
theorem run_pairH (y z : Int) (u : World) : (Instr.buildSlice 63 2 #[(0, .int .i64 y), (1, .int .i64 z)]).run Tryz.prog u = .ok (.slice (some ⟨u.heap.size, 0, none⟩) 2 2) (u.alloc (.cells (vals [y, z]).toArray 3)) := by
  obtain ⟨i0, hi0, hz0, hz1, hz2⟩ := info_parts i_info3
  simp [Instr.buildSlice, run_underlying Tryz.underlying63, sizeOf, typeInfo, zeroValue, hi0, hz0, hz1, Instr.fill, Value.cells, newRow, newObj, vals, set_pairH]
  rfl
theorem wp_build_pair {o : Oper} {a : Act} {w u : World} {l : List (Nat × TypeId × List Int)} {K : Act → World → Prop} {Q : Exit → Act → World → Prop} (hk : KeepR w l u) (x x' : Operand) (ho : o.op = .buildSlice 63 2 #[(0, x), (1, x')]) {y z : Int} (hx : a.eval x = .int .i64 y) (hx' : a.eval x' = .int .i64 z)
    (h : ∀ b u', KeepR w ((b, 3, [y, z]) :: l) u' → u'.drawn = u.drawn → K (a.put o.dst (.slice (some ⟨b, 0, none⟩) 2 2)) u') : o.wp Tryz.prog a u K Q := by
  unfold Oper.wp execOp
  simp only [ho, List.map_toArray, List.map_cons, List.map_nil, hx, hx', Sem.run_bind, Sem.run_pure, Result.andThen_ok, run_pairH]
  exact h _ _ (hk.new rfl) rfl
theorem h_info5 (h : Ho) : (Tryz.prog.info? 81).map (·.size) = some (vals h.l).length := h_info
/-- A hold that is there. -/
theorem load_hold {ops : Array Oper} {rest : List Oper} {o : Oper} {a : Act} {u : World} {Q : Exit → Act → World → Prop} {b off : Nat} {h : Ho} (hr : u.rangeAt b off (vals h.l)) (x : Operand) (ho : o.op = .load 81 x)
    (hx : a.eval x = .pointer (some ⟨b, off, none⟩)) (hw : Region.wanted o (yielded ops a.tmps) = true) (hh : wpList Tryz.prog ops Q rest (a.put o.dst (.agg (vals h.l).toArray)) u) : wpList Tryz.prog ops Q (o :: rest) a u :=
  BigFrame.wpList_want hw fun _ hK => wp_load_mid 81 x ho b off hx _ _ hr Tryz.underlying81 rfl (h_info5 h) (hK _ _ hh)
theorem yield_hold {ops : Array Oper} {S : World → Prop} {o : Oper} {a : Act} {b off : Nat} {h : Ho} (hr : ∀ u, S u → u.rangeAt b off (vals h.l)) (x : Operand) (ho : o.op = .load 81 x) (hx : a.eval x = .pointer (some ⟨b, off, none⟩)) (hw : Region.wanted o (yielded ops a.tmps) = true) :
    YieldsIf Tryz.prog ops S o (.agg (vals h.l).toArray) a :=
  yieldsIf_load_mid hw 81 x ho b off hx _ _ hr Tryz.underlying81 rfl (h_info5 h)

end Go.Proofs.YtgblnlpfgdbnnaaGreat

namespace Go.Proofs.YtgblnlpfgdbnnaaGreat
open Go.ChangeShapes Go.WideShapes Go.ChangeAt Go.RowKit

/-- The panic with which a number that is too great comes up. -/
abbrev errEntry (e : Int) : PanicEntry := { v := .iface 27 (.int .i64 e), recovered := false }

theorem must_ok (n : Int) (w : World) : Calls Tryz.prog 63 #[.int .i64 n, .int .i64 0] w fun e w' => e = .returned (.int .i64 n) ∧ w = w' := by
  go_enter Tryz.func63, Tryz.ntmps63
  go_wp2
  go_ret
  exact ⟨rfl, rfl⟩

theorem must_bad (n x : Int) (w : World) (h : (x != 0) = true) : Calls Tryz.prog 63 #[.int .i64 n, .int .i64 x] w fun e w' => e = .panicked [errEntry x] ∧ w = w' := by
  go_enter Tryz.func63, Tryz.ntmps63
  go_wp2
  exact ⟨rfl, rfl, rfl⟩

theorem assert_yes (v : Value) (w : World) : (Instr.typeAssert (.iface 27 v) 20 27 true).run Tryz.prog w = .ok (.tuple #[v, .bool true]) w := by kernel_rfl

theorem assert_no (v : Value) (w : World) : (Instr.typeAssert (.iface 9 v) 20 27 true).run Tryz.prog w = .ok (.tuple #[.int .i64 0, .bool false]) w := by kernel_rfl

theorem carried_ok (x : Int) (w : World) : Calls Tryz.prog 103 #[.iface 27 (.int .i64 x)] w fun e w' => e = .returned (.int .i64 x) ∧ w = w' := by
  have hy := assert_yes
  have hn := assert_no
  go_enter Tryz.func103, Tryz.ntmps103
  go_wp2
  go_ret
  exact ⟨rfl, rfl⟩

/-- Try's own deferred call, where nothing panicked. -/
theorem door_idle (p : Addr) (w : World) :
    CallsD Tryz.prog 102 #[.pointer (some p)] .returning w fun e u' w' => e = .returned (.tuple #[]) ∧ u' = .returning ∧ w' = w := by
  refine callsD_of_wpS Tryz.func102 rfl fun c₀ cs hu => ?_
  apply wpS_seq
  apply wpS_region
  simp [wpOpsS, go_sem, recoverD, hu, Tryz.ntmps102, Exit.thenS]
  refine wpS_of_wp ?_
  change Code.wp _ _ _ ⟨#[.pointer (some p), .nilIface, .nilIface, undef, undef, undef, undef], []⟩ _
  go_wp2
  cases c₀
  simp_all [bodyPostS, results, Tryz.results102]

/-- Where an error of api's came up: it is laid into the named result. -/
theorem door_err (p : Addr) (v : Value) (x : Int) (older : List PanicEntry) (w : World) (hc : w.cell? p = some v) (hz : w.frozen? p = false) :
    CallsD Tryz.prog 102 #[.pointer (some p)] (.panicking (errEntry x :: older)) w fun e u' w' =>
      e = .returned (.tuple #[]) ∧ u' = .panicking ({ v := .iface 27 (.int .i64 x), recovered := true } :: older) ∧ w' = w.setCell p (.int .i64 x) := by
  refine callsD_of_wpS Tryz.func102 rfl fun c₀ cs hu => ?_
  apply wpS_seq
  apply wpS_region
  simp [wpOpsS, go_sem, recoverD, hu, Tryz.ntmps102, Exit.thenS]
  refine wpS_of_wp ?_
  change Code.wp _ _ _ ⟨#[.pointer (some p), .iface 27 (.int .i64 x), .iface 27 (.int .i64 x), undef, undef, undef, undef], []⟩ _
  clear hu
  go_wp2_with ((go_at_call 103; refine (carried_ok _ _).mono ?_; rintro e w' ⟨rfl, rfl⟩))
  simp [bodyPostS, results, Tryz.results102]

theorem sum1_some (p : Addr) (a : Option Addr) (len cap : Nat) (zs : List Int) (s : Int) (w : World) (hp : w.cell? p = some (.slice a len cap)) (hr : Reads w a len zs) (hs : sumFrom 0 zs = some s) :
    Calls Tryz.prog 62 #[.pointer (some p)] w fun e w' => e = .returned (.int .i64 s) ∧ w = w' := by
  obtain ⟨hl, hm, hx⟩ := hr
  unfold maxLen at hm
  have HL := Lib.hid hl; clear hl
  have HS := Lib.hid hs; clear hs
  rcases hx with h0 | ⟨b, off, rfl, hc⟩
  · obtain rfl : len = 0 := h0
    go_enter Tryz.func62, Tryz.ntmps62
    go_wp2
    go_loop [2, 7] (fun t i => ∃ (k : Nat) (S : Int), k ≤ 0 ∧ i = .int .i64 k ∧ t = .int .i64 S ∧ sumFrom S (zs.drop k) = some s) (fun _ i => 0 - (intOf i).toNat)
    case atStart => exact ⟨0, 0, Nat.zero_le _, rfl, rfl, HS.out⟩
    case round =>
      obtain ⟨k, S, hk, rfl, rfl, hS⟩ := hrel
      have HQ := Lib.hid hS; clear hS
      obtain rfl : k = 0 := by omega
      have hq := HQ.out
      rw [sumFrom_end (by have := HL.out; omega)] at hq
      obtain rfl : S = s := by simpa using hq
      clear hq HQ HS
      go_wp2
      go_ret
      exact ⟨rfl, rfl⟩
  · have HC := Lib.hid hc; clear hc
    go_enter Tryz.func62, Tryz.ntmps62
    go_wp2
    go_loop [2, 7] (fun t i => ∃ (k : Nat) (S : Int), k ≤ len ∧ i = .int .i64 k ∧ t = .int .i64 S ∧ sumFrom S (zs.drop k) = some s) (fun _ i => len - (intOf i).toNat)
    case atStart => exact ⟨0, 0, Nat.zero_le _, rfl, rfl, HS.out⟩
    case round =>
      obtain ⟨k, S, hk, rfl, rfl, hS⟩ := hrel
      have HQ := Lib.hid hS; clear hS
      by_cases hlt : k < len
      · have hcell : w.cell? ⟨b, off + k, none⟩ = some (.int .i64 (zs.getD k 0)) := HC.out k hlt
        generalize hz : zs.getD k 0 = z at hcell
        have HZ := Lib.hid hz; clear hz
        have hkl : k < zs.length := by have := HL.out; omega
        have hst := sumFrom_step (S := S) hkl
        rw [HQ.out, HZ.out] at hst
        by_cases hok : okB S z (S + z) = true
        · rw [if_pos hok] at hst
          have HT := Lib.hid hst; clear hst hkl
          obtain ⟨e1, e2⟩ := addE_ok hok
          have HO := Lib.hid hok; clear hok
          go_wp2_with (first | (go_at_call 64; refine (add_any _ _ _).mono ?_; rintro e w' ⟨rfl, rfl⟩; rw [e1, e2]) | (go_at_call 63; refine (must_ok _ _).mono ?_; rintro e w' ⟨rfl, rfl⟩))
          go_round
          case rel => exact ⟨k + 1, S + z, by omega, by go_num, rfl, HT.out.symm⟩
          case measure => simp [intOf]; omega
        · have hok : okB S z (S + z) = false := by simpa using hok
          rw [if_neg (by simp [hok])] at hst
          cases hst
      · have hq := HQ.out
        rw [sumFrom_end (by have := HL.out; omega)] at hq
        obtain rfl : S = s := by simpa using hq
        clear hq HQ HS
        go_wp2
        go_ret
        exact ⟨rfl, rfl⟩

theorem sum1_none (p : Addr) (a : Option Addr) (len cap : Nat) (zs : List Int) (w : World) (hp : w.cell? p = some (.slice a len cap)) (hr : Reads w a len zs) (hs : sumFrom 0 zs = none) :
    Calls Tryz.prog 62 #[.pointer (some p)] w fun e w' => e = .panicked [errEntry 2] ∧ w = w' := by
  obtain ⟨hl, hm, hx⟩ := hr
  unfold maxLen at hm
  have HL := Lib.hid hl; clear hl
  have HS := Lib.hid hs; clear hs
  rcases hx with h0 | ⟨b, off, rfl, hc⟩
  · obtain rfl : len = 0 := h0
    go_enter Tryz.func62, Tryz.ntmps62
    go_wp2
    go_loop [2, 7] (fun t i => ∃ (k : Nat) (S : Int), k ≤ 0 ∧ i = .int .i64 k ∧ t = .int .i64 S ∧ sumFrom S (zs.drop k) = none) (fun _ i => 0 - (intOf i).toNat)
    case atStart => exact ⟨0, 0, Nat.zero_le _, rfl, rfl, HS.out⟩
    case round =>
      obtain ⟨k, S, hk, rfl, rfl, hS⟩ := hrel
      have HQ := Lib.hid hS; clear hS
      obtain rfl : k = 0 := by omega
      have hq := HQ.out
      rw [sumFrom_end (by have := HL.out; omega)] at hq
      cases hq
  · have HC := Lib.hid hc; clear hc
    go_enter Tryz.func62, Tryz.ntmps62
    go_wp2
    go_loop [2, 7] (fun t i => ∃ (k : Nat) (S : Int), k ≤ len ∧ i = .int .i64 k ∧ t = .int .i64 S ∧ sumFrom S (zs.drop k) = none) (fun _ i => len - (intOf i).toNat)
    case atStart => exact ⟨0, 0, Nat.zero_le _, rfl, rfl, HS.out⟩
    case round =>
      obtain ⟨k, S, hk, rfl, rfl, hS⟩ := hrel
      have HQ := Lib.hid hS; clear hS
      by_cases hlt : k < len
      · have hcell : w.cell? ⟨b, off + k, none⟩ = some (.int .i64 (zs.getD k 0)) := HC.out k hlt
        generalize hz : zs.getD k 0 = z at hcell
        have HZ := Lib.hid hz; clear hz
        have hkl : k < zs.length := by have := HL.out; omega
        have hst := sumFrom_step (S := S) hkl
        rw [HQ.out, HZ.out] at hst
        by_cases hok : okB S z (S + z) = true
        · rw [if_pos hok] at hst
          have HT := Lib.hid hst; clear hst hkl
          obtain ⟨e1, e2⟩ := addE_ok hok
          have HO := Lib.hid hok; clear hok
          go_wp2_with (first | (go_at_call 64; refine (add_any _ _ _).mono ?_; rintro e w' ⟨rfl, rfl⟩; rw [e1, e2]) | (go_at_call 63; refine (must_ok _ _).mono ?_; rintro e w' ⟨rfl, rfl⟩))
          go_round
          case rel => exact ⟨k + 1, S + z, by omega, by go_num, rfl, HT.out.symm⟩
          case measure => simp [intOf]; omega
        · have hok : okB S z (S + z) = false := by simpa using hok
          obtain ⟨e1, e2⟩ := addE_no hok
          clear hst hok hkl
          go_wp2_with (first | (go_at_call 64; refine (add_any _ _ _).mono ?_; rintro e w' ⟨rfl, rfl⟩; rw [e1, e2]) | (go_at_call 63; refine (must_bad _ _ _ (by decide)).mono ?_; rintro e w' ⟨rfl, rfl⟩))
          exact ⟨rfl, rfl, rfl⟩
      · have hq := HQ.out
        rw [sumFrom_end (by have := HL.out; omega)] at hq
        cases hq

theorem eq_nil (fn : Fn) (first cap : Array Value) (w : World) : (binOp .eql 95 (.func fn first cap) .nilFunc).run Tryz.prog w = .ok (.bool false) w := by kernel_rfl

theorem try_some (p : Addr) (a : Option Addr) (len cap : Nat) (zs : List Int) (s : Int) (w : World) (hp : w.cell? p = some (.slice a len cap)) (hr : Reads w a len zs) (hs : sumFrom 0 zs = some s) :
    Calls Tryz.prog 61 #[.func (Fn.func 62) #[] #[.pointer (some p)]] w fun e w' => e = .returned (.tuple #[.int .i64 s, .int .i64 0]) ∧ Below w.heap.size w w' := by
  have hmf : ∀ (fn : Fn) (first cap : Array Value) (w : World), (Instr.makeFunc fn first cap).run Tryz.prog w = .ok (.func fn first cap) w := fun _ _ _ _ => rfl
  have hen := eq_nil
  have HS := Lib.hid hs; clear hs
  have HR := Lib.hid hr; clear hr
  have HP := Lib.hid hp; clear hp
  have hb1 : Below w.heap.size w (w.alloc (.cells #[.int .i64 0] 27)) := (Below.refl _ _).alloc (Nat.le_refl _) _
  have HB := Lib.hid hb1; clear hb1
  go_enter_defers Tryz.func61, Tryz.ntmps61
  go_wp2_with ((go_at_call 62; refine (sum1_some p a len cap zs s _ (by rw [HB.out.cell (cell_lt HP.out)]; exact HP.out) (reads_below HB.out HR.out) HS.out).mono ?_; rintro e w' ⟨rfl, rfl⟩))
  refine leaves_cons (f := 102) (args := #[.pointer (some ⟨w.heap.size, 0, none⟩)]) (by simp) (by simp [go_sem]) ?_
  refine (door_idle ⟨w.heap.size, 0, none⟩ _).mono ?_
  rintro e u' w'' ⟨rfl, rfl, rfl⟩
  simp [Leaves, settle, results, Tryz.results61, go_sem]
  exact HB.out

theorem try_none (p : Addr) (a : Option Addr) (len cap : Nat) (zs : List Int) (w : World) (hp : w.cell? p = some (.slice a len cap)) (hr : Reads w a len zs) (hs : sumFrom 0 zs = none) :
    Calls Tryz.prog 61 #[.func (Fn.func 62) #[] #[.pointer (some p)]] w fun e w' => e = .returned (.tuple #[.int .i64 0, .int .i64 2]) ∧ Below w.heap.size w w' := by
  have hmf : ∀ (fn : Fn) (first cap : Array Value) (w : World), (Instr.makeFunc fn first cap).run Tryz.prog w = .ok (.func fn first cap) w := fun _ _ _ _ => rfl
  have hen := eq_nil
  have HS := Lib.hid hs; clear hs
  have HR := Lib.hid hr; clear hr
  have HP := Lib.hid hp; clear hp
  have hb1 : Below w.heap.size w (w.alloc (.cells #[.int .i64 0] 27)) := (Below.refl _ _).alloc (Nat.le_refl _) _
  have HB := Lib.hid hb1; clear hb1
  go_enter_defers Tryz.func61, Tryz.ntmps61
  go_wp2_with ((go_at_call 62; refine (sum1_none p a len cap zs _ (by rw [HB.out.cell (cell_lt HP.out)]; exact HP.out) (reads_below HB.out HR.out) HS.out).mono ?_; rintro e w' ⟨rfl, rfl⟩))
  refine leaves_cons (f := 102) (args := #[.pointer (some ⟨w.heap.size, 0, none⟩)]) (by simp) (by simp [go_sem]) ?_
  refine (door_err ⟨w.heap.size, 0, none⟩ (.int .i64 0) 2 [] _ ?_ ?_).mono ?_
  · simp [go_sem]
  · simp [go_sem]
  rintro e u' w'' ⟨rfl, rfl, rfl⟩
  simp [Leaves, settle, results, Tryz.results61, go_sem]
  exact (Below.refl _ _).alloc (Nat.le_refl _) _

theorem sum_any (a : Option Addr) (len cap : Nat) (zs : List Int) (w : World) (hr : Reads w a len zs) :
    Calls Tryz.prog 30 #[.slice a len cap] w fun e w' => e = .returned (.tuple #[.int .i64 (sumN zs), .int .i64 (sumE zs)]) ∧ Below w.heap.size w w' := by
  have hmf : ∀ (fn : Fn) (first cap : Array Value) (w : World), (Instr.makeFunc fn first cap).run Tryz.prog w = .ok (.func fn first cap) w := fun _ _ _ _ => rfl
  have hb1 : Below w.heap.size w (w.alloc (.cells #[.slice a len cap] 63)) := (Below.refl _ _).alloc (Nat.le_refl _) _
  have HB := Lib.hid hb1; clear hb1
  have HR := Lib.hid hr; clear hr
  cases hs : sumFrom 0 zs with
  | some s =>
    obtain ⟨hN, hE⟩ := sumN_some hs
    rw [hN, hE]; clear hN hE
    have HS := Lib.hid hs; clear hs
    go_enter Tryz.func30, Tryz.ntmps30
    go_wp2_with ((go_at_call 61; refine (try_some ⟨w.heap.size, 0, none⟩ a len cap zs s _ (by simp [go_sem]) (reads_below HB.out HR.out) HS.out).mono ?_; rintro e w' ⟨rfl, hb⟩; have HB2 := Lib.hid hb; clear hb))
    go_ret2
    exact ⟨rfl, HB.out.trans (HB2.out.mono (by simp))⟩
  | none =>
    obtain ⟨hN, hE⟩ := sumN_none hs
    rw [hN, hE]; clear hN hE
    have HS := Lib.hid hs; clear hs
    go_enter Tryz.func30, Tryz.ntmps30
    go_wp2_with ((go_at_call 61; refine (try_none ⟨w.heap.size, 0, none⟩ a len cap zs _ (by simp [go_sem]) (reads_below HB.out HR.out) HS.out).mono ?_; rintro e w' ⟨rfl, hb⟩; have HB2 := Lib.hid hb; clear hb))
    go_ret2
    exact ⟨rfl, HB.out.trans (HB2.out.mono (by simp))⟩

theorem sub_any (a b : Int) (w : World) : Calls Tryz.prog 100 #[.int .i64 a, .int .i64 b] w fun e w' => e = .returned (.tuple #[.int .i64 (subN a b), .int .i64 (subE a b)]) ∧ w = w' := by
  by_cases ha : isB a = true
  · by_cases hb : isB b = true
    · obtain ⟨a1, a2⟩ := isB_iff.1 ha
      obtain ⟨b1, b2⟩ := isB_iff.1 hb
      by_cases hs : isB (a - b) = true
      · obtain ⟨hE, hN⟩ := subE_ok (okB_iff.2 ⟨ha, hb, hs⟩)
        rw [hE, hN]; clear hE hN
        go_enter Tryz.func100, Tryz.ntmps100
        go_wp2_with (first | (go_at_call 38; refine (is_any _ _).mono ?_; rintro e w' ⟨rfl, rfl⟩) | (go_at_call 104; go_in))
        go_ret2
        exact ⟨rfl, rfl⟩
      · have hs : isB (a - b) = false := by simpa using hs
        obtain ⟨hE, hN⟩ := subE_no (okB_r (a := a) (b := b) hs)
        rw [hE, hN]; clear hE hN
        go_enter Tryz.func100, Tryz.ntmps100
        go_wp2_with (first | (go_at_call 38; refine (is_any _ _).mono ?_; rintro e w' ⟨rfl, rfl⟩) | (go_at_call 104; go_in))
        go_ret2
        exact ⟨rfl, rfl⟩
    · have hb : isB b = false := by simpa using hb
      obtain ⟨hE, hN⟩ := subE_no (okB_b (a := a) (r := a - b) hb)
      rw [hE, hN]; clear hE hN
      go_enter Tryz.func100, Tryz.ntmps100
      go_wp2_with (first | (go_at_call 38; refine (is_any _ _).mono ?_; rintro e w' ⟨rfl, rfl⟩) | (go_at_call 104; go_in))
      go_ret2
      exact ⟨rfl, rfl⟩
  · have ha : isB a = false := by simpa using ha
    obtain ⟨hE, hN⟩ := subE_no (okB_a (b := b) (r := a - b) ha)
    rw [hE, hN]; clear hE hN
    go_enter Tryz.func100, Tryz.ntmps100
    go_wp2_with (first | (go_at_call 38; refine (is_any _ _).mono ?_; rintro e w' ⟨rfl, rfl⟩) | (go_at_call 104; go_in))
    go_ret2
    exact ⟨rfl, rfl⟩

theorem ris_any (n : Int) (w : World) : Calls Tryz.prog 40 #[.int .i64 n] w fun e w' => e = .returned (.bool (isB n)) ∧ w = w' := by
  by_cases h1 : -1099511627776 ≤ n
  · by_cases h2 : n ≤ 1099511627776
    · have e : isB n = true := isB_iff.2 ⟨h1, h2⟩
      rw [e]; clear e
      go_enter Tryz.func40, Tryz.ntmps40
      go_wp2
      go_ret
      exact ⟨rfl, rfl⟩
    · have e : isB n = false := isB_not.2 (by omega)
      rw [e]; clear e
      go_enter Tryz.func40, Tryz.ntmps40
      go_wp2
      go_ret
      exact ⟨rfl, rfl⟩
  · have e : isB n = false := isB_not.2 (by omega)
    rw [e]; clear e
    by_cases h2 : n ≤ 1099511627776
    all_goals
      go_enter Tryz.func40, Tryz.ntmps40
      go_wp2
      go_ret
      exact ⟨rfl, rfl⟩

theorem radd_any (a b : Int) (w : World) : Calls Tryz.prog 65 #[.int .i64 a, .int .i64 b] w fun e w' => e = .returned (.tuple #[.int .i64 (addN a b), .int .i64 (addE a b)]) ∧ w = w' := by
  by_cases ha : isB a = true
  · by_cases hb : isB b = true
    · obtain ⟨a1, a2⟩ := isB_iff.1 ha
      obtain ⟨b1, b2⟩ := isB_iff.1 hb
      by_cases hs : isB (a + b) = true
      · obtain ⟨hE, hN⟩ := addE_ok (okB_iff.2 ⟨ha, hb, hs⟩)
        rw [hE, hN]; clear hE hN
        go_enter Tryz.func65, Tryz.ntmps65
        go_wp2_with ((go_at_call 40; refine (ris_any _ _).mono ?_; rintro e w' ⟨rfl, rfl⟩))
        go_ret2
        exact ⟨rfl, rfl⟩
      · have hs : isB (a + b) = false := by simpa using hs
        obtain ⟨hE, hN⟩ := addE_no (okB_r (a := a) (b := b) hs)
        rw [hE, hN]; clear hE hN
        go_enter Tryz.func65, Tryz.ntmps65
        go_wp2_with ((go_at_call 40; refine (ris_any _ _).mono ?_; rintro e w' ⟨rfl, rfl⟩))
        go_ret2
        exact ⟨rfl, rfl⟩
    · have hb : isB b = false := by simpa using hb
      obtain ⟨hE, hN⟩ := addE_no (okB_b (a := a) (r := a + b) hb)
      rw [hE, hN]; clear hE hN
      go_enter Tryz.func65, Tryz.ntmps65
      go_wp2_with ((go_at_call 40; refine (ris_any _ _).mono ?_; rintro e w' ⟨rfl, rfl⟩))
      go_ret2
      exact ⟨rfl, rfl⟩
  · have ha : isB a = false := by simpa using ha
    obtain ⟨hE, hN⟩ := addE_no (okB_a (b := b) (r := a + b) ha)
    rw [hE, hN]; clear hE hN
    go_enter Tryz.func65, Tryz.ntmps65
    go_wp2_with ((go_at_call 40; refine (ris_any _ _).mono ?_; rintro e w' ⟨rfl, rfl⟩))
    go_ret2
    exact ⟨rfl, rfl⟩

theorem ret_some {zs : List Int} {S : Int} (h : some S = sumFrom 0 zs) : Ending.returned (.tuple #[.int .i64 S, .int .i64 0]) = .returned (.tuple #[.int .i64 (sumN zs), .int .i64 (sumE zs)]) := by
  obtain ⟨h1, h2⟩ := sumN_some h.symm
  rw [h1, h2]

theorem ret_none {zs : List Int} (h : none = sumFrom 0 zs) : Ending.returned (.tuple #[.int .i64 0, .int .i64 2]) = .returned (.tuple #[.int .i64 (sumN zs), .int .i64 (sumE zs)]) := by
  obtain ⟨h1, h2⟩ := sumN_none h.symm
  rw [h1, h2]

theorem rsum_any (a : Option Addr) (len cap : Nat) (zs : List Int) (w : World) (hr : Reads w a len zs) :
    Calls Tryz.prog 31 #[.slice a len cap] w fun e w' => e = .returned (.tuple #[.int .i64 (sumN zs), .int .i64 (sumE zs)]) ∧ w = w' := by
  obtain ⟨hl, hm, hx⟩ := hr
  unfold maxLen at hm
  have HL := Lib.hid hl; clear hl
  rcases hx with h0 | ⟨b, off, rfl, hc⟩
  · obtain rfl : len = 0 := h0
    go_enter Tryz.func31, Tryz.ntmps31
    go_wp2
    go_loop [4, 5] (fun t i => ∃ (k : Nat) (S : Int), k ≤ 0 ∧ i = .int .i64 k ∧ t = .int .i64 S ∧ sumFrom S (zs.drop k) = sumFrom 0 zs) (fun _ i => 0 - (intOf i).toNat)
    case atStart => exact ⟨0, 0, Nat.zero_le _, rfl, rfl, rfl⟩
    case round =>
      obtain ⟨k, S, hk, rfl, rfl, hS⟩ := hrel
      have HQ := Lib.hid hS; clear hS
      obtain rfl : k = 0 := by omega
      have hq := HQ.out
      rw [sumFrom_end (by have := HL.out; omega)] at hq
      have HF := Lib.hid hq; clear hq HQ
      go_wp2
      go_ret2
      exact ⟨ret_some HF.out, rfl⟩
  · have HC := Lib.hid hc; clear hc
    go_enter Tryz.func31, Tryz.ntmps31
    go_wp2
    go_loop [4, 5] (fun t i => ∃ (k : Nat) (S : Int), k ≤ len ∧ i = .int .i64 k ∧ t = .int .i64 S ∧ sumFrom S (zs.drop k) = sumFrom 0 zs) (fun _ i => len - (intOf i).toNat)
    case atStart => exact ⟨0, 0, Nat.zero_le _, rfl, rfl, rfl⟩
    case round =>
      obtain ⟨k, S, hk, rfl, rfl, hS⟩ := hrel
      have HQ := Lib.hid hS; clear hS
      by_cases hlt : k < len
      · have hcell : w.cell? ⟨b, off + k, none⟩ = some (.int .i64 (zs.getD k 0)) := HC.out k hlt
        generalize hz : zs.getD k 0 = z at hcell
        have HZ := Lib.hid hz; clear hz
        have hkl : k < zs.length := by have := HL.out; omega
        have hst := sumFrom_step (S := S) hkl
        rw [HQ.out, HZ.out] at hst
        by_cases hok : okB S z (S + z) = true
        · rw [if_pos hok] at hst
          have HT := Lib.hid hst; clear hst hkl
          obtain ⟨e1, e2⟩ := addE_ok hok
          have HO := Lib.hid hok; clear hok
          go_wp2_with ((go_at_call 65; refine (radd_any _ _ _).mono ?_; rintro e w' ⟨rfl, rfl⟩; rw [e1, e2]))
          go_round
          case rel => exact ⟨k + 1, S + z, by omega, by go_num, rfl, HT.out.symm⟩
          case measure => simp [intOf]; omega
        · have hok : okB S z (S + z) = false := by simpa using hok
          rw [if_neg (by simp [hok])] at hst
          have HT := Lib.hid hst; clear hst hkl
          obtain ⟨e1, e2⟩ := addE_no hok
          clear hok
          go_wp2_with ((go_at_call 65; refine (radd_any _ _ _).mono ?_; rintro e w' ⟨rfl, rfl⟩; rw [e1, e2]))
          go_ret2
          exact ⟨ret_none HT.out.symm, rfl⟩
      · have hq := HQ.out
        rw [sumFrom_end (by have := HL.out; omega)] at hq
        have HF := Lib.hid hq; clear hq HQ
        go_wp2
        go_ret2
        exact ⟨ret_some HF.out, rfl⟩

end Go.Proofs.YtgblnlpfgdbnnaaGreat

namespace Go.Proofs.YtgblnlpfgdbnnaaGreat
set_option maxRecDepth 100000
open Go.ChangeShapes Go.WideShapes Go.ChangeAt Go.RowKit

theorem ints_vec {H : Type} {enc : TypeId × Value → H} {W : World} {b : Nat} {sp : Nat → Bool} {held : Bool} {fuel : Nat} {cs : List Value} {x : DataW H × List MemPlace} (h : DataW.trod enc Tryz.prog W b sp held fuel 33 cs = some x) (i : Nat) (hi : i < 16) : ∃ n, cs[i]? = some (.int .i64 n) ∧ (Lit.int .i64 n).wf = true := by
  have c1 : Tryz.prog.cellsOf 3 = 1 := by kernel_rfl
  have c2 : Tryz.prog.cellsOf 33 = 16 := by kernel_rfl
  obtain ⟨xs, m, _, _, hl, hn, hel⟩ := DataW.trod_array Tryz.underlying33 h
  have he := hel i (by omega)
  rw [c1, Nat.mul_one, List.getElem?_eq_getElem (show i < xs.length by omega)] at he
  obtain ⟨n, h1, _, h3⟩ := DataW.trod_int Tryz.underlying3 he
  refine ⟨n, ?_, h3⟩
  rw [c2] at hl
  rw [List.drop_eq_getElem_cons (show i < cs.length by omega)] at h1
  simp only [List.take_succ_cons, List.take_zero, List.cons.injEq, and_true] at h1
  rw [List.getElem?_eq_getElem (show i < cs.length by omega), h1]
theorem ints_mov {H : Type} {enc : TypeId × Value → H} {W : World} {b : Nat} {sp : Nat → Bool} {held : Bool} {fuel : Nat} {cs : List Value} {x : DataW H × List MemPlace} (h : DataW.trod enc Tryz.prog W b sp held fuel 34 cs = some x) (i : Nat) (hi : i < 256) : ∃ n, cs[i]? = some (.int .i64 n) ∧ (Lit.int .i64 n).wf = true := by
  have c2 : Tryz.prog.cellsOf 33 = 16 := by kernel_rfl
  obtain ⟨xs, m, _, _, hl, hn, hel⟩ := DataW.trod_array Tryz.underlying34 h
  have he := hel (i / 16) (by omega)
  rw [c2, List.getElem?_eq_getElem (show i / 16 < xs.length by omega)] at he
  obtain ⟨n, h1, h2⟩ := ints_vec he (i % 16) (by omega)
  refine ⟨n, ?_, h2⟩
  rw [List.getElem?_take, if_pos (by omega), List.getElem?_drop, show i / 16 * 16 + i % 16 = i by omega] at h1
  exact h1
/-! ### awake -/
def a1 : List Int := (zer 288).set 0 5
def a2 : List Int := a1.set 33 3

end Go.Proofs.YtgblnlpfgdbnnaaGreat
