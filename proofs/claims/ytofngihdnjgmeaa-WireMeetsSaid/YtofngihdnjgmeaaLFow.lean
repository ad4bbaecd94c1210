/- Fields that come in. What the statements of layer 7 stand on: a slice of one field, Few, and awake. -/
import Derived.Test.YtofngihdnjgmeaaLFhk
namespace Go.Proofs.Ytofngihdnjgmeaa
set_option maxRecDepth 100000
open Go.ChangeShapes Go.WideShapes Go.ChangeAt Go.RowKit

theorem zs_c {H : Type} {enc : TypeId × Value → H} {W : World} {b : Nat} {sp : Nat → Bool} {held : Bool} {fuel : Nat} {l : List Value} {x : DataW H × List MemPlace} (hf : DataW.trod enc Try.prog W b sp held fuel 28 l = some x) : ∃ zs : List Int, l = vals zs ∧ zs.length = 579 ∧ ∀ z ∈ zs, (Lit.int .i64 z).wf = true := by
  have c0 : Try.prog.cellsOf 3 = 1 := by kernel_rfl
  have c1 : Try.prog.cellsOf 26 = 288 := by kernel_rfl
  have c3 : Try.prog.cellsOf 28 = 579 := by kernel_rfl
  obtain ⟨xs, m, _, _, hsz, hn, hel⟩ := DataW.trod_struct c_under hf
  rw [c3] at hsz
  obtain ⟨f1, f2, f3, f4, f5, hfs, e1, e2, e3, e4, e5⟩ := fields5 c_fields
  injection e1 with e1a e1; injection e1 with e1b e1c
  injection e2 with e2a e2; injection e2 with e2b e2c
  injection e3 with e3a e3; injection e3 with e3b e3c
  injection e4 with e4a e4; injection e4 with e4b e4c
  injection e5 with e5a e5; injection e5 with e5b e5c
  have hfs' : Try.prog.fieldsOf 28 = #[f1, f2, f3, f4, f5] := by apply Array.toList_inj.1; rw [hfs]
  rw [hfs'] at hel hn
  have hn5 : xs.length = 5 := by simpa using hn
  have d0 := hel 0 f1 rfl
  have d1 := hel 1 f2 rfl
  have d2 := hel 2 f3 rfl
  have d3 := hel 3 f4 rfl
  have d4 := hel 4 f5 rfl
  rw [e1a, e1b, c0, List.getElem?_eq_getElem (show 0 < xs.length by omega)] at d0
  rw [e2a, e2b, c0, List.getElem?_eq_getElem (show 1 < xs.length by omega)] at d1
  rw [e3a, e3b, c0, List.getElem?_eq_getElem (show 2 < xs.length by omega)] at d2
  rw [e4a, e4b, c1, List.getElem?_eq_getElem (show 3 < xs.length by omega)] at d3
  rw [e5a, e5b, c1, List.getElem?_eq_getElem (show 4 < xs.length by omega)] at d4
  have one : ∀ o, ∀ n : Int, (List.drop o l).take 1 = [.int .i64 n] → l[o]? = some (.int .i64 n) := fun o n h => by
    have := congrArg (fun x => x[0]?) h
    simpa [List.getElem?_take, List.getElem?_drop] using this
  obtain ⟨zs, h1, h2⟩ := ints_of_cells l (fun i hi => by
    by_cases i3 : i < 3
    · have : i = 0 ∨ i = 1 ∨ i = 2 := by omega
      rcases this with rfl | rfl | rfl
      · obtain ⟨n, h1, _, h2⟩ := DataW.trod_int Try.underlying3 d0
        exact ⟨n, one 0 n h1, h2⟩
      · obtain ⟨n, h1, _, h2⟩ := DataW.trod_int Try.underlying3 d1
        exact ⟨n, one 1 n h1, h2⟩
      · obtain ⟨n, h1, _, h2⟩ := DataW.trod_int Try.underlying3 d2
        exact ⟨n, one 2 n h1, h2⟩
    · by_cases i4 : i < 291
      · obtain ⟨n, h1, h2⟩ := ints_r d3 (i - 3) (by omega)
        refine ⟨n, ?_, h2⟩
        rw [List.getElem?_take, if_pos (by omega), List.getElem?_drop, show 3 + (i - 3) = i by omega] at h1
        exact h1
      · obtain ⟨n, h1, h2⟩ := ints_r d4 (i - 291) (by omega)
        refine ⟨n, ?_, h2⟩
        rw [List.getElem?_take, if_pos (by omega), List.getElem?_drop, show 291 + (i - 291) = i by omega] at h1
        exact h1)
  subst h1
  exact ⟨zs, rfl, by rw [← vals_length]; exact hsz, h2⟩
theorem lk_c {H : Type} {enc : TypeId × Value → H} {W : World} {b : Nat} {sp : Nat → Bool} {held : Bool} {fuel : Nat} {l : List Value} {x : DataW H × List MemPlace} (hf : DataW.trod enc Try.prog W b sp held fuel 30 l = some x) : ∃ a : Lk, l = vals a.l := by
  have c0 : Try.prog.cellsOf 3 = 1 := by kernel_rfl
  have c3 : Try.prog.cellsOf 30 = 4 := by kernel_rfl
  obtain ⟨xs, m, _, _, hsz, hn, hel⟩ := DataW.trod_struct lk_under hf
  rw [c3] at hsz
  obtain ⟨f1, f2, f3, f4, hfs, e1, e2, e3, e4⟩ := fields4n lk_fields
  injection e1 with e1a e1; injection e1 with e1b e1c
  injection e2 with e2a e2; injection e2 with e2b e2c
  injection e3 with e3a e3; injection e3 with e3b e3c
  injection e4 with e4a e4; injection e4 with e4b e4c
  have hfs' : Try.prog.fieldsOf 30 = #[f1, f2, f3, f4] := by apply Array.toList_inj.1; rw [hfs]
  rw [hfs'] at hel hn
  have hn4 : xs.length = 4 := by simpa using hn
  have d0 := hel 0 f1 rfl
  have d1 := hel 1 f2 rfl
  have d2 := hel 2 f3 rfl
  have d3 := hel 3 f4 rfl
  rw [e1a, e1b, c0, List.getElem?_eq_getElem (show 0 < xs.length by omega)] at d0
  rw [e2a, e2b, c0, List.getElem?_eq_getElem (show 1 < xs.length by omega)] at d1
  rw [e3a, e3b, c0, List.getElem?_eq_getElem (show 2 < xs.length by omega)] at d2
  rw [e4a, e4b, c0, List.getElem?_eq_getElem (show 3 < xs.length by omega)] at d3
  obtain ⟨n0, h0, _, _⟩ := DataW.trod_int Try.underlying3 d0
  obtain ⟨n1, h1, _, _⟩ := DataW.trod_int Try.underlying3 d1
  obtain ⟨n2, h2, _, _⟩ := DataW.trod_int Try.underlying3 d2
  obtain ⟨n3, h3, _, _⟩ := DataW.trod_int Try.underlying3 d3
  match l, hsz with
  | [a0, a1, a2, a3], _ =>
    simp at h0 h1 h2 h3
    exact ⟨⟨n0, n1, n2, n3⟩, by rw [h0, h1, h2, h3]; rfl⟩
theorem holds_c {H : Type} {enc : TypeId × Value → H} {W : World} {b : Nat} {sp : Nat → Bool} {held : Bool} {fuel : Nat} {l : List Value} {x : DataW H × List MemPlace} (hf : DataW.trod enc Try.prog W b sp held fuel 31 l = some x) : ∃ A n c hs, l = [.slice A n c] ∧ Came W A n hs ∧ n ≤ c := by
  have c5 : Try.prog.cellsOf 59 = 5 := by kernel_rfl
  rcases Deep.open_slice Try.underlying31 hf with ⟨hcs, _⟩ | ⟨a, n, c, m, k, DD, Pl, hcs, _, hl, hm, hmm, _, hel⟩
  · exact ⟨none, 0, 0, [], hcs, ⟨rfl, by simp [maxLen], .inl rfl⟩, Nat.le_refl _⟩
  · have hlm : n ≤ m := by rw [hmm]; split <;> omega
    have hcell : ∀ i, i < n → ∃ h : Ho, ∀ j, j < 5 → W.cell? (a.add (i * 5 + j)) = some (.int .i64 (h.l.getD j 0)) := fun i hi => by
      obtain ⟨cs', h1, h2⟩ := hel i (by omega)
      rw [c5] at h1
      unfold World.cells? at h1
      split at h1
      · rw [show List.range 5 = [0, 1, 2, 3, 4] from rfl] at h1
        simp only [List.mapM_cons, List.mapM_nil, Option.bind_eq_bind, Option.bind_eq_some_iff, Option.pure_def, Option.some.injEq] at h1
        obtain ⟨c0, h0, _, ⟨c1, h1', _, ⟨c2, h2', _, ⟨c3, h3', _, ⟨c4, h4', _, rfl, rfl⟩, rfl⟩, rfl⟩, rfl⟩, rfl⟩ := h1
        obtain ⟨⟨n0, rfl⟩, ⟨n1, rfl⟩, ⟨n2, rfl⟩, ⟨n3, rfl⟩, ⟨n4, rfl⟩⟩ := ints_ho h2
        rw [Deep.add_add] at h0 h1' h2' h3' h4'
        refine ⟨⟨n0, n1, n2, n3, n4⟩, fun j hj => ?_⟩
        have : j = 0 ∨ j = 1 ∨ j = 2 ∨ j = 3 ∨ j = 4 := by omega
        rcases this with rfl | rfl | rfl | rfl | rfl
        · exact h0
        · exact h1'
        · exact h2'
        · exact h3'
        · exact h4'
      · cases h1
    obtain ⟨f, hfn⟩ := Deep.choose_lt hcell
    refine ⟨some a, n, c, (List.range n).map f, hcs, ⟨by simp, Nat.le_trans hl hm, ?_⟩, hl⟩
    rcases Nat.eq_zero_or_pos n with h0 | h0
    · exact .inl h0
    · have hg : ∀ i, i < n → ((List.range n).map f).getD i z5 = f i := fun i hi => by simp [List.getD, hi]
      have hz : ∀ i, i < (flat ((List.range n).map f)).length → W.cell? (a.add i) = some (.int .i64 ((flat ((List.range n).map f)).getD i 0)) := fun i hi => by
        have hi' : i < n * 5 := by rw [flat_length] at hi; simpa using hi
        have h1 := hfn (i / 5) (by omega) (i % 5) (by omega)
        rw [show i / 5 * 5 + i % 5 = i by omega] at h1
        have h2 := flat_get (hs := (List.range n).map f) (k := i / 5) (j := i % 5) (by simp; omega) (by omega)
        rw [show i / 5 * 5 + i % 5 = i by omega, hg (i / 5) (by omega)] at h2
        rw [h1, h2]
      obtain ⟨b0, off, rfl, hc'⟩ := ints_at hz (by rw [flat_length]; simp; omega)
      refine .inr ⟨b0, off, rfl, fun k hk j u hu => ?_⟩
      obtain ⟨hj, rfl⟩ := vals_at hu
      rw [Ho.len] at hj
      have h3 := hc' (k * 5 + j) (by rw [flat_length]; simp; omega)
      rw [flat_get (by simpa using hk) hj, ← Nat.add_assoc] at h3
      exact h3


theorem drop_cut (l : List Value) (o n : Nat) : l.drop o = (l.drop o).take n ++ l.drop (o + n) := by
  rw [← List.drop_drop]
  exact (List.take_append_drop n (l.drop o)).symm
theorem open_f {H : Type} {enc : TypeId × Value → H} {W : World} {b b' : Nat} {sp : Nat → Bool} {held : Bool} {v : Value} {d : DataW H} {ps : List MemPlace} (hval : Value.okWide Try.prog W .any b' 33 v)
    (h : DataW.Trod enc Try.prog W b sp held 33 v d ps) : ∃ (p : Pf) (A : Option Addr) (c : Nat), v = .agg (p.fd A c).cells.toArray ∧ p.full ∧ Came W A p.hs.length p.hs ∧ p.hs.length ≤ c ∧ ∀ z ∈ p.C, (Lit.int .i64 z).wf = true := by
  have cs1 : Try.prog.cellsOf 9 = 1 := by kernel_rfl
  have ci : Try.prog.cellsOf 3 = 1 := by kernel_rfl
  have cc : Try.prog.cellsOf 28 = 579 := by kernel_rfl
  have cl : Try.prog.cellsOf 30 = 4 := by kernel_rfl
  have ch : Try.prog.cellsOf 31 = 1 := by kernel_rfl
  have cf : Try.prog.cellsOf 33 = 587 := by kernel_rfl
  obtain ⟨cs, rfl, hsz0, _⟩ : ∃ cs, v = .agg cs ∧ cs.size = Try.prog.cellsOf 33 ∧ Row.okWide Try.prog W .any b' 33 cs := by
    simpa [Value.okWide, f_under] using hval
  obtain ⟨l⟩ := cs
  rw [cf] at hsz0
  have hsz : l.length = 587 := by simpa using hsz0
  obtain ⟨fuel, hf⟩ := h
  obtain ⟨xs, m, _, _, _, hn, hel⟩ := DataW.trod_struct f_under hf
  obtain ⟨f1, f2, f3, f4, f5, f6, hfs, e1, e2, e3, e4, e5, e6⟩ := fields6n f_fields
  injection e1 with e1a e1; injection e1 with e1b e1c
  injection e2 with e2a e2; injection e2 with e2b e2c
  injection e3 with e3a e3; injection e3 with e3b e3c
  injection e4 with e4a e4; injection e4 with e4b e4c
  injection e5 with e5a e5; injection e5 with e5b e5c
  injection e6 with e6a e6; injection e6 with e6b e6c
  have hfs' : Try.prog.fieldsOf 33 = #[f1, f2, f3, f4, f5, f6] := by apply Array.toList_inj.1; rw [hfs]
  rw [hfs'] at hel hn
  have hn6 : xs.length = 6 := by simpa using hn
  have d0 := hel 0 f1 rfl
  have d1 := hel 1 f2 rfl
  have d2 := hel 2 f3 rfl
  have d3 := hel 3 f4 rfl
  have d4 := hel 4 f5 rfl
  have d5 := hel 5 f6 rfl
  rw [e1a, e1b, cs1, List.getElem?_eq_getElem (show 0 < xs.length by omega)] at d0
  rw [e2a, e2b, ci, List.getElem?_eq_getElem (show 1 < xs.length by omega)] at d1
  rw [e3a, e3b, ci, List.getElem?_eq_getElem (show 2 < xs.length by omega)] at d2
  rw [e4a, e4b, cc, List.getElem?_eq_getElem (show 3 < xs.length by omega)] at d3
  rw [e5a, e5b, cl, List.getElem?_eq_getElem (show 4 < xs.length by omega)] at d4
  rw [e6a, e6b, ch, List.getElem?_eq_getElem (show 5 < xs.length by omega)] at d5
  obtain ⟨s, h0, _, _⟩ := DataW.trod_string Try.underlying9 d0
  obtain ⟨k, h1, _, _⟩ := DataW.trod_int Try.underlying3 d1
  obtain ⟨e, h2, _, _⟩ := DataW.trod_int Try.underlying3 d2
  obtain ⟨C, h3, hC, hw⟩ := zs_c d3
  obtain ⟨M, h4⟩ := lk_c d4
  obtain ⟨A, n, c, hs, h5, hcame, hnc⟩ := holds_c d5
  have hlen := hcame.1
  subst hlen
  have hv : (Value.agg { toList := l }).cells.toList = l := rfl
  rw [hv] at h0 h1 h2 h3 h4 h5
  refine ⟨⟨s, k, e, C, M, hs⟩, A, c, ?_, hC, hcame, hnc, hw⟩
  have e7 : l = (Pf.fd ⟨s, k, e, C, M, hs⟩ A c).cells := by
    rw [show l = l.drop 0 from rfl, drop_cut l 0 1, h0, show 0 + 1 = 1 from rfl, drop_cut l 1 1, h1, show 1 + 1 = 2 from rfl, drop_cut l 2 1, h2, show 2 + 1 = 3 from rfl, drop_cut l 3 579, h3, show 3 + 579 = 582 from rfl, drop_cut l 582 4, h4, show 582 + 4 = 586 from rfl, drop_cut l 586 1, h5,
      List.drop_eq_nil_of_le (show l.length ≤ 586 + 1 by omega)]
    rfl
  rw [← e7]
end Go.Proofs.Ytofngihdnjgmeaa

namespace Go.Proofs.Ytofngihdnjgmeaa
set_option maxRecDepth 100000
open Go.ChangeShapes Go.WideShapes Go.ChangeAt Go.RowKit

theorem sz_f (w : World) : (sizeOf 33).run Try.prog w = .ok 587 w := by kernel_rfl
theorem run_build_f1 (cs : List Value) (hc : cs.length = 587) (u : World) : (Instr.buildSlice 49 1 #[(0, .agg cs.toArray)]).run Try.prog u = .ok (.slice (some ⟨u.heap.size, 0, none⟩) 1 1) (u.alloc (.cells cs.toArray 33)) := by
  obtain ⟨i0, hi0, hz⟩ : ∃ i, Try.prog.info? 33 = some i ∧ i.zero = some (.agg (zP.fd none 0).cells.toArray) := by
    have := f_zeroP
    cases hq : Try.prog.info? 33 with
    | none => rw [hq] at this; cases this
    | some i => rw [hq] at this; exact ⟨i, rfl, this⟩
  have hfl : ∀ Z : Array Value, Z.size = 587 → Instr.fill (fun i => some (i * 587, 587)) Z [(0, .agg cs.toArray)] = some cs.toArray := fun Z hZ => by
    obtain ⟨Z⟩ := Z
    have hZ' : Z.length = 587 := by simpa using hZ
    rw [show (⟨Z⟩ : Array Value) = Z.toArray from rfl, fill_one _ Z cs _ 0 (0 * 587) 587 [] rfl rfl hc (by omega), Instr.fill]
    have := spl_mid cs Z [] [] (by omega)
    simp only [List.nil_append, List.append_nil, List.length_nil] at this
    rw [Nat.zero_mul, this]
  have s := sz_f
  simp only [Instr.buildSlice, run_underlying Try.underlying49, Sem.run_bind, Result.andThen_ok, s]
  simp [zeroValue, typeInfo, hi0, hz, Value.cells, newRow, newObj]
  rw [hfl _ (by simp)]
  simp []
  rfl
section
variable {ops : Array Oper} {rest : List Oper} {o : Oper} {a : Act} {w u : World} {l : List (Nat × TypeId × List Value)} {rows : List (Option Addr × Nat × List Ho)} {Q : Exit → Act → World → Prop}
theorem build_f1 (hk : KeepF w l rows u) (hgd : o.guard = none) (x : Operand) (ho : o.op = .buildSlice 49 1 #[(0, x)]) {p : Pf} {A : Option Addr} {c : Nat} (hp : p.full) (hx : a.eval x = .agg (p.fd A c).cells.toArray)
    (h : ∀ b u', KeepF w ((b, 33, (p.fd A c).cells) :: l) rows u' → wpList Try.prog ops Q rest (a.put o.dst (.slice (some ⟨b, 0, none⟩) 1 1)) u') : wpList Try.prog ops Q (o :: rest) a u :=
  wpList_plain hgd fun K hK => by
    unfold Oper.wp execOp
    simp only [ho, List.map_toArray, List.map_cons, List.map_nil, hx, Sem.run_bind, Sem.run_pure, Result.andThen_ok, run_build_f1 _ (Pf.len hp)]
    exact hK _ _ (h _ _ (hk.new rfl))
theorem load_rng {ty : TypeId} {d : TypeDesc} (hu : Try.prog.underlying ty = some d) (hd : d.isRow = true) {xs : List Value} (hs : (Try.prog.info? ty).map (·.size) = some xs.length)
    (x : Operand) (ho : o.op = .load ty x) {b off : Nat} (hr : u.rangeAt b off xs) (hx : a.eval x = .pointer (some ⟨b, off, none⟩)) (hw : Region.wanted o (yielded ops a.tmps) = true)
    (h : wpList Try.prog ops Q rest (a.put o.dst (.agg xs.toArray)) u) : wpList Try.prog ops Q (o :: rest) a u :=
  BigFrame.wpList_want hw fun _ hK => wp_load_mid ty x ho b off hx xs d hr hu hd hs (hK _ _ h)
end
/-! ### Few. -/
def fewP (p : Pf) : Bool := decide (p.nm.size ≤ 100) && decide (p.hs.length ≤ 40)
set_option maxHeartbeats 2000000 in
theorem few_f (p : Pf) (hp : p.full) (A : Option Addr) (c b : Nat) (r : Bool) (hr : fewP p = r) (w : World) (hb : Cel w b 33 (p.fd A c).cells) :
    Calls Try.prog 7 #[.slice (some ⟨b, 0, none⟩) 1 1] w fun e w' => e = .returned (.bool r) ∧ Below w.heap.size w w' := by
  have HK := Lib.hid (KeepF.start (w := w) (rows := []) (by simp))
  have HF := Lib.hid hp; clear hp
  have HB := Lib.hid hb; clear hb
  subst hr
  go_enter Try.func7, Try.ntmps7
  go_wp2
  go_loopw [7] (fun i wr => ∃ m : Nat, m ≤ 1 ∧ i = .int .i64 m ∧ (m = 1 → fewP p = true) ∧ KeepF w [] [] wr) (fun i _ => 1 - (intOf i).toNat)
  case atStart => exact ⟨0, by omega, rfl, by omega, HK.out⟩
  case round =>
    obtain ⟨m, hm, rfl, hq, hk⟩ := hrel
    clear HK; have HK := Lib.hid hk; clear hk
    by_cases hlt : m < 1
    · obtain rfl : m = 0 := by omega
      clear hq
      simp only [Int.natCast_zero]
      by_cases h1 : p.nm.size ≤ 100
      · have d1 : decide ((100 : Int) < (p.nm.size : Int)) = false := by rw [decide_eq_false_iff_not]; omega
        by_cases h2 : p.hs.length ≤ 40
        · have d2 : decide ((40 : Int) < (p.hs.length : Int)) = false := by rw [decide_eq_false_iff_not]; omega
          have HQ := Lib.hid (show fewP p = true by simp [fewP, h1, h2])
          go_wp2_with (first
            | (with_reducible refine load_rng Try.underlying33 rfl (Pf.infoF HF.out) _ rfl ((HB.out.below HK.out.bel HB.out.lt).range Pf.all) rfl rfl ?_)
            | (with_reducible refine alloc_f HK.out f_zeroP rfl rfl ?_; intro bf u hk; clear HK; have HK := Lib.hid hk; clear hk)
            | (with_reducible refine store_fr HK.out 0 (Pf.infoF HF.out) (Fd.one _) rfl rfl _ _ rfl rfl rfl rfl (Fd.leP zP_full HF.out) (Fd.setAllP zP_full HF.out) ?_; intro u hk; simp only [List.set_cons_zero] at hk; clear HK; have HK := Lib.hid hk; clear hk)
            | (with_reducible refine load_f1 HK.out 0 cbS _ rfl rfl rfl rfl Pf.cn ?_)
            | (with_reducible refine load_f1 HK.out 0 cbH _ rfl rfl rfl rfl (Pf.cH HF.out) ?_))
          go_roundw
          case rel => exact ⟨1, by omega, by go_num, fun _ => HQ.out, HK.out.tail⟩
          case measure => simp [intOf]
        · have d2 : decide ((40 : Int) < (p.hs.length : Int)) = true := by rw [decide_eq_true_eq]; omega
          have HQ := Lib.hid (show fewP p = false by simp [fewP, h2])
          go_wp2_with (first
            | (with_reducible refine load_rng Try.underlying33 rfl (Pf.infoF HF.out) _ rfl ((HB.out.below HK.out.bel HB.out.lt).range Pf.all) rfl rfl ?_)
            | (with_reducible refine alloc_f HK.out f_zeroP rfl rfl ?_; intro bf u hk; clear HK; have HK := Lib.hid hk; clear hk)
            | (with_reducible refine store_fr HK.out 0 (Pf.infoF HF.out) (Fd.one _) rfl rfl _ _ rfl rfl rfl rfl (Fd.leP zP_full HF.out) (Fd.setAllP zP_full HF.out) ?_; intro u hk; simp only [List.set_cons_zero] at hk; clear HK; have HK := Lib.hid hk; clear hk)
            | (with_reducible refine load_f1 HK.out 0 cbS _ rfl rfl rfl rfl Pf.cn ?_)
            | (with_reducible refine load_f1 HK.out 0 cbH _ rfl rfl rfl rfl (Pf.cH HF.out) ?_))
          go_ret
          exact ⟨by rw [HQ.out]; rfl, HK.out.bel⟩
      · have d1 : decide ((100 : Int) < (p.nm.size : Int)) = true := by rw [decide_eq_true_eq]; omega
        have HQ := Lib.hid (show fewP p = false by simp [fewP, h1])
        go_wp2_with (first
          | (with_reducible refine load_rng Try.underlying33 rfl (Pf.infoF HF.out) _ rfl ((HB.out.below HK.out.bel HB.out.lt).range Pf.all) rfl rfl ?_)
          | (with_reducible refine alloc_f HK.out f_zeroP rfl rfl ?_; intro bf u hk; clear HK; have HK := Lib.hid hk; clear hk)
          | (with_reducible refine store_fr HK.out 0 (Pf.infoF HF.out) (Fd.one _) rfl rfl _ _ rfl rfl rfl rfl (Fd.leP zP_full HF.out) (Fd.setAllP zP_full HF.out) ?_; intro u hk; simp only [List.set_cons_zero] at hk; clear HK; have HK := Lib.hid hk; clear hk)
          | (with_reducible refine load_f1 HK.out 0 cbS _ rfl rfl rfl rfl Pf.cn ?_))
        go_ret
        exact ⟨by rw [HQ.out]; rfl, HK.out.bel⟩
    · obtain rfl : m = 1 := by omega
      have HQ := Lib.hid (hq rfl)
      clear hq
      simp only [Int.natCast_one]
      go_wp2
      go_ret
      exact ⟨by rw [HQ.out]; rfl, HK.out.bel⟩
end Go.Proofs.Ytofngihdnjgmeaa
