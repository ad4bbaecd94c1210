/- What the statements of layer 7 stand on: a slice of one field, Few, and awake. -/
import Derived.Test.YtbaccghnneidgaaGreatFo
namespace Go.Proofs.YtbaccghnneidgaaGreat
set_option maxRecDepth 100000
open Go.ChangeShapes Go.WideShapes Go.ChangeAt Go.RowKit

theorem sz_f (w : World) : (sizeOf 33).run Tryz.prog w = .ok 587 w := by kernel_rfl
theorem run_build_f1 (cs : List Value) (hc : cs.length = 587) (u : World) : (Instr.buildSlice 67 1 #[(0, .agg cs.toArray)]).run Tryz.prog u = .ok (.slice (some ⟨u.heap.size, 0, none⟩) 1 1) (u.alloc (.cells cs.toArray 33)) := by
  obtain ⟨i0, hi0, hz⟩ : ∃ i, Tryz.prog.info? 33 = some i ∧ i.zero = some (.agg (zP.fd none 0).cells.toArray) := by
    have := f_zeroP
    cases hq : Tryz.prog.info? 33 with
    | none => rw [hq] at this; cases this
    | some i => rw [hq] at this; exact ⟨i, rfl, this⟩
  have hfl : ∀ Z : Array Value, Z.size = 587 → Instr.fill (fun i => some (i * 587, 587)) Z [(0, .agg cs.toArray)] = some cs.toArray := fun Z hZ => by
    obtain ⟨Z⟩ := Z
    have hZ' : Z.length = 587 := by simpa using hZ
    rw [show (⟨Z⟩ : Array Value) = Z.toArray from rfl, fill_one _ Z cs _ 0 (0 * 587) 587 [] rfl rfl hc (by omega), Instr.fill]
    have := spl_mid cs Z [] [] (by omega)
    simp only [List.nil_append, List.append_nil, List.length_nil] at this
    rw [Nat.zero_mul, this]
  have s := sz_f
  simp only [Instr.buildSlice, run_underlying Tryz.underlying67, Sem.run_bind, Result.andThen_ok, s]
  simp [zeroValue, typeInfo, hi0, hz, Value.cells, newRow, newObj]
  rw [hfl _ (by simp)]
  simp []
  rfl
section
variable {ops : Array Oper} {rest : List Oper} {o : Oper} {a : Act} {w u : World} {l : List (Nat × TypeId × List Value)} {rows : List (Option Addr × Nat × List Ho)} {Q : Exit → Act → World → Prop}
theorem build_f1 (hk : KeepF w l rows u) (hgd : o.guard = none) (x : Operand) (ho : o.op = .buildSlice 67 1 #[(0, x)]) {p : Pf} {A : Option Addr} {c : Nat} (hp : p.full) (hx : a.eval x = .agg (p.fd A c).cells.toArray)
    (h : ∀ b u', KeepF w ((b, 33, (p.fd A c).cells) :: l) rows u' → wpList Tryz.prog ops Q rest (a.put o.dst (.slice (some ⟨b, 0, none⟩) 1 1)) u') : wpList Tryz.prog ops Q (o :: rest) a u :=
  wpList_plain hgd fun K hK => by
    unfold Oper.wp execOp
    simp only [ho, List.map_toArray, List.map_cons, List.map_nil, hx, Sem.run_bind, Sem.run_pure, Result.andThen_ok, run_build_f1 _ (Pf.len hp)]
    exact hK _ _ (h _ _ (hk.new rfl))
theorem load_rng {ty : TypeId} {d : TypeDesc} (hu : Tryz.prog.underlying ty = some d) (hd : d.isRow = true) {xs : List Value} (hs : (Tryz.prog.info? ty).map (·.size) = some xs.length)
    (x : Operand) (ho : o.op = .load ty x) {b off : Nat} (hr : u.rangeAt b off xs) (hx : a.eval x = .pointer (some ⟨b, off, none⟩)) (hw : Region.wanted o (yielded ops a.tmps) = true)
    (h : wpList Tryz.prog ops Q rest (a.put o.dst (.agg xs.toArray)) u) : wpList Tryz.prog ops Q (o :: rest) a u :=
  BigFrame.wpList_want hw fun _ hK => wp_load_mid ty x ho b off hx xs d hr hu hd hs (hK _ _ h)
end
/-! ### Few. -/
def fewP (p : Pf) : Bool := decide (p.nm.size ≤ 100) && decide (p.hs.length ≤ 40)
set_option maxHeartbeats 2000000 in
theorem few_f (p : Pf) (hp : p.full) (A : Option Addr) (c b : Nat) (r : Bool) (hr : fewP p = r) (w : World) (hb : Cel w b 33 (p.fd A c).cells) :
    Calls Tryz.prog 9 #[.slice (some ⟨b, 0, none⟩) 1 1] w fun e w' => e = .returned (.bool r) ∧ Below w.heap.size w w' := by
  have HK := Lib.hid (KeepF.start (w := w) (rows := []) (by simp))
  have HF := Lib.hid hp; clear hp
  have HB := Lib.hid hb; clear hb
  subst hr
  go_enter Tryz.func9, Tryz.ntmps9
  go_wp2
  go_loopw [7] (fun i wr => ∃ m : Nat, m ≤ 1 ∧ i = .int .i64 m ∧ (m = 1 → fewP p = true) ∧ KeepF w [] [] wr) (fun i _ => 1 - (intOf i).toNat)
  case atStart => exact ⟨0, by omega, rfl, by omega, HK.out⟩
  case round =>
    obtain ⟨m, hm, rfl, hq, hk⟩ := hrel
    clear HK; have HK := Lib.hid hk; clear hk
    by_cases hlt : m < 1
    · obtain rfl : m = 0 := by omega
      clear hq
      simp only [Int.natCast_zero]
      by_cases h1 : p.nm.size ≤ 100
      · have d1 : decide ((100 : Int) < (p.nm.size : Int)) = false := by rw [decide_eq_false_iff_not]; omega
        by_cases h2 : p.hs.length ≤ 40
        · have d2 : decide ((40 : Int) < (p.hs.length : Int)) = false := by rw [decide_eq_false_iff_not]; omega
          have HQ := Lib.hid (show fewP p = true by simp [fewP, h1, h2])
          go_wp2_with (first
            | (with_reducible refine load_rng Tryz.underlying33 rfl (Pf.infoF HF.out) _ rfl ((HB.out.below HK.out.bel HB.out.lt).range Pf.all) rfl rfl ?_)
            | (with_reducible refine alloc_f HK.out f_zeroP rfl rfl ?_; intro bf u hk; clear HK; have HK := Lib.hid hk; clear hk)
            | (with_reducible refine store_fr HK.out 0 (Pf.infoF HF.out) (Fd.one _) rfl rfl _ _ rfl rfl rfl rfl (Fd.leP zP_full HF.out) (Fd.setAllP zP_full HF.out) ?_; intro u hk; simp only [List.set_cons_zero] at hk; clear HK; have HK := Lib.hid hk; clear hk)
            | (with_reducible refine load_f1 HK.out 0 cbS _ rfl rfl rfl rfl Pf.cn ?_)
            | (with_reducible refine load_f1 HK.out 0 cbH _ rfl rfl rfl rfl (Pf.cH HF.out) ?_))
          go_roundw
          case rel => exact ⟨1, by omega, by go_num, fun _ => HQ.out, HK.out.tail⟩
          case measure => simp [intOf]
        · have d2 : decide ((40 : Int) < (p.hs.length : Int)) = true := by rw [decide_eq_true_eq]; omega
          have HQ := Lib.hid (show fewP p = false by simp [fewP, h2])
          go_wp2_with (first
            | (with_reducible refine load_rng Tryz.underlying33 rfl (Pf.infoF HF.out) _ rfl ((HB.out.below HK.out.bel HB.out.lt).range Pf.all) rfl rfl ?_)
            | (with_reducible refine alloc_f HK.out f_zeroP rfl rfl ?_; intro bf u hk; clear HK; have HK := Lib.hid hk; clear hk)
            | (with_reducible refine store_fr HK.out 0 (Pf.infoF HF.out) (Fd.one _) rfl rfl _ _ rfl rfl rfl rfl (Fd.leP zP_full HF.out) (Fd.setAllP zP_full HF.out) ?_; intro u hk; simp only [List.set_cons_zero] at hk; clear HK; have HK := Lib.hid hk; clear hk)
            | (with_reducible refine load_f1 HK.out 0 cbS _ rfl rfl rfl rfl Pf.cn ?_)
            | (with_reducible refine load_f1 HK.out 0 cbH _ rfl rfl rfl rfl (Pf.cH HF.out) ?_))
          go_ret
          exact ⟨by rw [HQ.out]; rfl, HK.out.bel⟩
      · have d1 : decide ((100 : Int) < (p.nm.size : Int)) = true := by rw [decide_eq_true_eq]; omega
        have HQ := Lib.hid (show fewP p = false by simp [fewP, h1])
        go_wp2_with (first
          | (with_reducible refine load_rng Tryz.underlying33 rfl (Pf.infoF HF.out) _ rfl ((HB.out.below HK.out.bel HB.out.lt).range Pf.all) rfl rfl ?_)
          | (with_reducible refine alloc_f HK.out f_zeroP rfl rfl ?_; intro bf u hk; clear HK; have HK := Lib.hid hk; clear hk)
          | (with_reducible refine store_fr HK.out 0 (Pf.infoF HF.out) (Fd.one _) rfl rfl _ _ rfl rfl rfl rfl (Fd.leP zP_full HF.out) (Fd.setAllP zP_full HF.out) ?_; intro u hk; simp only [List.set_cons_zero] at hk; clear HK; have HK := Lib.hid hk; clear hk)
          | (with_reducible refine load_f1 HK.out 0 cbS _ rfl rfl rfl rfl Pf.cn ?_))
        go_ret
        exact ⟨by rw [HQ.out]; rfl, HK.out.bel⟩
    · obtain rfl : m = 1 := by omega
      have HQ := Lib.hid (hq rfl)
      clear hq
      simp only [Int.natCast_one]
      go_wp2
      go_ret
      exact ⟨by rw [HQ.out]; rfl, HK.out.bel⟩
end Go.Proofs.YtbaccghnneidgaaGreat
