/- What is reserved is no longer loose; let go it is again; kept it is gone from the value. No condition. -/
import Derived.Test.YtbaccghnneidgaaGreatLFa
import Derived.Test.YtbaccghnneidgaaGreatLFu
import Derived.WalkKit
import Derived.ProofKit
import Derived.OpenShut
import Derived.ChangeOld
import Derived.Below
namespace Go.Proofs.YtbaccghnneidgaaGreat.fieldLoose
open Go.ChangeShapes Go.WideShapes Go.ChangeAt Go.RowKit
set_option linter.unusedVariables false

theorem own : ownKnob Tryz.prog.godebug = none := by kernel_rfl
theorem laidOut : laidOutB Tryz.prog = true := by kernel_rfl

set_option maxRecDepth 100000
theorem do_under : Tryz.prog.underlying 63 = some (.struct (Tryz.prog.fieldsOf 63)) := by kernel_rfl
theorem do_fields : (Tryz.prog.fieldsOf 63).toList.map (fun f => (f.type, f.offset, f.name)) = [(3, 0, "Verb"), (3, 1, "I"), (3, 2, "K"), (3, 3, "N"), (3, 4, "M")] := by kernel_rfl
theorem do_zero : (Tryz.prog.info? 63).bind (·.zero) = some (.agg (vals z5.l).toArray) := by kernel_rfl
theorem do_info (h : Ho) : (Tryz.prog.info? 63).map (·.size) = some (vals h.l).length := by rw [vals_length, Ho.len]; kernel_rfl
def chk : Nat → List Value → Bool
  | 0, l => l.isEmpty
  | n + 1, l => (!(l.drop 586).isEmpty) && chk n (l.drop 587)
theorem chk_len : ∀ (n : Nat) (l : List Value), chk n l = true → l.length = n * 587
  | 0, l, h => by
    have h : l.isEmpty = true := h
    rw [List.isEmpty_iff] at h
    rw [h]; rfl
  | n + 1, l, h => by
    rw [chk, Bool.and_eq_true] at h
    have h2 := chk_len n _ h.2
    have h1 : (l.drop 586) ≠ [] := by
      intro e
      rw [e] at h
      simp at h
    have h3 : 586 < l.length := by
      rcases Nat.lt_or_ge 586 l.length with h4 | h4
      · exact h4
      · exact absurd (List.drop_eq_nil_of_le h4) h1
    rw [List.length_drop] at h2
    omega
theorem t16_chk : (match (Tryz.prog.info? 61).bind (·.zero) with | some (.agg a) => chk 16 a.toList | _ => false) = true := by kernel_rfl
theorem t16_zero : ∃ Z : List Value, (Tryz.prog.info? 61).bind (·.zero) = some (.agg Z.toArray) ∧ Z.length = 9392 := by
  have h := t16_chk
  cases hz : (Tryz.prog.info? 61).bind (·.zero) with
  | none => rw [hz] at h; cases h
  | some v =>
    rw [hz] at h
    cases v with
    | agg a => exact ⟨a.toList, by simp, chk_len 16 _ h⟩
    | _ => cases h
theorem Ho.le5 (a b : Ho) : 0 + (vals b.l).length ≤ (vals a.l).length := Nat.le_refl 5
theorem Ho.putA (a b : Ho) : spl (vals a.l) 0 (vals b.l) = vals b.l := rfl
theorem Ho.fall (a : Ho) : ∀ j v, (vals a.l)[j]? = some v → (vals a.l)[0 + j]? = some v := fun j v h => by rw [Nat.zero_add]; exact h
theorem ints_do {H : Type} {enc : TypeId × Value → H} {W : World} {b : Nat} {sp : Nat → Bool} {held : Bool} {fuel : Nat} {c0 c1 c2 c3 c4 : Value} {x : DataW H × List MemPlace} (h : DataW.trod enc Tryz.prog W b sp held fuel 63 [c0, c1, c2, c3, c4] = some x) :
    (∃ n, c0 = .int .i64 n) ∧ (∃ n, c1 = .int .i64 n) ∧ (∃ n, c2 = .int .i64 n) ∧ (∃ n, c3 = .int .i64 n) ∧ ∃ n, c4 = .int .i64 n := by
  have ci : Tryz.prog.cellsOf 3 = 1 := by kernel_rfl
  obtain ⟨xs, m, _, _, _, hn, hel⟩ := DataW.trod_struct do_under h
  obtain ⟨f1, f2, f3, f4, f5, hfs, e1, e2, e3, e4, e5⟩ := fields5n do_fields
  injection e1 with e1a e1; injection e1 with e1b e1c
  injection e2 with e2a e2; injection e2 with e2b e2c
  injection e3 with e3a e3; injection e3 with e3b e3c
  injection e4 with e4a e4; injection e4 with e4b e4c
  injection e5 with e5a e5; injection e5 with e5b e5c
  have hfs' : Tryz.prog.fieldsOf 63 = #[f1, f2, f3, f4, f5] := by apply Array.toList_inj.1; rw [hfs]
  rw [hfs'] at hel hn
  have hn5 : xs.length = 5 := by simpa using hn
  have d0 := hel 0 f1 rfl
  have d1 := hel 1 f2 rfl
  have d2 := hel 2 f3 rfl
  have d3 := hel 3 f4 rfl
  have d4 := hel 4 f5 rfl
  rw [e1a, e1b, ci, List.getElem?_eq_getElem (show 0 < xs.length by omega)] at d0
  rw [e2a, e2b, ci, List.getElem?_eq_getElem (show 1 < xs.length by omega)] at d1
  rw [e3a, e3b, ci, List.getElem?_eq_getElem (show 2 < xs.length by omega)] at d2
  rw [e4a, e4b, ci, List.getElem?_eq_getElem (show 3 < xs.length by omega)] at d3
  rw [e5a, e5b, ci, List.getElem?_eq_getElem (show 4 < xs.length by omega)] at d4
  obtain ⟨n0, h0, _, _⟩ := DataW.trod_int Tryz.underlying3 d0
  obtain ⟨n1, h1, _, _⟩ := DataW.trod_int Tryz.underlying3 d1
  obtain ⟨n2, h2, _, _⟩ := DataW.trod_int Tryz.underlying3 d2
  obtain ⟨n3, h3, _, _⟩ := DataW.trod_int Tryz.underlying3 d3
  obtain ⟨n4, h4, _, _⟩ := DataW.trod_int Tryz.underlying3 d4
  simp at h0 h1 h2 h3 h4
  exact ⟨⟨n0, h0⟩, ⟨n1, h1⟩, ⟨n2, h2⟩, ⟨n3, h3⟩, ⟨n4, h4⟩⟩
theorem open_steps {H : Type} {enc : TypeId × Value → H} {W : World} {b b' : Nat} {sp : Nat → Bool} {held : Bool} {v : Value} {d : DataW H} {p : List MemPlace} (hval : Value.okWide Tryz.prog W .any b' 60 v)
    (h : DataW.Trod enc Tryz.prog W b sp held 60 v d p) : ∃ A n c hs, v = .slice A n c ∧ Came W A n hs := by
  have c5 : Tryz.prog.cellsOf 63 = 5 := by kernel_rfl
  obtain ⟨A, n, c, rfl⟩ := okWide_slice Tryz.underlying60 hval
  obtain ⟨fuel, hf⟩ := h
  rcases Deep.open_slice Tryz.underlying60 hf with ⟨hcs, _⟩ | ⟨a, len, cap, m, k, DD, Pl, hcs, _, hl, hm, hmm, _, hel⟩
  · simp [Value.cells] at hcs
    obtain ⟨rfl, rfl, rfl⟩ := hcs
    exact ⟨none, 0, 0, [], rfl, rfl, by simp [maxLen], .inl rfl⟩
  · simp [Value.cells] at hcs
    obtain ⟨rfl, rfl, rfl⟩ := hcs
    have hlm : n ≤ m := by rw [hmm]; split <;> omega
    have hcell : ∀ i, i < n → ∃ h : Ho, ∀ j, j < 5 → W.cell? (a.add (i * 5 + j)) = some (.int .i64 (h.l.getD j 0)) := fun i hi => by
      obtain ⟨cs', h1, h2⟩ := hel i (by omega)
      rw [c5] at h1
      unfold World.cells? at h1
      split at h1
      · rw [show List.range 5 = [0, 1, 2, 3, 4] from rfl] at h1
        simp only [List.mapM_cons, List.mapM_nil, Option.bind_eq_bind, Option.bind_eq_some_iff, Option.pure_def, Option.some.injEq] at h1
        obtain ⟨c0, h0, _, ⟨c1, h1', _, ⟨c2, h2', _, ⟨c3, h3', _, ⟨c4, h4', _, rfl, rfl⟩, rfl⟩, rfl⟩, rfl⟩, rfl⟩ := h1
        obtain ⟨⟨n0, rfl⟩, ⟨n1, rfl⟩, ⟨n2, rfl⟩, ⟨n3, rfl⟩, ⟨n4, rfl⟩⟩ := ints_do h2
        rw [Deep.add_add] at h0 h1' h2' h3' h4'
        refine ⟨⟨n0, n1, n2, n3, n4⟩, fun j hj => ?_⟩
        have : j = 0 ∨ j = 1 ∨ j = 2 ∨ j = 3 ∨ j = 4 := by omega
        rcases this with rfl | rfl | rfl | rfl | rfl
        · exact h0
        · exact h1'
        · exact h2'
        · exact h3'
        · exact h4'
      · cases h1
    obtain ⟨f, hfn⟩ := Deep.choose_lt hcell
    refine ⟨some a, n, c, (List.range n).map f, rfl, by simp, Nat.le_trans hl hm, ?_⟩
    rcases Nat.eq_zero_or_pos n with h0 | h0
    · exact .inl h0
    · have hg : ∀ i, i < n → ((List.range n).map f).getD i z5 = f i := fun i hi => by simp [List.getD, hi]
      have hz : ∀ i, i < (flat ((List.range n).map f)).length → W.cell? (a.add i) = some (.int .i64 ((flat ((List.range n).map f)).getD i 0)) := fun i hi => by
        have hi' : i < n * 5 := by rw [flat_length] at hi; simpa using hi
        have h1 := hfn (i / 5) (by omega) (i % 5) (by omega)
        rw [show i / 5 * 5 + i % 5 = i by omega] at h1
        have h2 := flat_get (hs := (List.range n).map f) (k := i / 5) (j := i % 5) (by simp; omega) (by omega)
        rw [show i / 5 * 5 + i % 5 = i by omega, hg (i / 5) (by omega)] at h2
        rw [h1, h2]
      obtain ⟨b0, off, rfl, hc'⟩ := ints_at hz (by rw [flat_length]; simp; omega)
      refine .inr ⟨b0, off, rfl, fun k hk j u hu => ?_⟩
      obtain ⟨hj, rfl⟩ := vals_at hu
      rw [Ho.len] at hj
      have h3 := hc' (k * 5 + j) (by rw [flat_length]; simp; omega)
      rw [flat_get (by simpa using hk) hj, ← Nat.add_assoc] at h3
      exact h3

def rep (p : Pf) (Z : List Value) (m : Nat) : List Value := fcs (List.replicate m (p, none, 0)) ++ Z.drop (m * 587)
theorem rep_pre {p : Pf} (hp : p.full) (m : Nat) : (fcs (List.replicate m (p, none, 0))).length = m * 587 := by
  rw [fcs_len fun x hx => by rw [(List.mem_replicate.1 hx).2]; exact hp, List.length_replicate]
theorem rep_set {p : Pf} (hp : p.full) {Z : List Value} (hZ : Z.length = 9392) {m : Nat} (h : m < 16) : spl (rep p Z m) (m * 587) (p.fd none 0).cells = rep p Z (m + 1) := by
  have h1 := spl_mid (p.fd none 0).cells ((Z.drop (m * 587)).take 587) (fcs (List.replicate m (p, none, 0))) (Z.drop (m * 587 + 587)) (by rw [Pf.len hp, List.length_take, List.length_drop]; omega)
  rw [rep_pre hp, ← drop_cut] at h1
  unfold rep
  rw [h1, List.replicate_succ', show (m + 1) * 587 = m * 587 + 587 by omega]
  simp [fcs, Q.cells]
theorem rep_le {p : Pf} (hp : p.full) {Z : List Value} (hZ : Z.length = 9392) {m : Nat} (h : m < 16) : m * 587 + (p.fd none 0).cells.length ≤ (rep p Z m).length := by
  unfold rep
  rw [List.length_append, rep_pre hp, List.length_drop, Pf.len hp]
  omega
theorem rep_all (p : Pf) {Z : List Value} (hZ : Z.length = 9392) : rep p Z 16 = fcs (List.replicate 16 (p, none, 0)) := by
  unfold rep
  rw [List.drop_eq_nil_of_le (by omega), List.append_nil]
theorem rws_nil {w u : World} {l : List (Nat × TypeId × List Value)} {qs : List Q} (hk : KeepF w l [] u) (h : ∀ x ∈ qs, x.1.hs = []) : KeepF w l (rws qs) u :=
  ⟨hk.bel, hk.blk, hk.apart, fun r hr => by
    obtain ⟨x, hx, rfl⟩ := List.mem_map.1 hr
    rw [h x hx]
    exact Row.nil u _, fun r hr x hx a ha hn => by
    obtain ⟨y, hy, rfl⟩ := List.mem_map.1 hr
    rw [h y hy] at hn
    exact absurd hn (by simp)⟩
theorem Iv.ok {i : Int} {t : Nat} {p : Pf} (h : Iv i t p) (ht : t ≤ 100) (A : Option Addr) (c : Nat) : (p.fd A c).ok := fun z hz => by
  have hz : z ∈ seg p.C 19 16 := hz
  rw [← dn_used] at hz
  obtain ⟨q, hq, rfl⟩ := mem_seg (by rw [dnR_length h.full]; omega) hz
  have := h.D (16 + q) (by omega)
  omega
theorem vok {p : Pf} {A : Option Addr} {c : Nat} (hp : p.full) (hD : (p.fd A c).ok) (w : World) : Calls Tryz.prog 11 #[.agg (p.fd A c).cells.toArray] w fun e w' => e = .returned (.tuple #[.int .i64 (viewN (p.fd none 0)), .int .i64 (viewE (p.fd none 0))]) ∧ Below w.heap.size w w' := view_any (p.fd A c) hp hD w
theorem lokU {p : Pf} (hp : p.full) (k U : Int) (hU : looseU (p.fd none 0) k = U) (D : Int) (hD : looseP p k = D) (A : Option Addr) (c : Nat) (w : World) (h : Row w A p.hs.length p.hs) :
    Calls Tryz.prog 13 #[.agg (p.fd A c).cells.toArray, .int .i64 k] w fun e w' => e = .returned (.tuple #[.int .i64 D, .int .i64 U]) ∧ Below w.heap.size w w' := by
  subst hU; subst hD; exact lok hp k w h
theorem ct_hs (s : ByteArray) (i l h : Int) : (ctP s i l h).hs = [] := by
  unfold ctP toldP
  split <;> rfl
theorem wrapS {a b : Int} (h : -9223372036854775808 ≤ a - b ∧ a - b ≤ 9223372036854775807) : IntKind.i64.wrap (a - b) = a - b := by
  simp [IntKind.wrap, IntKind.bits, IntKind.signed]; omega

set_option maxRecDepth 100000 in
set_option maxHeartbeats 16000000 in
theorem walk (w : World) (a0 : Int) (w0 : (Lit.int .i64 a0).wf = true) (a1 : Int) (w1 : (Lit.int .i64 a1).wf = true) (a2 : Int) (w2 : (Lit.int .i64 a2).wf = true) (A3 : Option Addr) (n3 c3 : Nat) (x3 : List Ho) (hd3 : Came w A3 n3 x3) (a4 : Int) (w4 : (Lit.int .i64 a4).wf = true) (a5 : Int) (w5 : (Lit.int .i64 a5).wf = true) :
    Calls Tryz.prog 8 #[.int .i64 a0, .int .i64 a1, .int .i64 a2, .slice A3 n3 c3, .int .i64 a4, .int .i64 a5] w fun e w' => e = .returned (.bool true) ∧ Below w.heap.size w w' := by
  have hc1 := fcounter_any ⟨#[97]⟩ (by decide) a0 a1 a2
  have HK := Lib.hid (KeepF.start (w := w) (rows := []) (by simp))
  have HP0 := Lib.hid (ctP_full ⟨#[97]⟩ a0 a1 a2)
  have hst := @Iv.start a0 a1 a2
  have hns := ct_hs ⟨#[97]⟩ a0 a1 a2
  generalize ctP ⟨#[97]⟩ a0 a1 a2 = P0 at hc1 HP0 hst hns
  generalize ctPE ⟨#[97]⟩ a0 a1 a2 = E0 at hc1 hst
  by_cases z0 : E0 = 0
  rotate_left
  · have d0 : (E0 != 0) = true := by simpa using z0
    go_enter Tryz.func8, Tryz.ntmps8
    go_wp2_with (first
      | (go_at_call 20; (with_reducible refine (hc1 _).mono ?_); rintro e u ⟨rfl, hb⟩; have hk := HK.out.call hb; clear hb; clear HK; have HK := Lib.hid hk; clear hk)
      | (with_reducible refine alloc_f HK.out f_zeroP rfl rfl ?_; intro bf u hk; clear HK; have HK := Lib.hid hk; clear hk)
      | (with_reducible refine store_fr HK.out 0 (Pf.infoF HP0.out) (Fd.one _) rfl rfl _ _ rfl rfl rfl rfl (Fd.leP zP_full HP0.out) (Fd.setAllP zP_full HP0.out) ?_; intro u hk; simp only [List.set_cons_zero, List.set_cons_succ] at hk; clear HK; have HK := Lib.hid hk; clear hk)
      | (go_at_call 10; (with_reducible refine (awake_f _).mono ?_); rintro e u ⟨rfl, hb⟩; have hk := HK.out.call hb; clear hb; clear HK; have HK := Lib.hid hk; clear hk))
    go_ret
    exact ⟨rfl, HK.out.bel⟩
  subst z0
  by_cases z1 : a1 < -1000
  · have d1 : decide (a1 < -1000) = true := by simpa using z1
    go_enter Tryz.func8, Tryz.ntmps8
    go_wp2_with (first
      | (go_at_call 20; (with_reducible refine (hc1 _).mono ?_); rintro e u ⟨rfl, hb⟩; have hk := HK.out.call hb; clear hb; clear HK; have HK := Lib.hid hk; clear hk)
      | (with_reducible refine alloc_f HK.out f_zeroP rfl rfl ?_; intro bf u hk; clear HK; have HK := Lib.hid hk; clear hk)
      | (with_reducible refine store_fr HK.out 0 (Pf.infoF HP0.out) (Fd.one _) rfl rfl _ _ rfl rfl rfl rfl (Fd.leP zP_full HP0.out) (Fd.setAllP zP_full HP0.out) ?_; intro u hk; simp only [List.set_cons_zero, List.set_cons_succ] at hk; clear HK; have HK := Lib.hid hk; clear hk)
      | (go_at_call 10; (with_reducible refine (awake_f _).mono ?_); rintro e u ⟨rfl, hb⟩; have hk := HK.out.call hb; clear hb; clear HK; have HK := Lib.hid hk; clear hk))
    go_ret
    exact ⟨rfl, HK.out.bel⟩
  have d1 : decide (a1 < -1000) = false := by simpa using z1
  by_cases z2 : 1000 < a2
  · have d2 : decide (1000 < a2) = true := by simpa using z2
    go_enter Tryz.func8, Tryz.ntmps8
    go_wp2_with (first
      | (go_at_call 20; (with_reducible refine (hc1 _).mono ?_); rintro e u ⟨rfl, hb⟩; have hk := HK.out.call hb; clear hb; clear HK; have HK := Lib.hid hk; clear hk)
      | (with_reducible refine alloc_f HK.out f_zeroP rfl rfl ?_; intro bf u hk; clear HK; have HK := Lib.hid hk; clear hk)
      | (with_reducible refine store_fr HK.out 0 (Pf.infoF HP0.out) (Fd.one _) rfl rfl _ _ rfl rfl rfl rfl (Fd.leP zP_full HP0.out) (Fd.setAllP zP_full HP0.out) ?_; intro u hk; simp only [List.set_cons_zero, List.set_cons_succ] at hk; clear HK; have HK := Lib.hid hk; clear hk)
      | (go_at_call 10; (with_reducible refine (awake_f _).mono ?_); rintro e u ⟨rfl, hb⟩; have hk := HK.out.call hb; clear hb; clear HK; have HK := Lib.hid hk; clear hk))
    go_ret
    exact ⟨rfl, HK.out.bel⟩
  have d2 : decide (1000 < a2) = false := by simpa using z2
  by_cases z3 : 60 < n3
  · have d3 : decide ((60 : Int) < (n3 : Int)) = true := by rw [decide_eq_true_eq]; omega
    go_enter Tryz.func8, Tryz.ntmps8
    go_wp2_with (first
      | (go_at_call 20; (with_reducible refine (hc1 _).mono ?_); rintro e u ⟨rfl, hb⟩; have hk := HK.out.call hb; clear hb; clear HK; have HK := Lib.hid hk; clear hk)
      | (with_reducible refine alloc_f HK.out f_zeroP rfl rfl ?_; intro bf u hk; clear HK; have HK := Lib.hid hk; clear hk)
      | (with_reducible refine store_fr HK.out 0 (Pf.infoF HP0.out) (Fd.one _) rfl rfl _ _ rfl rfl rfl rfl (Fd.leP zP_full HP0.out) (Fd.setAllP zP_full HP0.out) ?_; intro u hk; simp only [List.set_cons_zero, List.set_cons_succ] at hk; clear HK; have HK := Lib.hid hk; clear hk)
      | (go_at_call 10; (with_reducible refine (awake_f _).mono ?_); rintro e u ⟨rfl, hb⟩; have hk := HK.out.call hb; clear hb; clear HK; have HK := Lib.hid hk; clear hk))
    go_ret
    exact ⟨rfl, HK.out.bel⟩
  have d3 : decide ((60 : Int) < (n3 : Int)) = false := by rw [decide_eq_false_iff_not]; omega
  by_cases z4 : a4 < 0
  · have d4 : decide (a4 < 0) = true := by simpa using z4
    go_enter Tryz.func8, Tryz.ntmps8
    go_wp2_with (first
      | (go_at_call 20; (with_reducible refine (hc1 _).mono ?_); rintro e u ⟨rfl, hb⟩; have hk := HK.out.call hb; clear hb; clear HK; have HK := Lib.hid hk; clear hk)
      | (with_reducible refine alloc_f HK.out f_zeroP rfl rfl ?_; intro bf u hk; clear HK; have HK := Lib.hid hk; clear hk)
      | (with_reducible refine store_fr HK.out 0 (Pf.infoF HP0.out) (Fd.one _) rfl rfl _ _ rfl rfl rfl rfl (Fd.leP zP_full HP0.out) (Fd.setAllP zP_full HP0.out) ?_; intro u hk; simp only [List.set_cons_zero, List.set_cons_succ] at hk; clear HK; have HK := Lib.hid hk; clear hk)
      | (go_at_call 10; (with_reducible refine (awake_f _).mono ?_); rintro e u ⟨rfl, hb⟩; have hk := HK.out.call hb; clear hb; clear HK; have HK := Lib.hid hk; clear hk))
    go_ret
    exact ⟨rfl, HK.out.bel⟩
  have d4 : decide (a4 < 0) = false := by simpa using z4
  by_cases z5' : 15 < a4
  · have d5 : decide (15 < a4) = true := by simpa using z5'
    go_enter Tryz.func8, Tryz.ntmps8
    go_wp2_with (first
      | (go_at_call 20; (with_reducible refine (hc1 _).mono ?_); rintro e u ⟨rfl, hb⟩; have hk := HK.out.call hb; clear hb; clear HK; have HK := Lib.hid hk; clear hk)
      | (with_reducible refine alloc_f HK.out f_zeroP rfl rfl ?_; intro bf u hk; clear HK; have HK := Lib.hid hk; clear hk)
      | (with_reducible refine store_fr HK.out 0 (Pf.infoF HP0.out) (Fd.one _) rfl rfl _ _ rfl rfl rfl rfl (Fd.leP zP_full HP0.out) (Fd.setAllP zP_full HP0.out) ?_; intro u hk; simp only [List.set_cons_zero, List.set_cons_succ] at hk; clear HK; have HK := Lib.hid hk; clear hk)
      | (go_at_call 10; (with_reducible refine (awake_f _).mono ?_); rintro e u ⟨rfl, hb⟩; have hk := HK.out.call hb; clear hb; clear HK; have HK := Lib.hid hk; clear hk))
    go_ret
    exact ⟨rfl, HK.out.bel⟩
  have d5 : decide (15 < a4) = false := by simpa using z5'
  obtain ⟨k, rfl⟩ : ∃ k : Nat, a4 = k := ⟨a4.toNat, by omega⟩
  have hk16 : k < 16 := by omega
  obtain ⟨hI0, hi1, hi2⟩ := hst rfl (by omega) (by omega)
  have HI0 := Lib.hid hI0
  have HII := Lib.hid (show -1000 ≤ a0 ∧ a0 ≤ 1000 from ⟨hi1, hi2⟩)
  have HNS := Lib.hid hns
  have HD := Lib.hid (hd3.row (by omega))
  have HN60 := Lib.hid (show n3 ≤ 60 by omega)
  have HK16 := Lib.hid hk16
  have i5 : (0 : Int) ≤ (k : Int) := by omega
  have i6 : (k : Int) < 16 := by omega
  obtain ⟨Z, hz, hzl⟩ := t16_zero
  have HZZ := Lib.hid hz; have HZL := Lib.hid hzl
  clear hst hns hI0 hi1 hi2 hz hzl hd3 z1 z2 z3 z4 z5' hk16 w0 w1 w2 w4 w5
  go_enter Tryz.func8, Tryz.ntmps8
  go_wp2_with (first
    | (go_at_call 20; (with_reducible refine (hc1 _).mono ?_); rintro e u ⟨rfl, hb⟩; have hk := HK.out.call hb; clear hb; clear HK; have HK := Lib.hid hk; clear hk)
    | (with_reducible refine alloc_f HK.out f_zeroP rfl rfl ?_; intro bf u hk; clear HK; have HK := Lib.hid hk; clear hk)
    | (with_reducible refine store_fr HK.out 0 (Pf.infoF HP0.out) (Fd.one _) rfl rfl _ _ rfl rfl rfl rfl (Fd.leP zP_full HP0.out) (Fd.setAllP zP_full HP0.out) ?_; intro u hk; simp only [List.set_cons_zero, List.set_cons_succ] at hk; clear HK; have HK := Lib.hid hk; clear hk)
    | (with_reducible refine alloc_f HK.out HZZ.out rfl rfl ?_; intro bs u hk; clear HK; have HK := Lib.hid hk; clear hk))
  go_loopw [69] (fun i wr => ∃ m : Nat, m ≤ 16 ∧ i = .int .i64 m ∧ KeepF w [(bs, 61, rep P0 Z m), (bf, 33, (P0.fd none 0).cells)] [] wr) (fun i _ => 16 - (intOf i).toNat)
  case atStart => exact ⟨0, by omega, rfl, HK.out⟩
  case round =>
    obtain ⟨m, hm, rfl, hk⟩ := hrel
    clear HK; have HK := Lib.hid hk; clear hk
    by_cases hlt : m < 16
    · have HML := Lib.hid (rep_le HP0.out HZL.out hlt)
      have HSE := Lib.hid (rep_set HP0.out HZL.out hlt)
      have i1 : (0 : Int) ≤ (m : Int) := by omega
      have i2 : (m : Int) < 16 := by omega
      go_wp2_with (first
        | (with_reducible refine load_fr HK.out 1 Tryz.underlying33 rfl (Pf.infoF HP0.out) _ rfl rfl rfl rfl Pf.all ?_)
        | (with_reducible refine store_fr HK.out 0 (Pf.infoF HP0.out) (Fd.one _) rfl rfl _ _ rfl rfl rfl rfl HML.out HSE.out ?_; intro u hk; simp only [List.set_cons_zero, List.set_cons_succ] at hk; clear HK; have HK := Lib.hid hk; clear hk))
      go_roundw
      case rel => exact ⟨m + 1, by omega, by go_num, HK.out⟩
      case measure => simp [intOf]; omega
    · obtain rfl : m = 16 := by omega
      rw [rep_all P0 HZL.out] at HK
      have hk := rws_nil (qs := List.replicate 16 (P0, none, 0)) HK.out (fun x hx => by rw [(List.mem_replicate.1 hx).2]; exact HNS.out)
      clear HK; have HK := Lib.hid hk; clear hk
      have HQ0 := Lib.hid (show (List.replicate 16 ((P0, none, 0) : Q)).length = 16 by simp)
      have HIA := Lib.hid (show ∀ x ∈ List.replicate 16 ((P0, none, 0) : Q), Iv a0 0 x.1 from fun x hx => by rw [(List.mem_replicate.1 hx).2]; exact HI0.out)
      generalize List.replicate 16 ((P0, none, 0) : Q) = qs0 at HK HQ0 HIA
      simp only [show ((16 : Nat) : Int) = 16 from rfl]
      go_wp2
      go_loopw [78] (fun i wr => ∃ m : Nat, m ≤ n3 ∧ i = .int .i64 m ∧ ∃ qs : List Q, qs.length = 16 ∧ (∀ x ∈ qs, Iv a0 m x.1) ∧ KeepF w [(bs, 61, fcs qs), (bf, 33, (P0.fd none 0).cells)] (rws qs) wr) (fun i _ => n3 - (intOf i).toNat)
      case atStart => exact ⟨0, by omega, rfl, qs0, HQ0.out, HIA.out, HK.out⟩
      case round =>
        obtain ⟨m, hm, rfl, qs, hq, hI, hk⟩ := hrel
        clear HQ0 HIA
        clear HK; have HK := Lib.hid hk; clear hk
        have HQL := Lib.hid hq; have HIV := Lib.hid hI
        clear hq hI
        have hn60 := HN60.out
        by_cases hlt : m < n3
        · obtain ⟨b, off, rfl, hr⟩ := HD.out.at hlt
          have hrm := hr m hlt
          clear hr
          generalize x3.getD m z5 = d at hrm
          have HR := Lib.hid hrm; have HC := Lib.hid (range_lt hrm)
          clear hrm
          have i1 : (0 : Int) ≤ (m : Int) := by omega
          have i2 : (m : Int) < (n3 : Int) := by omega
          have c3 : (vals d.l)[3]? = some (.int .i64 d.d) := rfl
          have c4 : (vals d.l)[4]? = some (.int .i64 d.s) := rfl
          by_cases y1 : d.d ≤ 3000
          rotate_left
          · have e1 : decide (d.d ≤ 3000) = false := by simpa using y1
            go_wp2_with (first
              | (with_reducible refine load_rng Tryz.underlying63 rfl (do_info _) _ rfl (range_below HR.out HK.out.bel HC.out) rfl rfl ?_)
              | (with_reducible refine alloc_f HK.out do_zero rfl rfl ?_; intro bd u hk; clear HK; have HK := Lib.hid hk; clear hk)
              | (with_reducible refine store_fr HK.out 0 (do_info _) (vals_all _) rfl rfl _ _ rfl rfl rfl rfl (Ho.le5 _ _) (Ho.putA _ _) ?_; intro u hk; simp only [List.set_cons_zero, List.set_cons_succ] at hk; clear HK; have HK := Lib.hid hk; clear hk)
              | (with_reducible refine load_f1 HK.out 0 cbI _ rfl rfl rfl rfl c3 ?_)
              | (with_reducible refine load_f1 HK.out 0 cbI _ rfl rfl rfl rfl c4 ?_)
              | (go_at_call 10; (with_reducible refine (awake_f _).mono ?_); rintro e u ⟨rfl, hb⟩; have hk := HK.out.call hb; clear hb; clear HK; have HK := Lib.hid hk; clear hk))
            go_ret
            exact ⟨rfl, HK.out.bel⟩
          have e1 : decide (d.d ≤ 3000) = true := by simpa using y1
          by_cases y2 : d.s ≤ 3000
          rotate_left
          · have e2 : decide (d.s ≤ 3000) = false := by simpa using y2
            go_wp2_with (first
              | (with_reducible refine load_rng Tryz.underlying63 rfl (do_info _) _ rfl (range_below HR.out HK.out.bel HC.out) rfl rfl ?_)
              | (with_reducible refine alloc_f HK.out do_zero rfl rfl ?_; intro bd u hk; clear HK; have HK := Lib.hid hk; clear hk)
              | (with_reducible refine store_fr HK.out 0 (do_info _) (vals_all _) rfl rfl _ _ rfl rfl rfl rfl (Ho.le5 _ _) (Ho.putA _ _) ?_; intro u hk; simp only [List.set_cons_zero, List.set_cons_succ] at hk; clear HK; have HK := Lib.hid hk; clear hk)
              | (with_reducible refine load_f1 HK.out 0 cbI _ rfl rfl rfl rfl c3 ?_)
              | (with_reducible refine load_f1 HK.out 0 cbI _ rfl rfl rfl rfl c4 ?_)
              | (go_at_call 10; (with_reducible refine (awake_f _).mono ?_); rintro e u ⟨rfl, hb⟩; have hk := HK.out.call hb; clear hb; clear HK; have HK := Lib.hid hk; clear hk))
            go_ret
            exact ⟨rfl, HK.out.bel⟩
          have e2 : decide (d.s ≤ 3000) = true := by simpa using y2
          by_cases y3 : -3000 ≤ d.d
          rotate_left
          · have e3 : decide (-3000 ≤ d.d) = false := by simpa using y3
            go_wp2_with (first
              | (with_reducible refine load_rng Tryz.underlying63 rfl (do_info _) _ rfl (range_below HR.out HK.out.bel HC.out) rfl rfl ?_)
              | (with_reducible refine alloc_f HK.out do_zero rfl rfl ?_; intro bd u hk; clear HK; have HK := Lib.hid hk; clear hk)
              | (with_reducible refine store_fr HK.out 0 (do_info _) (vals_all _) rfl rfl _ _ rfl rfl rfl rfl (Ho.le5 _ _) (Ho.putA _ _) ?_; intro u hk; simp only [List.set_cons_zero, List.set_cons_succ] at hk; clear HK; have HK := Lib.hid hk; clear hk)
              | (with_reducible refine load_f1 HK.out 0 cbI _ rfl rfl rfl rfl c3 ?_)
              | (with_reducible refine load_f1 HK.out 0 cbI _ rfl rfl rfl rfl c4 ?_)
              | (go_at_call 10; (with_reducible refine (awake_f _).mono ?_); rintro e u ⟨rfl, hb⟩; have hk := HK.out.call hb; clear hb; clear HK; have HK := Lib.hid hk; clear hk))
            go_ret
            exact ⟨rfl, HK.out.bel⟩
          have e3 : decide (-3000 ≤ d.d) = true := by simpa using y3
          by_cases y4 : -3000 ≤ d.s
          rotate_left
          · have e4 : decide (-3000 ≤ d.s) = false := by simpa using y4
            go_wp2_with (first
              | (with_reducible refine load_rng Tryz.underlying63 rfl (do_info _) _ rfl (range_below HR.out HK.out.bel HC.out) rfl rfl ?_)
              | (with_reducible refine alloc_f HK.out do_zero rfl rfl ?_; intro bd u hk; clear HK; have HK := Lib.hid hk; clear hk)
              | (with_reducible refine store_fr HK.out 0 (do_info _) (vals_all _) rfl rfl _ _ rfl rfl rfl rfl (Ho.le5 _ _) (Ho.putA _ _) ?_; intro u hk; simp only [List.set_cons_zero, List.set_cons_succ] at hk; clear HK; have HK := Lib.hid hk; clear hk)
              | (with_reducible refine load_f1 HK.out 0 cbI _ rfl rfl rfl rfl c3 ?_)
              | (with_reducible refine load_f1 HK.out 0 cbI _ rfl rfl rfl rfl c4 ?_)
              | (go_at_call 10; (with_reducible refine (awake_f _).mono ?_); rintro e u ⟨rfl, hb⟩; have hk := HK.out.call hb; clear hb; clear HK; have HK := Lib.hid hk; clear hk))
            go_ret
            exact ⟨rfl, HK.out.bel⟩
          have e4 : decide (-3000 ≤ d.s) = true := by simpa using y4
          have hN : -3000 ≤ d.d ∧ d.d ≤ 3000 := ⟨y3, y1⟩
          have hM := y2
          go_wp2_with (first
            | (with_reducible refine load_rng Tryz.underlying63 rfl (do_info _) _ rfl (range_below HR.out HK.out.bel HC.out) rfl rfl ?_)
            | (with_reducible refine alloc_f HK.out do_zero rfl rfl ?_; intro bd u hk; clear HK; have HK := Lib.hid hk; clear hk)
            | (with_reducible refine store_fr HK.out 0 (do_info _) (vals_all _) rfl rfl _ _ rfl rfl rfl rfl (Ho.le5 _ _) (Ho.putA _ _) ?_; intro u hk; simp only [List.set_cons_zero, List.set_cons_succ] at hk; clear HK; have HK := Lib.hid hk; clear hk)
            | (with_reducible refine load_f1 HK.out 0 cbI _ rfl rfl rfl rfl c3 ?_)
            | (with_reducible refine load_f1 HK.out 0 cbI _ rfl rfl rfl rfl c4 ?_)
            | (with_reducible refine load_fr HK.out 0 Tryz.underlying63 rfl (do_info _) _ rfl rfl rfl rfl (Ho.fall _) ?_)
            | (go_at_call 39; refine (step_any HQL.out HIV.out d hN hM 1 rfl HK.out).mono ?_; rintro e u ⟨E, qs', rfl, hq', hI', hk⟩; simp only [List.set_cons_zero, List.set_cons_succ] at hk; have HQ2 := Lib.hid hq'; have HI2 := Lib.hid hI'; clear hq' hI'; clear HK; have HK := Lib.hid hk; clear hk))
          go_roundw
          case rel => exact ⟨m + 1, by omega, by go_num, qs', HQ2.out, HI2.out, HK.out.tail⟩
          case measure => simp [intOf]; omega
        · obtain rfl : m = n3 := by omega
          obtain ⟨px, Ax, cx, hx⟩ : ∃ (px : Pf) (Ax : Option Addr) (cx : Nat), qs[k]? = some (px, Ax, cx) := ⟨_, _, _, List.getElem?_eq_getElem (by have := HQL.out; have := HK16.out; omega)⟩
          have hIx : Iv a0 m px := HIV.out _ (List.mem_of_getElem? hx)
          have HQF := Lib.hid (show ∀ x ∈ qs, x.1.full from fun x hx => (HIV.out x hx).full)
          have HXJ := Lib.hid hx
          have HX := Lib.hid (show px.full from hIx.full)
          obtain ⟨lo1, lo2⟩ := hIx.loose (by omega) HII.out HK16.out a5
          have hl0 := lokU HX.out k _ rfl _ rfl
          have hrs := fun w h => freserve_any px HX.out Ax cx k a5 9 w h
          have hv0 := fun A c w => vok (A := A) (c := c) HX.out (Iv.ok hIx (by omega) A c) w
          have HP1 := Lib.hid (resP_full HX.out k a5 9)
          have hvB := isB_iff.1 (sumN_isB (valL px.C))
          have hvv : viewN (px.fd none 0) = sumN (valL px.C) := (view_1 (f := px.fd none 0) hIx.k).1
          have hlB := looseP_isB px k
          have hu0 : looseU (px.fd none 0) k = freeN (upR px.C) k := by rw [looseU, if_pos (show (px.fd none 0).k = 1 from hIx.k)]; rfl
          rw [hu0] at hl0
          rw [hvv] at hv0
          by_cases zE : resPE px k a5 9 = 0
          · obtain ⟨q1, q2, q3, q4, q5, q6, q7, q8, q9, q10⟩ := lo2 zE
            have hl1 := lokU HP1.out k (freeN (upR px.C) k) (by rw [looseU, if_pos (show ((resP px k a5 9).fd none 0).k = 1 from by rw [show ((resP px k a5 9).fd none 0).k = (resP px k a5 9).k from rfl, resP, zE, toldP_0]; exact hIx.k)]; show freeN (upR (resP px k a5 9).C) k = _; rw [q10 0]) _ q2
            have hg3 := fun A c w h => fend_any (resP px k a5 9) HP1.out A c k (resPN px k a5 9) 3 w h
            have hg2 := fun A c w h => fend_any (resP px k a5 9) HP1.out A c k (resPN px k a5 9) 2 w h
            have HP2 := Lib.hid (endP_full HP1.out k (resPN px k a5 9) 3)
            have HP3 := Lib.hid (endP_full HP1.out k (resPN px k a5 9) 2)
            have hl2 := lokU HP2.out k _ rfl _ q4
            have hl3 := lokU HP3.out k _ rfl _ q6
            have hv3 := fun A c w => vok (A := A) (c := c) HP3.out (q9 A c) w
            have hvv3 : viewN ((endP (resP px k a5 9) k (resPN px k a5 9) 2).fd none 0) = sumN (valL px.C) - a5 := by rw [(view_1 (f := (endP (resP px k a5 9) k (resPN px k a5 9) 2).fd none 0) q8).1]; exact q7
            rw [hvv3] at hv3
            rw [q3] at hg3
            rw [q5] at hg2
            rw [zE] at hrs
            have s1 : IntKind.i64.wrap (looseP px k - a5) = looseP px k - a5 := wrapS (by
              unfold resPE at zE
              rw [if_pos hIx.k] at zE
              split at zE
              · cases zE
              · omega)
            have s2 : IntKind.i64.wrap (sumN (valL px.C) - a5) = sumN (valL px.C) - a5 := wrapS (by
              unfold resPE at zE
              rw [if_pos hIx.k] at zE
              split at zE
              · cases zE
              · omega)
            clear q1 q2 q3 q4 q5 q6 q7 q8 q9 q10 lo1 lo2 zE hvv hvv3 hlB hvB hu0 hIx hx
            generalize endP (resP px k a5 9) k (resPN px k a5 9) 3 = P2 at hg3 HP2 hl2
            generalize endP (resP px k a5 9) k (resPN px k a5 9) 2 = P3 at hg2 HP3 hl3 hv3
            generalize resP px k a5 9 = P1 at hrs HP1 hl1 hg3 hg2
            generalize resPN px k a5 9 = N1 at hrs hg3 hg2
            generalize looseP px k = lD at hl0 hl1 hl2 hl3 s1
            generalize freeN (upR px.C) k = lU at hl0 hl1
            generalize sumN (valL px.C) = vN at hv0 hv3 s2
            generalize viewE (px.fd none 0) = vE0 at hv0
            generalize viewE (P3.fd none 0) = vE3 at hv3
            generalize looseU (P2.fd none 0) k = U2 at hl2
            generalize looseU (P3.fd none 0) k = U3 at hl3
            go_wp2_with (first
              | (with_reducible refine load_rng Tryz.underlying33 rfl (Pf.infoF HX.out) _ rfl (HK.out.rgQ 0 rfl HQF.out HXJ.out) rfl rfl ?_)
              | (with_reducible refine alloc_f HK.out f_zeroP rfl rfl ?_; intro bz u hk; clear HK; have HK := Lib.hid hk; clear hk)
              | (with_reducible refine store_fr HK.out 0 (Pf.infoF HX.out) (Fd.one _) rfl rfl _ _ rfl rfl rfl rfl (Fd.leP zP_full HX.out) (Fd.setAllP zP_full HX.out) ?_; intro u hk; simp only [List.set_cons_zero, List.set_cons_succ] at hk; clear HK; have HK := Lib.hid hk; clear hk)
              | (with_reducible refine load_fr HK.out 0 Tryz.underlying33 rfl (Pf.infoF HX.out) _ rfl rfl rfl rfl Pf.all ?_)
              | (go_at_call 13; (with_reducible refine (hl0 _ _ _ (HK.out.rowQ HXJ.out)).mono ?_); rintro e u ⟨rfl, hb⟩; have hk := HK.out.call hb; clear hb; clear HK; have HK := Lib.hid hk; clear hk)
              | (go_at_call 32; (with_reducible refine (hrs _ (HK.out.rowQ HXJ.out)).mono ?_); rintro e u ⟨B1, e1, rfl, hg, hb⟩; have hk := HK.out.got hb k (rws_at HXJ.out) hg; clear hg hb; clear HK; have HK := Lib.hid hk; clear hk)
              | (with_reducible refine store_fr HK.out 0 (Pf.infoF HP1.out) (Fd.one _) rfl rfl _ _ rfl rfl rfl rfl (Fd.leP zP_full HP1.out) (Fd.setAllP zP_full HP1.out) ?_; intro u hk; simp only [List.set_cons_zero, List.set_cons_succ] at hk; clear HK; have HK := Lib.hid hk; clear hk)
              | (with_reducible refine load_fr HK.out 0 Tryz.underlying33 rfl (Pf.infoF HP1.out) _ rfl rfl rfl rfl Pf.all ?_)
              | (go_at_call 13; (with_reducible refine (hl1 _ _ _ (HK.out.rowAt 0 rfl)).mono ?_); rintro e u ⟨rfl, hb⟩; have hk := HK.out.call hb; clear hb; clear HK; have HK := Lib.hid hk; clear hk)
              | (go_at_call 34; (with_reducible refine (hg3 _ _ _ (HK.out.rowAt 0 rfl)).mono ?_); rintro e u ⟨B2, e2, rfl, hg, hb⟩; have hk := HK.out.got hb 0 rfl hg; clear hg hb; clear HK; have HK := Lib.hid hk; clear hk)
              | (with_reducible refine store_fr HK.out 0 (Pf.infoF HP2.out) (Fd.one _) rfl rfl _ _ rfl rfl rfl rfl (Fd.leP zP_full HP2.out) (Fd.setAllP zP_full HP2.out) ?_; intro u hk; simp only [List.set_cons_zero, List.set_cons_succ] at hk; clear HK; have HK := Lib.hid hk; clear hk)
              | (with_reducible refine load_fr HK.out 1 Tryz.underlying33 rfl (Pf.infoF HP1.out) _ rfl rfl rfl rfl Pf.all ?_)
              | (go_at_call 34; (with_reducible refine (hg2 _ _ _ (HK.out.rowAt 1 rfl)).mono ?_); rintro e u ⟨B3, e3, rfl, hg, hb⟩; have hk := HK.out.got hb 1 rfl hg; clear hg hb; clear HK; have HK := Lib.hid hk; clear hk)
              | (with_reducible refine store_fr HK.out 0 (Pf.infoF HP3.out) (Fd.one _) rfl rfl _ _ rfl rfl rfl rfl (Fd.leP zP_full HP3.out) (Fd.setAllP zP_full HP3.out) ?_; intro u hk; simp only [List.set_cons_zero, List.set_cons_succ] at hk; clear HK; have HK := Lib.hid hk; clear hk)
              | (with_reducible refine load_fr HK.out 1 Tryz.underlying33 rfl (Pf.infoF HP2.out) _ rfl rfl rfl rfl Pf.all ?_)
              | (go_at_call 13; (with_reducible refine (hl2 _ _ _ (HK.out.rowAt 1 rfl)).mono ?_); rintro e u ⟨rfl, hb⟩; have hk := HK.out.call hb; clear hb; clear HK; have HK := Lib.hid hk; clear hk)
              | (with_reducible refine load_fr HK.out 3 Tryz.underlying33 rfl (Pf.infoF HX.out) _ rfl rfl rfl rfl Pf.all ?_)
              | (go_at_call 11; (with_reducible refine (hv0 _ _ _).mono ?_); rintro e u ⟨rfl, hb⟩; have hk := HK.out.call hb; clear hb; clear HK; have HK := Lib.hid hk; clear hk)
              | (with_reducible refine load_fr HK.out 0 Tryz.underlying33 rfl (Pf.infoF HP3.out) _ rfl rfl rfl rfl Pf.all ?_)
              | (go_at_call 11; (with_reducible refine (hv3 _ _ _).mono ?_); rintro e u ⟨rfl, hb⟩; have hk := HK.out.call hb; clear hb; clear HK; have HK := Lib.hid hk; clear hk)
              | (go_at_call 13; (with_reducible refine (hl3 _ _ _ (HK.out.rowAt 0 rfl)).mono ?_); rintro e u ⟨rfl, hb⟩; have hk := HK.out.call hb; clear hb; clear HK; have HK := Lib.hid hk; clear hk)
              | (go_at_call 10; (with_reducible refine (awake_f _).mono ?_); rintro e u ⟨rfl, hb⟩; have hk := HK.out.call hb; clear hb; clear HK; have HK := Lib.hid hk; clear hk))
            go_ret
            exact ⟨rfl, HK.out.bel⟩
          · have lo3 := lo1 zE
            clear lo1 lo2 hvv hlB hvB hu0 hv0 hIx hx
            have HL16 := Lib.hid (Pf.cH HX.out (A := Ax) (c := cx))
            generalize resP px k a5 9 = P1 at hrs HP1
            generalize resPN px k a5 9 = N1 at hrs
            generalize resPE px k a5 9 = E1 at hrs zE
            generalize looseP px k = lD at hl0 lo3
            generalize freeN (upR px.C) k = lU at hl0
            have dE : (E1 != 0) = true := by simpa using zE
            by_cases x1 : a5 < 0
            · have f1 : decide (a5 < 0) = true := by simpa using x1
              clear lo3
              go_wp2_with (first
                | (with_reducible refine load_rng Tryz.underlying33 rfl (Pf.infoF HX.out) _ rfl (HK.out.rgQ 0 rfl HQF.out HXJ.out) rfl rfl ?_)
                | (with_reducible refine alloc_f HK.out f_zeroP rfl rfl ?_; intro bz u hk; clear HK; have HK := Lib.hid hk; clear hk)
                | (with_reducible refine store_fr HK.out 0 (Pf.infoF HX.out) (Fd.one _) rfl rfl _ _ rfl rfl rfl rfl (Fd.leP zP_full HX.out) (Fd.setAllP zP_full HX.out) ?_; intro u hk; simp only [List.set_cons_zero, List.set_cons_succ] at hk; clear HK; have HK := Lib.hid hk; clear hk)
                | (with_reducible refine load_fr HK.out 0 Tryz.underlying33 rfl (Pf.infoF HX.out) _ rfl rfl rfl rfl Pf.all ?_)
                | (go_at_call 13; (with_reducible refine (hl0 _ _ _ (HK.out.rowQ HXJ.out)).mono ?_); rintro e u ⟨rfl, hb⟩; have hk := HK.out.call hb; clear hb; clear HK; have HK := Lib.hid hk; clear hk)
                | (go_at_call 32; (with_reducible refine (hrs _ (HK.out.rowQ HXJ.out)).mono ?_); rintro e u ⟨B1, e1, rfl, hg, hb⟩; have hk := HK.out.got hb k (rws_at HXJ.out) hg; clear hg hb; clear HK; have HK := Lib.hid hk; clear hk)
                | (with_reducible refine store_fr HK.out 0 (Pf.infoF HP1.out) (Fd.one _) rfl rfl _ _ rfl rfl rfl rfl (Fd.leP zP_full HP1.out) (Fd.setAllP zP_full HP1.out) ?_; intro u hk; simp only [List.set_cons_zero, List.set_cons_succ] at hk; clear HK; have HK := Lib.hid hk; clear hk)
                | (go_at_call 10; (with_reducible refine (awake_f _).mono ?_); rintro e u ⟨rfl, hb⟩; have hk := HK.out.call hb; clear hb; clear HK; have HK := Lib.hid hk; clear hk))
              go_ret
              exact ⟨rfl, HK.out.bel⟩
            · have f1 : decide (a5 < 0) = false := by simpa using x1
              by_cases x2 : lD < a5
              · have f2 : decide (lD < a5) = true := by simpa using x2
                clear lo3
                go_wp2_with (first
                  | (with_reducible refine load_rng Tryz.underlying33 rfl (Pf.infoF HX.out) _ rfl (HK.out.rgQ 0 rfl HQF.out HXJ.out) rfl rfl ?_)
                  | (with_reducible refine alloc_f HK.out f_zeroP rfl rfl ?_; intro bz u hk; clear HK; have HK := Lib.hid hk; clear hk)
                  | (with_reducible refine store_fr HK.out 0 (Pf.infoF HX.out) (Fd.one _) rfl rfl _ _ rfl rfl rfl rfl (Fd.leP zP_full HX.out) (Fd.setAllP zP_full HX.out) ?_; intro u hk; simp only [List.set_cons_zero, List.set_cons_succ] at hk; clear HK; have HK := Lib.hid hk; clear hk)
                  | (with_reducible refine load_fr HK.out 0 Tryz.underlying33 rfl (Pf.infoF HX.out) _ rfl rfl rfl rfl Pf.all ?_)
                  | (go_at_call 13; (with_reducible refine (hl0 _ _ _ (HK.out.rowQ HXJ.out)).mono ?_); rintro e u ⟨rfl, hb⟩; have hk := HK.out.call hb; clear hb; clear HK; have HK := Lib.hid hk; clear hk)
                  | (go_at_call 32; (with_reducible refine (hrs _ (HK.out.rowQ HXJ.out)).mono ?_); rintro e u ⟨B1, e1, rfl, hg, hb⟩; have hk := HK.out.got hb k (rws_at HXJ.out) hg; clear hg hb; clear HK; have HK := Lib.hid hk; clear hk)
                  | (with_reducible refine store_fr HK.out 0 (Pf.infoF HP1.out) (Fd.one _) rfl rfl _ _ rfl rfl rfl rfl (Fd.leP zP_full HP1.out) (Fd.setAllP zP_full HP1.out) ?_; intro u hk; simp only [List.set_cons_zero, List.set_cons_succ] at hk; clear HK; have HK := Lib.hid hk; clear hk)
                  | (go_at_call 10; (with_reducible refine (awake_f _).mono ?_); rintro e u ⟨rfl, hb⟩; have hk := HK.out.call hb; clear hb; clear HK; have HK := Lib.hid hk; clear hk))
                go_ret
                exact ⟨rfl, HK.out.bel⟩
              · have f2 : decide (lD < a5) = false := by simpa using x2
                have x3' : px.hs.length = 16 := by omega
                have hc16 : (px.fd Ax cx).cells[586]? = some (.slice Ax 16 cx) := by rw [HL16.out, x3']
                clear lo3 x3' HL16
                go_wp2_with (first
                  | (with_reducible refine load_rng Tryz.underlying33 rfl (Pf.infoF HX.out) _ rfl (HK.out.rgQ 0 rfl HQF.out HXJ.out) rfl rfl ?_)
                  | (with_reducible refine alloc_f HK.out f_zeroP rfl rfl ?_; intro bz u hk; clear HK; have HK := Lib.hid hk; clear hk)
                  | (with_reducible refine store_fr HK.out 0 (Pf.infoF HX.out) (Fd.one _) rfl rfl _ _ rfl rfl rfl rfl (Fd.leP zP_full HX.out) (Fd.setAllP zP_full HX.out) ?_; intro u hk; simp only [List.set_cons_zero, List.set_cons_succ] at hk; clear HK; have HK := Lib.hid hk; clear hk)
                  | (with_reducible refine load_fr HK.out 0 Tryz.underlying33 rfl (Pf.infoF HX.out) _ rfl rfl rfl rfl Pf.all ?_)
                  | (go_at_call 13; (with_reducible refine (hl0 _ _ _ (HK.out.rowQ HXJ.out)).mono ?_); rintro e u ⟨rfl, hb⟩; have hk := HK.out.call hb; clear hb; clear HK; have HK := Lib.hid hk; clear hk)
                  | (go_at_call 32; (with_reducible refine (hrs _ (HK.out.rowQ HXJ.out)).mono ?_); rintro e u ⟨B1, e1, rfl, hg, hb⟩; have hk := HK.out.got hb k (rws_at HXJ.out) hg; clear hg hb; clear HK; have HK := Lib.hid hk; clear hk)
                  | (with_reducible refine store_fr HK.out 0 (Pf.infoF HP1.out) (Fd.one _) rfl rfl _ _ rfl rfl rfl rfl (Fd.leP zP_full HP1.out) (Fd.setAllP zP_full HP1.out) ?_; intro u hk; simp only [List.set_cons_zero, List.set_cons_succ] at hk; clear HK; have HK := Lib.hid hk; clear hk)
                  | (with_reducible refine load_f1 HK.out 1 cbH _ rfl rfl rfl rfl hc16 ?_)
                  | (go_at_call 10; (with_reducible refine (awake_f _).mono ?_); rintro e u ⟨rfl, hb⟩; have hk := HK.out.call hb; clear hb; clear HK; have HK := Lib.hid hk; clear hk))
                go_ret
                exact ⟨rfl, HK.out.bel⟩

set_option maxRecDepth 100000 in
theorem lifted (os : Os) (started : os.Started) (H : Type) (enc : TypeId × Value → H) :
    ReturnsInHanded {} Tryz.checked os 8 .any (Rows.fieldLooseSpec.pre6 enc Tryz.prog Tryz.f8 Rows.fieldLooseRow.domain false) (Rows.fieldLooseSpec.post enc Tryz.prog Tryz.f8 false true false false) := by
  refine returnsInHanded_of_change (C := Tryz.checked) own started (by kernel_rfl) Tryz.func8
    (ChangeSpec.witness6 (enc := enc) (C := Tryz.checked) false ⟨#[], #[.int .i64 0, .int .i64 0, .int .i64 0, .slice none 0 0, .int .i64 0, .int .i64 0], []⟩ 12 (by kernel_rfl) (by kernel_rfl) (by kernel_rfl) (by kernel_rfl)) ?_
  intro W base args ds gs before hval0 hW hcnd _
  have hval : ∀ (j : Nat) t v, Tryz.f8.params[j]? = some t → args[j]? = some v → Value.okWide Tryz.prog W .any base t v := hval0
  have hW' := hW
  obtain ⟨p, q, hA0, hV, rfl, hfz, hnd⟩ := hW
  have hA : DataW.TrodAll enc Tryz.prog W 0 (fun _ => true) true Tryz.f8.params.toList args.toList ds p := hA0
  rw [Tryz.params8] at hA hval
  obtain ⟨v0, vs0, d0, ds0, q0, r0, hargs, rfl, rfl, h0, t0⟩ := trodAll_cons hA
  obtain ⟨v1, vs1, d1, ds1, q1, r1, rfl, rfl, rfl, h1, t1⟩ := trodAll_cons t0
  obtain ⟨v2, vs2, d2, ds2, q2, r2, rfl, rfl, rfl, h2, t2⟩ := trodAll_cons t1
  obtain ⟨v3, vs3, d3, ds3, q3, r3, rfl, rfl, rfl, h3, t3⟩ := trodAll_cons t2
  obtain ⟨v4, vs4, d4, ds4, q4, r4, rfl, rfl, rfl, h4, t4⟩ := trodAll_cons t3
  obtain ⟨v5, vs5, d5, ds5, q5, r5, rfl, rfl, rfl, h5, t5⟩ := trodAll_cons t4
  obtain ⟨rfl, rfl, rfl⟩ := trodAll_nil t5
  obtain rfl : args = #[v0, v1, v2, v3, v4, v5] := by cases args; simp_all
  obtain ⟨rfl, rfl⟩ := trodVars_none hV
  have k0 := h0
  have lt0 : ∀ x ∈ q0, x.block < W.heap.size := by obtain ⟨m, hm⟩ := k0; exact DataW.trod_lt m _ _ _ hm
  obtain ⟨a0, rfl, rfl, rfl, w0⟩ := open_int Tryz.underlying3 (hval 0 3 v0 rfl rfl) h0
  have k1 := h1
  have lt1 : ∀ x ∈ q1, x.block < W.heap.size := by obtain ⟨m, hm⟩ := k1; exact DataW.trod_lt m _ _ _ hm
  obtain ⟨a1, rfl, rfl, rfl, w1⟩ := open_int Tryz.underlying3 (hval 1 3 v1 rfl rfl) h1
  have k2 := h2
  have lt2 : ∀ x ∈ q2, x.block < W.heap.size := by obtain ⟨m, hm⟩ := k2; exact DataW.trod_lt m _ _ _ hm
  obtain ⟨a2, rfl, rfl, rfl, w2⟩ := open_int Tryz.underlying3 (hval 2 3 v2 rfl rfl) h2
  have k3 := h3
  have lt3 : ∀ x ∈ q3, x.block < W.heap.size := by obtain ⟨m, hm⟩ := k3; exact DataW.trod_lt m _ _ _ hm
  obtain ⟨A3, n3, c3, x3, rfl, hd3⟩ := open_steps (hval 3 60 v3 rfl rfl) h3
  have k4 := h4
  have lt4 : ∀ x ∈ q4, x.block < W.heap.size := by obtain ⟨m, hm⟩ := k4; exact DataW.trod_lt m _ _ _ hm
  obtain ⟨a4, rfl, rfl, rfl, w4⟩ := open_int Tryz.underlying3 (hval 4 3 v4 rfl rfl) h4
  have k5 := h5
  have lt5 : ∀ x ∈ q5, x.block < W.heap.size := by obtain ⟨m, hm⟩ := k5; exact DataW.trod_lt m _ _ _ hm
  obtain ⟨a5, rfl, rfl, rfl, w5⟩ := open_int Tryz.underlying3 (hval 5 3 v5 rfl rfl) h5
  clear hA0 hval0
  refine (walk W a0 w0 a1 w1 a2 w2 A3 n3 c3 x3 hd3 a4 w4 a5 w5).mono fun e W' ⟨he, bel⟩ => ?_
  subst he
  exact ⟨_, rfl, _, _, _, [], _, [], hW', trodAll_mk1 (shut_bool Tryz.underlying4 _), (trodAll_cons_mk (Below.trod laidOut (by kernel_rfl) (of_decide_eq_true (by kernel_rfl)) k0 bel lt0) (trodAll_cons_mk (Below.trod laidOut (by kernel_rfl) (of_decide_eq_true (by kernel_rfl)) k1 bel lt1) (trodAll_cons_mk (Below.trod laidOut (by kernel_rfl) (of_decide_eq_true (by kernel_rfl)) k2 bel lt2) (trodAll_cons_mk (Below.trod laidOut (by kernel_rfl) (of_decide_eq_true (by kernel_rfl)) k3 bel lt3) (trodAll_cons_mk (Below.trod laidOut (by kernel_rfl) (of_decide_eq_true (by kernel_rfl)) k4 bel lt4) (trodAll_cons_mk (Below.trod laidOut (by kernel_rfl) (of_decide_eq_true (by kernel_rfl)) k5 bel lt5) trodAll_mk0)))))), rfl, bel.frame _, fun h => by cases h⟩

theorem over : Rows.fieldLooseRow.holds Tryz.pinned (OpenSpec.ofChange Rows.fieldLooseSpec) :=
  OpenClaim.holds_of_wide 8 Tryz.f8 rfl rfl rfl rfl rfl rfl rfl ⟨rfl, rfl, rfl, rfl, rfl⟩ rfl rfl rfl rfl rfl (by kernel_rfl) Tryz.func8 (by kernel_rfl)
    (of_decide_eq_true (by kernel_rfl)) (by unfold Func.isWrapper; first | (rw [if_pos (by decide +kernel)]; kernel_rfl) | (rw [if_neg (by decide +kernel)]; exact ⟨rfl, rfl⟩))
    (fun os started H enc _ => lifted os started H enc)

theorem proved : Rows.FieldLooseSaid := over
#print axioms proved
end Go.Proofs.YtbaccghnneidgaaGreat.fieldLoose
