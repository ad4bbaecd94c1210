/- Rights (288 ints: Given, Used, then 16 rows of what each moved): the lists that they are, the cells that hold them, their parts, and what the operations on them do. Rights: when two are the same; a row of what was moved; rights that come in. Contracts of rights.told, rights.isReplica, rights.Give and the document's Give. Contracts of rights.Give and the document's Give. Contracts of rights.less, slices.Grow and slices.Concat of ints. Contracts of slices.Grow and slices.Concat of ints. A contract of rights.Free. A contract of rights.Free. Contracts of rights.Total, and the document's Free and Total. A contract of the document's Free. Aggregates that are filled with parts; rows of vectors; a contract of rights.vectors. A contract of rights.vectors.; Plain arithmetic of layer 3: what is free, and in all, of numbers that are not too great; what a change of one number does to it. No walk. -/
import Derived.Test.YtofngihdnjgmeaaGreatY01
import Derived.Test.YtofngihdnjgmeaaGreatY07
import Derived.Test.YtofngihdnjgmeaaGreatY09
import Derived.Laws.StructEq
import Derived.Lib.AppendZeros
import Derived.Deep.OwnRows
import Derived.WalkKit
import Derived.ProofKit
import Derived.Lib.Hide
import Derived.Deep.RegionHeld3
import Derived.Below
import Derived.Deep.MidRow
import Derived.Deep.QuietTactic
import Derived.BigQuiet
import Derived.Laws.OwnMore
import Derived.OpenShut
import Derived.ChangeOld
import Derived.Maps.AppendAt
import Derived.OwnWalk
import Derived.LoopTactic
import Derived.Defers
import Derived.Recover
import Derived.WalkSmall
import Derived.WalkMore
namespace Go.Proofs.YtofngihdnjgmeaaGreat
set_option maxRecDepth 100000
open Go.ChangeShapes Go.WideShapes Go.ChangeAt Go.RowKit

/-! ### Parts of a list. -/
/-! ### Blocks. -/
/-! ### Operations at a plain region's list. -/
/-! ### What the types are. -/
theorem r_info : (Tryz.prog.info? 26).map (·.size) = some 288 := by kernel_rfl
theorem m_info : (Tryz.prog.info? 24).map (·.size) = some 256 := by kernel_rfl
theorem v_zero : (Tryz.prog.info? 23).bind (·.zero) = some (.agg (vals (zer 16)).toArray) := by kernel_rfl
end Go.Proofs.YtofngihdnjgmeaaGreat

namespace Go.Proofs.YtofngihdnjgmeaaGreat
set_option maxRecDepth 100000
open Go.ChangeShapes Go.WideShapes Go.ChangeAt Go.RowKit

theorem part_row {P : Program} {e : TypeId} {d : TypeDesc} {m : Nat} (he : P.underlying e = some d) (hd : d.isRow = true) (hsz : ∀ w, (sizeOf e).run P w = .ok m w) (xs : List Int) (o : Nat) (w : World) :
    (part e (vals xs).toArray o).run P w = .ok (.agg (vals (seg xs o m)).toArray) w := by
  have ha : (isAgg e).run P w = .ok true w := by
    unfold isAgg
    rw [Sem.run_bind, run_underlying he w]
    cases d <;> simp_all
  simp [part, ha, hsz, vals_seg]

theorem all_chunks {n m : Nat} (hm : 0 < m) {xs ys : List Int} (hx : xs.length = n * m) (hy : ys.length = n * m) : ((List.range n).all fun i => seg xs (i * m) m == seg ys (i * m) m) = (xs == ys) := by
  rw [Bool.eq_iff_iff]
  simp only [List.all_eq_true, List.mem_range, beq_iff_eq]
  constructor
  · intro h
    refine ext_get (by omega) fun k hk => ?_
    have hlt : k / m < n := by rw [Nat.div_lt_iff_lt_mul hm]; omega
    have h1 := congrArg (fun l => l.getD (k % m) 0) (h (k / m) hlt)
    have h2 : k % m < m := Nat.mod_lt _ hm
    simp only [seg_get h2] at h1
    have e : k / m * m + k % m = k := by rw [Nat.mul_comm]; exact Nat.div_add_mod k m
    rwa [e] at h1
  · intro h i _; rw [h]

theorem run_equalIn_rows {P : Program} (w : World) (d : Nat) (t e : TypeId) (dd : TypeDesc) (n m : Nat) (hm : 0 < m) (ht : P.underlying t = some (.array n e)) (he : P.underlying e = some dd) (hd : dd.isRow = true) (hsz : ∀ w, (sizeOf e).run P w = .ok m w)
    (heq : ∀ xs ys : List Int, xs.length = m → ys.length = m → (Op.equalIn d e (.agg (vals xs).toArray) (.agg (vals ys).toArray)).run P w = .ok (xs == ys) w)
    (xs ys : List Int) (hx : xs.length = n * m) (hy : ys.length = n * m) :
    (Op.equalIn (d + 1) t (.agg (vals xs).toArray) (.agg (vals ys).toArray)).run P w = .ok (xs == ys) w := by
  rw [← all_chunks hm hx hy, List.range_eq_range', Op.equalIn]
  simp only [Sem.run_bind, run_underlying ht, Result.andThen_ok, hsz, Std.Legacy.Range.forIn_eq_forIn_range', Std.Legacy.Range.size, Nat.sub_zero, Nat.add_sub_cancel, Nat.div_one]
  have hl : ∀ i ∈ List.range' 0 n 1, i < n := fun i hi => by simpa using (List.mem_range'_1.1 hi).2
  generalize List.range' 0 n 1 = l at hl ⊢
  induction l with
  | nil => simp
  | cons i l ih =>
    have hi : i < n := hl i (by simp)
    have hb : i * m + m ≤ n * m := by rw [← Nat.succ_mul]; exact Nat.mul_le_mul_right m hi
    have px := part_row (m := m) he hd hsz xs (i * m) w
    have py := part_row (m := m) he hd hsz ys (i * m) w
    have pe := heq (seg xs (i * m) m) (seg ys (i * m) m) (seg_length (by omega)) (seg_length (by omega))
    simp only [List.forIn_cons, Sem.run_bind, px, py, pe, Result.andThen_ok, List.all_cons]
    cases hb : (seg xs (i * m) m == seg ys (i * m) m)
    · simp
    · simp only [Bool.not_true, Bool.false_eq_true, if_false, Sem.run_pure, Result.andThen_ok, Bool.true_and]
      exact ih fun j hj => hl j (by simp [hj])

theorem vec_size : ∀ w, (sizeOf 23).run Tryz.prog w = .ok 16 w := fun w => by kernel_rfl
theorem mov_size : ∀ w, (sizeOf 24).run Tryz.prog w = .ok 256 w := fun w => by kernel_rfl
theorem r_fields : (Tryz.prog.fieldsOf 26).toList.map (fun f => (f.type, f.offset, f.name)) = [(23, 0, "Given"), (23, 16, "Used"), (24, 32, "Moved")] := by kernel_rfl
theorem fields3 {fs : List Field} {x y z : TypeId × Nat × String} (h : fs.map (fun f => (f.type, f.offset, f.name)) = [x, y, z]) : ∃ f g k, fs = [f, g, k] ∧ (f.type, f.offset, f.name) = x ∧ (g.type, g.offset, g.name) = y ∧ (k.type, k.offset, k.name) = z := by
  match fs, h with
  | [f, g, k], h => exact ⟨f, g, k, rfl, by simpa using h⟩
theorem eqFields3 {P : Program} {w : World} {d : Nat} {xs ys : Array Value} {f g k : Field} {a1 b1 a2 b2 a3 b3 : Value} {r1 r2 r3 : Bool} (n1 : f.name ≠ "_") (n2 : g.name ≠ "_") (n3 : k.name ≠ "_")
    (p1 : (part f.type xs f.offset).run P w = .ok a1 w) (q1 : (part f.type ys f.offset).run P w = .ok b1 w) (e1 : (Op.equalIn d f.type a1 b1).run P w = .ok r1 w)
    (p2 : (part g.type xs g.offset).run P w = .ok a2 w) (q2 : (part g.type ys g.offset).run P w = .ok b2 w) (e2 : (Op.equalIn d g.type a2 b2).run P w = .ok r2 w)
    (p3 : (part k.type xs k.offset).run P w = .ok a3 w) (q3 : (part k.type ys k.offset).run P w = .ok b3 w) (e3 : (Op.equalIn d k.type a3 b3).run P w = .ok r3 w) :
    (Op.eqFields d xs ys [f, g, k]).run P w = .ok (r1 && (r2 && r3)) w := by
  cases r1 <;> cases r2 <;> cases r3 <;> simp [Op.eqFields, n1, n2, n3, p1, q1, e1, p2, q2, e2, p3, q3, e3]
theorem r_under : Tryz.prog.underlying 26 = some (.struct (Tryz.prog.fieldsOf 26)) := by kernel_rfl

theorem segs_same {R T : List Int} (hR : R.length = 288) (hT : T.length = 288) : ((seg R 0 16 == seg T 0 16) && ((seg R 16 16 == seg T 16 16) && (seg R 32 256 == seg T 32 256))) = (R == T) := by
  rw [Bool.eq_iff_iff]
  simp only [Bool.and_eq_true, beq_iff_eq]
  constructor
  · rintro ⟨h1, h2, h3⟩
    have e : ∀ R : List Int, R.length = 288 → R = seg R 0 16 ++ (seg R 16 16 ++ seg R 32 256) := fun R hR => by
      refine ext_get (by simp [seg]; omega) fun k hk => ?_
      simp only [seg, List.getD, List.getElem?_append, List.length_take, List.length_drop, List.getElem?_take, List.getElem?_drop]
      by_cases k1 : k < 16
      · simp [k1, show k < min 16 R.length by omega]
      · by_cases k2 : k < 32
        · simp [show ¬ k < min 16 R.length by omega, show k - min 16 R.length < min 16 (R.length - 16) by omega, show k - min 16 R.length < 16 by omega, show 16 + (k - min 16 R.length) = k by omega]
        · simp [show ¬ k < min 16 R.length by omega, show ¬ k - min 16 R.length < min 16 (R.length - 16) by omega, show k - min 16 R.length - min 16 (R.length - 16) < 256 by omega, show 32 + (k - min 16 R.length - min 16 (R.length - 16)) = k by omega]
    rw [e R hR, e T hT, h1, h2, h3]
  · rintro rfl; exact ⟨rfl, rfl, rfl⟩

theorem eql_r_any (d : Nat) (R T : List Int) (hR : R.length = 288) (hT : T.length = 288) (w : World) : (Op.equalIn (d + 4) 26 (.agg (vals R).toArray) (.agg (vals T).toArray)).run Tryz.prog w = .ok (R == T) w := by
  have hst := run_equalIn_struct (P := Tryz.prog) w (d + 3) 26 (vals R).toArray (vals T).toArray r_under (by kernel_rfl)
  have hv : ∀ xs ys : List Int, xs.length = 16 → ys.length = 16 → (Op.equalIn (d + 3) 23 (.agg (vals xs).toArray) (.agg (vals ys).toArray)).run Tryz.prog w = .ok (xs == ys) w := fun xs ys hx hy =>
    run_equalIn_ints w (d + 1) 23 3 16 Tryz.underlying23 Tryz.underlying3 int_size xs ys hx hy
  have hv' : ∀ xs ys : List Int, xs.length = 16 → ys.length = 16 → (Op.equalIn (d + 2) 23 (.agg (vals xs).toArray) (.agg (vals ys).toArray)).run Tryz.prog w = .ok (xs == ys) w := fun xs ys hx hy =>
    run_equalIn_ints w d 23 3 16 Tryz.underlying23 Tryz.underlying3 int_size xs ys hx hy
  have hm := run_equalIn_rows w (d + 2) 24 23 _ 16 16 (by omega) Tryz.underlying24 Tryz.underlying23 rfl vec_size hv'
    (seg R 32 256) (seg T 32 256) (seg_length (by omega)) (seg_length (by omega))
  have p := fun xs o => part_row (P := Tryz.prog) Tryz.underlying23 rfl vec_size xs o w
  have q := fun xs o => part_row (P := Tryz.prog) Tryz.underlying24 rfl mov_size xs o w
  obtain ⟨f, g, k, hf, e1, e2, e3⟩ := fields3 r_fields
  injection e1 with e1a e1; injection e1 with e1b e1c
  injection e2 with e2a e2; injection e2 with e2b e2c
  injection e3 with e3a e3; injection e3 with e3b e3c
  rw [hst, hf, ← segs_same hR hT]
  clear hst hf
  refine eqFields3 (by rw [e1c]; decide) (by rw [e2c]; decide) (by rw [e3c]; decide) (by rw [e1a, e1b]; exact p R 0) (by rw [e1a, e1b]; exact p T 0) (by rw [e1a]; exact hv _ _ (seg_length (by omega)) (seg_length (by omega)))
    (by rw [e2a, e2b]; exact p R 16) (by rw [e2a, e2b]; exact p T 16) (by rw [e2a]; exact hv _ _ (seg_length (by omega)) (seg_length (by omega)))
    (by rw [e3a, e3b]; exact q R 32) (by rw [e3a, e3b]; exact q T 32) (by rw [e3a]; exact hm)

/-- Row k of what was moved. -/
theorem index_row {M : List Int} (_hM : M.length = 256) {k : Nat} (hk : k < 16) (w : World) : (Instr.index 24 (.agg (vals M).toArray) (.int .i64 (k : Int))).run Tryz.prog w = .ok (.agg (vals (seg M (k * 16) 16)).toArray) w := by
  have hp := part_row (P := Tryz.prog) Tryz.underlying23 rfl vec_size M (k * 16) w
  simp [Instr.index, asIntOf, run_underlying Tryz.underlying24, hk, hp]
end Go.Proofs.YtofngihdnjgmeaaGreat

namespace Go.Proofs.YtofngihdnjgmeaaGreat
set_option maxRecDepth 100000
open Go.ChangeShapes Go.WideShapes Go.ChangeAt Go.RowKit

/-- Is this a replica? -/
def repB (k : Int) : Bool := decide (0 ≤ k) && decide (k < 16)
theorem repB_iff {k : Int} : repB k = true ↔ (0 ≤ k ∧ k < 16) := by simp [repB]
theorem repB_not {k : Int} : repB k = false ↔ (k < 0 ∨ 16 ≤ k) := by rw [← Bool.not_eq_true, repB_iff]; omega

theorem rep_any (k : Int) (w : World) : Calls Tryz.prog 153 #[.int .i64 k] w fun e w' => e = .returned (.bool (repB k)) ∧ w = w' := by
  by_cases h1 : 0 ≤ k
  · by_cases h2 : k < 16
    · rw [repB_iff.2 ⟨h1, h2⟩]
      go_enter Tryz.func153, Tryz.ntmps153
      go_wp2
      go_ret
      exact ⟨rfl, rfl⟩
    · rw [repB_not.2 (by omega)]
      go_enter Tryz.func153, Tryz.ntmps153
      go_wp2
      go_ret
      exact ⟨rfl, rfl⟩
  · rw [repB_not.2 (by omega)]
    go_enter Tryz.func153, Tryz.ntmps153
    go_wp2
    go_ret
    exact ⟨rfl, rfl⟩

end Go.Proofs.YtofngihdnjgmeaaGreat

namespace Go.Proofs.YtofngihdnjgmeaaGreat
set_option maxRecDepth 100000
open Go.ChangeShapes Go.WideShapes Go.ChangeAt Go.RowKit

end Go.Proofs.YtofngihdnjgmeaaGreat

namespace Go.Proofs.YtofngihdnjgmeaaGreat
set_option maxRecDepth 100000
open Go.ChangeShapes Go.WideShapes Go.ChangeAt Go.RowKit

/-- A number with its sign turned, as 64 bits bear it. -/
def ng (z : Int) : Int := wrap64 (-z)
def negs (zs : List Int) : List Int := zs.map ng
theorem negs_length (zs : List Int) : (negs zs).length = zs.length := by simp [negs]
theorem negs_get {zs : List Int} {k : Nat} (h : k < zs.length) : (negs zs).getD k 0 = ng (zs.getD k 0) := by simp [negs, List.getD, h]

theorem made_zero (n : Nat) : madeCells #[Value.int .i64 0] n = (vals (zer n)).toArray := by
  apply Array.ext
  · simp [madeCells, vals_length, zer_length]
  · intro i h1 h2
    simp only [madeCells, vals, zer]; simp [Nat.mod_one]
/-- A row of n zeros, made. -/
theorem make_ints {ops : Array Oper} {rest : List Oper} {o : Oper} {a : Act} {w u : World} {l : List (Nat × TypeId × List Int)} {Q : Exit → Act → World → Prop} (hk : KeepR w l u) (n : Nat) (hn : n ≤ 1048576)
    (hgd : o.guard = none) (x y : Operand) (ho : o.op = .makeSlice 159 x y) (hx : a.eval x = .int .i64 (n : Int)) (hy : a.eval y = .int .i64 (n : Int))
    (h : ∀ b u', KeepR w ((b, 3, zer n) :: l) u' → wpList Tryz.prog ops Q rest (a.put o.dst (.slice (some ⟨b, 0, none⟩) n n)) u') : wpList Tryz.prog ops Q (o :: rest) a u :=
  wpList_plain hgd fun K hK => by
    have e := run_make_row' (P := Tryz.prog) 159 3 (.int .i64 0) 8 Tryz.underlying159 int_info rfl .i64 .i64 n (by omega) (by omega) u
    rw [made_zero] at e
    unfold Oper.wp execOp
    simp only [ho, hx, hy, Sem.run_bind, Sem.run_pure, Result.andThen_ok, e]
    exact hK _ _ (h _ _ (hk.new rfl))

theorem less_any (b0 off cap len : Nat) (zs : List Int) (hlen : len ≤ 1000) (w : World) (hr : Reads w (some ⟨b0, off, none⟩) len zs) (h0 : 0 < len) :
    Calls Tryz.prog 156 #[.slice (some ⟨b0, off, none⟩) len cap] w fun e w' => ∃ b, e = .returned (.slice (some ⟨b, 0, none⟩) len len) ∧ KeepR w [(b, 3, negs zs)] w' := by
  obtain ⟨hl, hm, hx⟩ := hr
  have hc : ∀ i, i < len → w.cell? ⟨b0, off + i, none⟩ = some (.int .i64 (zs.getD i 0)) := by
    rcases hx with h | ⟨b, o, h, hc⟩
    · omega
    · injection h with h; injection h with h1 h2; subst h1; subst h2; exact hc
  clear hx hm
  have HL := Lib.hid hl; clear hl
  have HC := Lib.hid hc; clear hc
  have HK := Lib.hid (KeepR.start w)
  go_enter Tryz.func156, Tryz.ntmps156
  go_wp2_with (first
    | (with_reducible refine make_ints HK.out len (by omega) rfl _ _ rfl rfl rfl ?_; intro b u hk; clear HK; have HK := Lib.hid hk; clear hk))
  go_loopw [11] (fun i wr => ∃ k : Nat, k ≤ len ∧ i = .int .i64 k ∧ KeepR w [(b, 3, mix k (negs zs) (zer len))] wr) (fun i _ => len - (intOf i).toNat)
  case atStart => exact ⟨0, by omega, rfl, (mix_zero _ _).symm ▸ HK.out⟩
  case round =>
    obtain ⟨k, hk, rfl, hM⟩ := hrel
    clear HK
    have HM := Lib.hid hM
    clear hM
    have hml : (negs zs).length = (zer len).length := by rw [negs_length, zer_length, HL.out]
    by_cases hlt : k < len
    · have c0 := HC.out k hlt
      have hcell : wr.cell? ⟨b0, off + k, none⟩ = some (.int .i64 (zs.getD k 0)) := by rw [HM.out.bel.cell (cell_lt c0)]; exact c0
      have c1 := (HM.out.get 0 rfl).cell (k := k) (by rw [mix_length hml, zer_length]; omega)
      have f1 := (HM.out.get 0 rfl).frozen k
      have hm := mix_set (k := k) hml (by rw [zer_length]; omega)
      rw [negs_get (by rw [HL.out]; omega)] at hm
      generalize hz : zs.getD k 0 = z at hcell hm
      clear hz c0
      have Hm := Lib.hid hm; clear hm
      have i1 : (0 : Int) ≤ (k : Int) := by omega
      have i2 : (k : Int) < (len : Int) := by omega
      go_wp2
      go_roundw
      case rel =>
        refine ⟨k + 1, by omega, by go_num, ?_⟩
        have := HM.out.put 0 rfl ((HM.out.get 0 rfl).setCell k (ng z)) (fun j hj => heap_setCell_other wr ⟨b, k, none⟩ j _ hj) (HM.out.bel.setCell (p := ⟨b, k, none⟩) (HM.out.blk _ (List.mem_singleton_self _)).1 _)
        rw [Hm.out] at this
        exact this
      case measure => simp [intOf]; omega
    · have hM := HM.out
      rw [mix_all hml (by rw [zer_length]; omega)] at hM
      have HN := Lib.hid hM; clear hM HM
      go_wp2
      go_ret
      exact ⟨b, rfl, HN.out⟩
end Go.Proofs.YtofngihdnjgmeaaGreat

namespace Go.Proofs.YtofngihdnjgmeaaGreat
set_option maxRecDepth 100000
open Go.ChangeShapes Go.WideShapes Go.ChangeAt Go.RowKit

theorem own_base {w : World} {base : Nat} {e : TypeId} {s : Nat} {v : Value} {n : Nat} {xs : List Value} (h : w.ownsRow base e s v n xs) (k : Nat) (hk : v.ownBlock = some k) : base ≤ k := by
  rcases h.2 with ⟨rfl, _⟩ | ⟨g, cap, cur, rfl, hg, _⟩
  · simp [Value.ownBlock] at hk
  · simp [Value.ownBlock] at hk; omega
theorem own_below {w w' : World} {base : Nat} {e : TypeId} {s : Nat} {v : Value} {n : Nat} {xs : List Value} (h : w.ownsRow base e s v n xs) (hb : Below w.heap.size w w') : w'.ownsRow base e s v n xs := by
  refine ⟨h.1, ?_⟩
  rcases h.2 with ⟨h1, h2⟩ | ⟨g, cap, cur, h1, h2, h3, h4⟩
  · exact .inl ⟨h1, h2⟩
  · refine .inr ⟨g, cap, cur, h1, h2, ?_, h4⟩
    rw [hb.block g (Array.getElem?_eq_some_iff.1 h3).1]; exact h3

theorem sgrow_any (n : Nat) (h0 : 0 < n) (hn : n ≤ 100000) (w : World) :
    Calls Tryz.prog 167 #[.slice none 0 0, .int .i64 (n : Int)] w fun e w' => ∃ v, e = .returned v ∧ w'.ownsRow w.heap.size 3 1 v 0 (vals []) ∧ Below w.heap.size w w' := by
  obtain ⟨i0, hi0, hz0, hz1, hz2⟩ := info_parts int_info
  have hr := fun ty => Lib.run_append_nil_zeros (P := Tryz.prog) w 159 3 ty 3 i0 (.int .i64 0) .i64 .i64 Tryz.underlying159 Tryz.underlying3 hi0 hz0 n h0 (by omega) (by omega) (by rw [hz2]; omega)
  have hC1 := grownCap_ge w n 0 3
  have hC2 := grownCap_le_maxLen w n 0 3 (by simp only [maxLen]; omega)
  have hZ : (Builtin.zeroCells (Value.int .i64 0).cells n ++ Builtin.zeroCells (Value.int .i64 0).cells (grownCap w n 0 3 - n)).size = grownCap w n 0 3 * 1 := by
    simp [Builtin.zeroCells, Value.cells]; omega
  generalize grownCap w n 0 3 = C at *
  generalize (Builtin.zeroCells (Value.int .i64 0).cells n ++ Builtin.zeroCells (Value.int .i64 0).cells (C - n)) = Z at *
  have hs : ∀ W, (Instr.slice 159 (.slice (some ⟨w.heap.size, 0, none⟩) n C) none (some (.int .i64 0)) none).run Tryz.prog W = .ok (.slice (some ⟨w.heap.size, 0, none⟩) 0 C) W := fun W => by
    have := slice_high (some ⟨w.heap.size, 0, none⟩) n C 0 (by omega) W
    rw [if_neg (by omega)] at this
    simpa [Addr.add] using this
  have hown : (w.drew.alloc (.cells Z 3)).ownsRow w.heap.size 3 1 (.slice (some ⟨w.heap.size, 0, none⟩) 0 C) 0 (vals []) :=
    ⟨by simp [vals], .inr ⟨w.heap.size, C, Z, rfl, Nat.le_refl _, heap_alloc_new w.drew _, by omega, hC2, hZ, by simp [vals]⟩⟩
  have hbel : Below w.heap.size w (w.drew.alloc (.cells Z 3)) := (Below.refl w.heap.size w).drew.alloc (Nat.le_refl _) _
  have HO := Lib.hid hown; have HB := Lib.hid hbel; have HR := Lib.hid hr; have HZ := Lib.hid hZ
  clear hown hbel hr hZ hC2 hi0 hz0 hz1 hz2
  go_enter Tryz.func167, Tryz.ntmps167
  go_wp2_with (first
    | (refine Lib.wpList_append_run _ rfl _ _ _ _ rfl _ _ rfl rfl _ _ (HR.out _) ?_))
  go_ret
  exact ⟨_, rfl, HO.out, HB.out⟩

/-- Slices of ints, each with the numbers that it reads. -/
abbrev IntPart := Option Addr × Nat × Nat × List Int
def partN (L : List IntPart) : Nat := (L.map (·.2.1)).sum
def partL (L : List IntPart) : List Int := L.flatMap (·.2.2.2)
def PartsAt (w : World) (b : Nat) (L : List IntPart) : Prop := ∀ i x, L[i]? = some x → w.cell? ⟨b, i, none⟩ = some (.slice x.1 x.2.1 x.2.2.1) ∧ Reads w x.1 x.2.1 x.2.2.2
theorem partN_take {L : List IntPart} {k : Nat} {x : IntPart} (h : L[k]? = some x) : partN (L.take (k + 1)) = partN (L.take k) + x.2.1 := by
  simp [partN, List.take_add_one, h]
theorem partL_take {L : List IntPart} {k : Nat} {x : IntPart} (h : L[k]? = some x) : partL (L.take (k + 1)) = partL (L.take k) ++ x.2.2.2 := by
  simp [partL, List.take_add_one, h]
theorem partN_le {L : List IntPart} (k : Nat) : partN (L.take k) ≤ partN L := by
  conv => rhs; rw [← List.take_append_drop k L]
  simp only [partN, List.map_append, List.sum_append]; omega

theorem concat_any (b cap : Nat) (L : List IntPart) (hN : 0 < partN L) (hN2 : partN L ≤ 1000) (hm : L.length ≤ 1000) (w : World) (hp : PartsAt w b L) :
    Calls Tryz.prog 155 #[.slice (some ⟨b, 0, none⟩) L.length cap] w fun e w' => ∃ A c, e = .returned (.slice A (partN L) c) ∧ Reads w' A (partN L) (partL L) ∧ Below w.heap.size w w' := by
  have HP := Lib.hid hp; clear hp
  generalize hm' : L.length = m at hm
  have HL := Lib.hid hm'; clear hm'
  have HT := Lib.hid (fun k : Nat => partN_le (L := L) k)
  go_enter Tryz.func155, Tryz.ntmps155
  go_wp2
  go_loop [3, 11] (fun s i => ∃ k : Nat, k ≤ m ∧ i = .int .i64 k ∧ s = .int .i64 (partN (L.take k) : Int)) (fun _ i => m - (intOf i).toNat)
  case atStart => exact ⟨0, by omega, rfl, by simp [partN]⟩
  case round =>
    obtain ⟨k, hk, rfl, rfl⟩ := hrel
    by_cases hlt : k < m
    · obtain ⟨x, hx⟩ : ∃ x, L[k]? = some x := ⟨_, List.getElem?_eq_getElem (by have := HL.out; omega)⟩
      obtain ⟨A, n, c, zs⟩ := x
      have hcell : w.cell? ⟨b, k, none⟩ = some (.slice A n c) := (HP.out k _ hx).1
      have hs : partN (L.take (k + 1)) = partN (L.take k) + n := partN_take hx
      have hle := HT.out (k + 1)
      have HS := Lib.hid hs
      rw [hs] at hle
      clear hx hs
      generalize partN (L.take k) = S at *
      have i1 : (0 : Int) ≤ (k : Int) := by omega
      have i2 : (k : Int) < (m : Int) := by omega
      go_wp2
      go_round
      case rel => exact ⟨k + 1, by omega, by go_num, by rw [HS.out]; go_num⟩
      case measure => simp [intOf]; omega
    · obtain rfl : k = m := by omega
      rw [show L.take k = L by rw [← HL.out]; exact List.take_length]
      have HO := Lib.hid True.intro
      go_wp2_with (first
        | (go_at_call 167; (with_reducible refine (sgrow_any (partN L) hN (by omega) _).mono ?_); rintro e u ⟨v0, rfl, ho, hb⟩; clear HO; have HO := Lib.hid ho; have HB := Lib.hid hb; clear ho hb))
      go_loopw [6, 27] (fun v i wr => ∃ j : Nat, j ≤ k ∧ i = .int .i64 j ∧ wr.ownsRow w.heap.size 3 1 v (partN (L.take j)) (vals (partL (L.take j))) ∧ Below w.heap.size w wr) (fun _ i _ => k - (intOf i).toNat)
      case atStart => exact ⟨0, by omega, rfl, by simpa [partN, partL] using HO.out, HB.out⟩
      case round =>
        obtain ⟨j, hj, rfl, ho, hb⟩ := hrel
        clear HO HB
        have HO := Lib.hid ho; have HB := Lib.hid hb
        clear ho hb
        by_cases hlt : j < k
        · obtain ⟨x, hx⟩ : ∃ x, L[j]? = some x := ⟨_, List.getElem?_eq_getElem (by have := HL.out; omega)⟩
          obtain ⟨A, n, c, zs⟩ := x
          obtain ⟨h1, h2⟩ := HP.out j _ hx
          have hcell : wr.cell? ⟨b, j, none⟩ = some (.slice A n c) := by rw [HB.out.cell (cell_lt h1)]; exact h1
          have HR := Lib.hid (reads_below HB.out h2)
          have hs : partN (L.take (j + 1)) = partN (L.take j) + n := partN_take hx
          have hq : partL (L.take (j + 1)) = partL (L.take j) ++ zs := partL_take hx
          have hle := HT.out (j + 1)
          have HS := Lib.hid hs
          have HQ := Lib.hid hq
          rw [hs] at hle
          clear hx hs hq h1 h2
          have i1 : (0 : Int) ≤ (j : Int) := by omega
          have i2 : (j : Int) < (k : Int) := by omega
          go_wp2_with (first
            | (refine wpList_append_ints rfl _ _ rfl w.heap.size _ (partN (L.take j)) (partL (L.take j)) rfl HO.out A n c zs rfl HR.out (by omega) HB.out.size ?_; intro v' w' ho hg hv; have HO' := Lib.hid ho; have HB' := Lib.hid (HB.out.grown hg HB.out.size (own_base HO.out)); clear ho hg hv))
          go_roundw
          case rel => exact ⟨j + 1, by omega, by go_num, by rw [HS.out, HQ.out]; exact HO'.out, HB'.out⟩
          case measure => simp [intOf]; omega
        · obtain rfl : j = k := by omega
          have ho := HO.out
          rw [show L.take j = L by rw [← HL.out]; exact List.take_length] at ho
          have HO := Lib.hid ho; clear ho
          go_wp2
          go_ret
          obtain ⟨A, c, hv⟩ := own_slice HO.out
          have h3 := HO.out
          rw [hv] at h3
          exact ⟨A, c, congrArg Ending.returned hv, (own_reads h3 (by omega)).1, HB.out⟩
end Go.Proofs.YtofngihdnjgmeaaGreat

namespace Go.Proofs.YtofngihdnjgmeaaGreat
set_option maxRecDepth 100000
open Go.ChangeShapes Go.WideShapes Go.ChangeAt Go.RowKit

/-! ### Rows of ints that are made, beside what is kept. -/
theorem set_one (f : Nat → Value) (v : Value) : (Array.map f (Array.range 1)).setIfInBounds 0 v = #[v] := by
  apply Array.ext
  · simp
  · intro i h1 h2
    have : i = 0 := by simp at h2; omega
    subst this
    simp
theorem run_build1 (z : Int) (u : World) : (Instr.buildSlice 159 1 #[(0, .int .i64 z)]).run Tryz.prog u = .ok (.slice (some ⟨u.heap.size, 0, none⟩) 1 1) (u.alloc (.cells (vals [z]).toArray 3)) := by
  obtain ⟨i0, hi0, hz0, hz1, hz2⟩ := info_parts int_info
  simp [Instr.buildSlice, run_underlying Tryz.underlying159, sizeOf, typeInfo, zeroValue, hi0, hz0, hz1, Instr.fill, Value.cells, newRow, newObj, vals, set_one]
  rfl
theorem wp_build1 {o : Oper} {a : Act} {w u : World} {l : List (Nat × TypeId × List Int)} {K : Act → World → Prop} {Q : Exit → Act → World → Prop} (hk : KeepR w l u) (x : Operand) (ho : o.op = .buildSlice 159 1 #[(0, x)]) {z : Int} (hx : a.eval x = .int .i64 z)
    (h : ∀ b u', KeepR w ((b, 3, [z]) :: l) u' → Below u.heap.size u u' → K (a.put o.dst (.slice (some ⟨b, 0, none⟩) 1 1)) u') : o.wp Tryz.prog a u K Q := by
  unfold Oper.wp execOp
  simp only [ho, List.map_toArray, List.map_cons, List.map_nil, hx, Sem.run_bind, Sem.run_pure, Result.andThen_ok, run_build1]
  exact h _ _ (hk.new rfl) (box u _ _).2
theorem build1 {ops : Array Oper} {rest : List Oper} {o : Oper} {a : Act} {w u : World} {l : List (Nat × TypeId × List Int)} {Q : Exit → Act → World → Prop} (hk : KeepR w l u) (hgd : o.guard = none) (x : Operand) (ho : o.op = .buildSlice 159 1 #[(0, x)]) {z : Int} (hx : a.eval x = .int .i64 z)
    (h : ∀ b u', KeepR w ((b, 3, [z]) :: l) u' → Below u.heap.size u u' → wpList Tryz.prog ops Q rest (a.put o.dst (.slice (some ⟨b, 0, none⟩) 1 1)) u') : wpList Tryz.prog ops Q (o :: rest) a u :=
  wpList_plain hgd fun _ hK => wp_build1 hk x ho hx fun b u' h1 h2 => hK _ _ (h b u' h1 h2)
theorem Blk.own {w : World} {base b : Nat} {zs : List Int} (h : Blk w b 3 zs) (hb : base ≤ b) {n : Nat} (hn : zs.length = n) (hm : n ≤ 1048576) : w.ownsRow base 3 1 (.slice (some ⟨b, 0, none⟩) n n) n (vals zs) :=
  ⟨by rw [vals_length, hn, Nat.mul_one], .inr ⟨b, n, _, rfl, hb, h, Nat.le_refl _, by simp only [maxLen]; omega, by simp [vals_length, hn], by simp [vals_length, hn, List.take_of_length_le]⟩⟩
theorem Blk.readsAll {w : World} {b : Nat} {t : TypeId} {zs : List Int} (h : Blk w b t zs) {n : Nat} (hl : zs.length = n) (hm : n ≤ 1048576) : Reads w (some ⟨b, 0, none⟩) n zs :=
  ⟨hl, by simp only [maxLen]; omega, .inr ⟨b, 0, rfl, fun i hi => by rw [Nat.zero_add]; exact h.cell (by omega)⟩⟩
theorem reads_seg {w : World} {b : Nat} {t : TypeId} {R : List Int} (h : Blk w b t R) {o n : Nat} (hr : o + n ≤ R.length) (hm : n ≤ 1048576) : Reads w (some ⟨b, o, none⟩) n (seg R o n) :=
  ⟨seg_length hr, by simp only [maxLen]; omega, .inr ⟨b, o, rfl, fun i hi => by rw [h.cell (by omega), seg_get hi]⟩⟩
theorem KeepR.grown {w u u' : World} {l : List (Nat × TypeId × List Int)} (h : KeepR w l u) {v : Value} {n : Nat} {xs : List Value} (ho : u.ownsRow w.heap.size 3 1 v n xs) (ht : ∀ x ∈ l, x.2.1 ≠ 3) (hg : u.grownBy u' v.ownBlock) : KeepR w l u' := by
  refine ⟨h.bel.grown hg h.bel.size (own_base ho), fun x hx => ⟨(h.blk x hx).1, ?_⟩, h.apart⟩
  have hb := (h.blk x hx).2
  refine (hg.block x.1 hb.lt fun e => ?_).trans hb
  rcases ho.2 with ⟨rfl, _⟩ | ⟨g, cap, cur, rfl, _, h3, _⟩
  · simp [Value.ownBlock] at e
  · simp only [Value.ownBlock, Option.some.injEq] at e
    unfold Blk at hb
    rw [e, h3] at hb
    injection hb with hb
    injection hb with _ hb
    exact ht x hx hb.symm
theorem own_apart {u u' : World} {base b : Nat} {t : TypeId} {R : List Int} {v : Value} {n : Nat} {xs : List Value} (ho : u.ownsRow base 3 1 v n xs) (hb : Blk u b t R) (ht : t ≠ 3) (hs : ∀ k, k ≠ b → u'.heap[k]? = u.heap[k]?) : u'.ownsRow base 3 1 v n xs := by
  refine ⟨ho.1, ?_⟩
  rcases ho.2 with ⟨h1, h2⟩ | ⟨g, cap, cur, h1, h2, h3, h4⟩
  · exact .inl ⟨h1, h2⟩
  · refine .inr ⟨g, cap, cur, h1, h2, ?_, h4⟩
    rw [hs g (fun e => ?_)]
    · exact h3
    · unfold Blk at hb
      rw [e, hb] at h3
      injection h3 with h3
      injection h3 with _ h3
      exact ht h3

/-! ### What is free. -/
/-- What the others moved to k. -/
def colL (R : List Int) (k : Nat) : List Int := (List.range 16).map fun j => R.getD (32 + j * 16 + k) 0
theorem colL_length (R : List Int) (k : Nat) : (colL R k).length = 16 := by simp [colL]
theorem colL_get {R : List Int} {k j : Nat} (h : j < 16) : (colL R k).getD j 0 = R.getD (32 + j * 16 + k) 0 := by simp [colL, List.getD, h]
/-- What is added up for what is free at k. -/
def fl (R : List Int) (k : Nat) : List Int := (R.getD k 0 :: colL R k) ++ (negs [R.getD (16 + k) 0] ++ negs (seg R (32 + k * 16) 16))
def freeN (R : List Int) (k : Int) : Int := if repB k then sumN (fl R k.toNat) else 0
def freeE (R : List Int) (k : Int) : Int := if repB k then sumE (fl R k.toNat) else 1
theorem free_no {R : List Int} {k : Int} (h : repB k = false) : freeN R k = 0 ∧ freeE R k = 1 := by simp [freeN, freeE, h]
theorem free_yes {R : List Int} {k : Nat} (h : k < 16) : freeN R k = sumN (fl R k) ∧ freeE R k = sumE (fl R k) := by
  have : repB (k : Int) = true := repB_iff.2 (by omega)
  simp [freeN, freeE, this]

theorem parts3 {u : World} {A B C : Option Addr} {n m p c d e : Nat} {xs ys zs : List Int} (h1 : Reads u A n xs) (h2 : Reads u B m ys) (h3 : Reads u C p zs) : PartsAt (u.alloc (.cells #[.slice A n c, .slice B m d, .slice C p e] 159)) u.heap.size [(A, n, c, xs), (B, m, d, ys), (C, p, e, zs)] := by
  have hb : Below u.heap.size u (u.alloc (.cells #[.slice A n c, .slice B m d, .slice C p e] 159)) := (Below.refl _ _).alloc (Nat.le_refl _) _
  have hh := heap_alloc_new u (.cells #[.slice A n c, .slice B m d, .slice C p e] 159)
  intro i x hx
  match i, hx with
  | 0, hx => simp only [List.getElem?_cons_zero, Option.some.injEq] at hx; subst hx; exact ⟨by rw [cell_of_row _ _ _ _ _ (0, 0) hh]; rfl, reads_below hb h1⟩
  | 1, hx => simp only [List.getElem?_cons_succ, List.getElem?_cons_zero, Option.some.injEq] at hx; subst hx; exact ⟨by rw [cell_of_row _ _ _ _ _ (0, 0) hh]; rfl, reads_below hb h2⟩
  | 2, hx => simp only [List.getElem?_cons_succ, List.getElem?_cons_zero, Option.some.injEq] at hx; subst hx; exact ⟨by rw [cell_of_row _ _ _ _ _ (0, 0) hh]; rfl, reads_below hb h3⟩
  | i + 3, hx => simp at hx

theorem set_three (f : Nat → Value) (x y z : Value) : (((Array.map f (Array.range 3)).setIfInBounds 0 x).setIfInBounds 1 y).setIfInBounds 2 z = #[x, y, z] := by
  apply Array.ext
  · simp
  · intro i h1 h2
    have : i = 0 ∨ i = 1 ∨ i = 2 := by simp at h2; omega
    rcases this with rfl | rfl | rfl <;> simp
theorem row_info : (Tryz.prog.info? 159).map (fun i => (i.zero, i.size, i.bytes)) = some (some (.slice none 0 0), 1, 24) := by kernel_rfl
theorem run_build3 (A B C : Option Addr) (n m p c d e : Nat) (u : World) : (Instr.buildSlice 199 3 #[(0, .slice A n c), (1, .slice B m d), (2, .slice C p e)]).run Tryz.prog u = .ok (.slice (some ⟨u.heap.size, 0, none⟩) 3 3) (u.alloc (.cells #[.slice A n c, .slice B m d, .slice C p e] 159)) := by
  obtain ⟨i0, hi0, hz0, hz1, hz2⟩ := info_parts row_info
  simp [Instr.buildSlice, run_underlying Tryz.underlying199, sizeOf, typeInfo, zeroValue, hi0, hz0, hz1, Instr.fill, Value.cells, newRow, newObj, set_three]
  rfl
theorem wp_build3 {o : Oper} {a : Act} {u : World} {K : Act → World → Prop} {Q : Exit → Act → World → Prop} (x y z : Operand) (ho : o.op = .buildSlice 199 3 #[(0, x), (1, y), (2, z)]) {A B C : Option Addr} {n m p c d e : Nat} {xs ys zs : List Int}
    (hx : a.eval x = .slice A n c) (hy : a.eval y = .slice B m d) (hz : a.eval z = .slice C p e) (h1 : Reads u A n xs) (h2 : Reads u B m ys) (h3 : Reads u C p zs)
    (h : ∀ b u', PartsAt u' b [(A, n, c, xs), (B, m, d, ys), (C, p, e, zs)] → Below u.heap.size u u' → K (a.put o.dst (.slice (some ⟨b, 0, none⟩) 3 3)) u') : o.wp Tryz.prog a u K Q := by
  unfold Oper.wp execOp
  simp only [ho, List.map_toArray, List.map_cons, List.map_nil, hx, hy, hz, Sem.run_bind, Sem.run_pure, Result.andThen_ok, run_build3]
  exact h _ _ (parts3 h1 h2 h3) ((Below.refl _ _).alloc (Nat.le_refl _) _)
end Go.Proofs.YtofngihdnjgmeaaGreat

namespace Go.Proofs.YtofngihdnjgmeaaGreat
set_option maxRecDepth 100000
open Go.ChangeShapes Go.WideShapes Go.ChangeAt Go.RowKit

set_option maxHeartbeats 1000000 in
theorem free_any (R : List Int) (hR : R.length = 288) (k : Int) (w : World) :
    Calls Tryz.prog 132 #[.agg (vals R).toArray, .int .i64 k] w fun e w' => e = .returned (.tuple #[.int .i64 (freeN R k), .int .i64 (freeE R k)]) ∧ Below w.heap.size w w' := by
  have HR := Lib.hid hR
  have HK := Lib.hid (KeepR.start w)
  cases hrep : repB k with
  | false =>
    obtain ⟨e1, e2⟩ := free_no (R := R) hrep
    rw [e1, e2]; clear e1 e2 hR
    go_enter Tryz.func132, Tryz.ntmps132
    go_wp2_with (first
      | (with_reducible refine box_new HK.out rfl _ rfl rfl ?_; intro b u hk hb; clear hb; clear HK; have HK := Lib.hid hk; clear hk)
      | (go_at_call 153; (with_reducible refine (rep_any _ _).mono ?_); rintro e u ⟨rfl, rfl⟩))
    go_ret2
    exact ⟨rfl, HK.out.bel⟩
  | true =>
    obtain ⟨j, rfl⟩ : ∃ j : Nat, k = j := ⟨k.toNat, by have := repB_iff.1 hrep; omega⟩
    have hj : j < 16 := by have := repB_iff.1 hrep; omega
    obtain ⟨e1, e2⟩ := free_yes (R := R) hj
    rw [e1, e2]; clear e1 e2
    have HC := Lib.hid (colL_length R j)
    have HQ := Lib.hid (show fl R j = (R.getD j 0 :: colL R j) ++ (negs [R.getD (16 + j) 0] ++ negs (seg R (32 + j * 16) 16)) from rfl)
    have i1 : (0 : Int) ≤ (j : Int) := by omega
    have i2 : (j : Int) < 16 := by omega
    clear hR
    have HO := Lib.hid True.intro
    go_enter Tryz.func132, Tryz.ntmps132
    go_wp2_with (first
      | (with_reducible refine box_new HK.out rfl _ rfl rfl ?_; intro b u hk hb; clear hb; have hc0 := (hk.get 0 rfl).cell (k := j) (by have := HR.out; omega); clear HK; have HK := Lib.hid hk; clear hk)
      | (go_at_call 153; (with_reducible refine (rep_any _ _).mono ?_); rintro e u ⟨rfl, rfl⟩)
      | (with_reducible refine build1 HK.out rfl _ rfl rfl ?_; intro b1 u hk hb; clear hb hc0; have ho := (hk.get 0 rfl).own (hk.blk _ (List.mem_cons_self ..)).1 (n := 1) rfl (by omega); clear HO; have HO := Lib.hid ho; clear ho; have hk1 := hk.tail; clear hk; have hk := hk1; clear hk1; clear HK; have HK := Lib.hid hk; clear hk)
      | (with_reducible refine load_part HK.out 0 256 Tryz.underlying24 rfl m_info rfl _ rfl rfl rfl (by have := HR.out; omega) ?_))
    go_loopw [6, 19] (fun v i wr => ∃ m : Nat, m ≤ 16 ∧ i = .int .i64 m ∧ KeepR w [(b, 26, R)] wr ∧ wr.ownsRow w.heap.size 3 1 v (1 + m) (vals (R.getD j 0 :: (colL R j).take m))) (fun _ i _ => 16 - (intOf i).toNat)
    case atStart => exact ⟨0, by omega, rfl, HK.out, by simpa using HO.out⟩
    case round =>
      obtain ⟨m, hm, rfl, hk, ho⟩ := hrel
      clear HK HO
      have HK := Lib.hid hk; have HO := Lib.hid ho
      clear hk ho
      by_cases hlt : m < 16
      · have hix : ∀ W : World, (Instr.index 24 (.agg (vals (seg R 32 256)).toArray) (.int .i64 (m : Int))).run Tryz.prog W = .ok (.agg (vals (seg (seg R 32 256) (m * 16) 16)).toArray) W := fun W => index_row (seg_length (by have := HR.out; omega)) hlt W
        have hrow : seg (seg R 32 256) (m * 16) 16 = seg R (32 + m * 16) 16 := seg_seg (by omega)
        rw [hrow] at hix
        clear hrow
        have hrl : (seg R (32 + m * 16) 16).length = 16 := seg_length (by have := HR.out; omega)
        have hrg : (seg R (32 + m * 16) 16).getD j 0 = (colL R j).getD m 0 := by rw [seg_get hj, colL_get hlt]
        have hst : (colL R j).take (m + 1) = (colL R j).take m ++ [(colL R j).getD m 0] := take_snoc (by rw [HC.out]; omega)
        generalize (colL R j).getD m 0 = x at hrg hst
        have HL := Lib.hid hrl; have HG := Lib.hid hrg; have HT := Lib.hid hst
        clear hrl hrg hst
        have j1 : (0 : Int) ≤ (m : Int) := by omega
        have j2 : (m : Int) < 16 := by omega
        go_wp2_with (first
          | (with_reducible refine alloc_zero HK.out 16 v_zero rfl rfl ?_; intro b u hn hk hb; clear hn; have ho := own_below HO.out hb; clear hb HO; have HO := Lib.hid ho; clear ho; clear HK; have HK := Lib.hid hk; clear hk)
          | (with_reducible refine store_all HK.out 0 16 vec_info rfl rfl _ _ rfl rfl rfl rfl HL.out (zer_length 16) ?_; intro u hk hs; have ho := own_apart HO.out (HK.out.get 0 rfl) (by decide) hs; clear HO hs; have HO := Lib.hid ho; clear ho; simp only [List.set_cons_zero] at hk; have hc1 := (hk.get 0 rfl).cell (k := j) (by rw [HL.out]; omega); rw [HG.out] at hc1; clear HK; have HK := Lib.hid hk; clear hk)
          | (with_reducible refine build1 HK.out rfl _ rfl rfl ?_; intro b1 u hk hb; clear hc1; have ho := own_below HO.out hb; clear hb HO; have HO := Lib.hid ho; clear ho; have HX := Lib.hid ((hk.get 0 rfl).readsAll (n := 1) rfl (by omega)); have hk1 := hk.tail.tail; clear hk; have hk := hk1; clear hk1; clear HK; have HK := Lib.hid hk; clear hk)
          | (refine wpList_append_ints rfl _ _ rfl w.heap.size _ (1 + m) (R.getD j 0 :: (colL R j).take m) rfl HO.out _ 1 1 [x] rfl HX.out (by omega) HK.out.bel.size ?_; intro v' u ho hg hv; have hk := HK.out.grown HO.out (by simp) hg; clear HO HX hg hv; have HO := Lib.hid ho; clear ho; clear HK; have HK := Lib.hid hk; clear hk))
        go_roundw
        case rel => exact ⟨m + 1, by omega, by go_num, HK.out, by have h3 := HO.out; rw [List.cons_append, ← HT.out] at h3; exact h3⟩
        case measure => simp [intOf]; omega
      · obtain rfl : m = 16 := by omega
        have ho := HO.out
        rw [show (colL R j).take 16 = colL R j by rw [← HC.out]; exact List.take_length] at ho
        obtain ⟨A, c, rfl⟩ := own_slice ho
        have HV := Lib.hid (own_reads ho (by omega)).1
        clear ho HO
        go_wp2_with fail
        refine Draws.start (S := fun u => KeepR w [(b, 26, R)] u ∧ Reads u A (1 + 16) (R.getD j 0 :: colL R j)) (n := 19) 19 rfl (by kernel_rfl) ?_
        have HS := Lib.hid ((⟨HK.out.drew, HV.out⟩ : (fun u => KeepR w [(b, 26, R)] u ∧ Reads u A (1 + 16) (R.getD j 0 :: colL R j)) wr.drew))
        refine Draws.take 0 (v := ?v0) HS.out rfl (by kernel_rfl) (fun _ _ _ h => h) (Or.inl ⟨rfl, ?h0⟩) ?r0
        case h0 => intro w' hw'; go_simp; (try with_reducible rfl)
        (try simp only [Act.put, List.setIfInBounds_toArray, List.set_cons_zero, List.set_cons_succ])
        refine Draws.take 1 (v := ?v1) HS.out rfl (by kernel_rfl) (fun _ _ _ h => h) (Or.inl ⟨rfl, ?h1⟩) ?r1
        case h1 => intro w' hw'; go_simp; (try with_reducible rfl)
        (try simp only [Act.put, List.setIfInBounds_toArray, List.set_cons_zero, List.set_cons_succ])
        refine Draws.take 2 (v := ?v2) HS.out rfl (by kernel_rfl) (fun _ _ _ h => h) (Or.inl ⟨rfl, ?h2⟩) ?r2
        case h2 => intro w' hw'; go_simp; (try with_reducible rfl)
        (try simp only [Act.put, List.setIfInBounds_toArray, List.set_cons_zero, List.set_cons_succ])
        refine Draws.take 3 (v := ?v3) HS.out rfl (by kernel_rfl) (fun _ _ _ h => h) (Or.inl ⟨rfl, ?h3⟩) ?r3
        case h3 => intro w' hw'; go_simp; (try with_reducible rfl)
        (try simp only [Act.put, List.setIfInBounds_toArray, List.set_cons_zero, List.set_cons_succ])
        refine Draws.take 4 (v := ?v4) HS.out rfl (by kernel_rfl) (fun _ _ _ h => h) (Or.inl ⟨rfl, ?h4⟩) ?r4
        case h4 => intro w' hw'; have hc := (hw'.1.get 0 rfl).cell (k := 16 + j) (by have := HR.out; omega); go_simp; (try with_reducible rfl)
        (try simp only [Act.put, List.setIfInBounds_toArray, List.set_cons_zero, List.set_cons_succ])
        refine Draws.take 7 (v := ?v7) HS.out rfl (by kernel_rfl) (fun _ _ _ h => h) (Or.inl ⟨rfl, ?h7⟩) ?r7
        case h7 => intro w' hw'; go_simp; (try with_reducible rfl)
        (try simp only [Act.put, List.setIfInBounds_toArray, List.set_cons_zero, List.set_cons_succ])
        refine Draws.take 8 (v := ?v8) HS.out rfl (by kernel_rfl) (fun _ _ _ h => h) (Or.inl ⟨rfl, ?h8⟩) ?r8
        case h8 => intro w' hw'; go_simp; (try with_reducible rfl)
        (try simp only [Act.put, List.setIfInBounds_toArray, List.set_cons_zero, List.set_cons_succ])
        refine Draws.take 9 (v := ?v9) HS.out rfl (by kernel_rfl) (fun _ _ _ h => h) (Or.inl ⟨rfl, ?h9⟩) ?r9
        case h9 => intro w' hw'; go_simp; (try with_reducible rfl)
        (try simp only [Act.put, List.setIfInBounds_toArray, List.set_cons_zero, List.set_cons_succ])
        refine Draws.take 10 (v := ?v10) HS.out rfl (by kernel_rfl) (fun _ _ _ h => h) (Or.inl ⟨rfl, ?h10⟩) ?r10
        case h10 => intro w' hw'; go_simp; (try with_reducible rfl)
        (try simp only [Act.put, List.setIfInBounds_toArray, List.set_cons_zero, List.set_cons_succ])
        refine Draws.does 5 rfl (by kernel_rfl) rfl (fun K hK => ?_)
        refine wp_build1 HS.out.1 _ rfl rfl ?_
        intro b1 u hk hb
        have HX := Lib.hid ((hk.get 0 rfl).readsAll (n := 1) rfl (by omega))
        refine hK.out _ _ (fun _ => ⟨HS.out.1.call hb, reads_below hb HS.out.2⟩) ?_
        clear hK K
        have hs : (fun u => KeepR w [(b, 26, R)] u ∧ Reads u A (1 + 16) (R.getD j 0 :: colL R j)) u := ⟨HS.out.1.call hb, reads_below hb HS.out.2⟩
        clear HS
        have HS := Lib.hid hs; clear hs
        (try simp only [Act.put, List.setIfInBounds_toArray, List.set_cons_zero, List.set_cons_succ])
        clear hk hb
        refine Draws.does 6 rfl (by kernel_rfl) rfl (fun K hK => ?_)
        go_simp
        go_at_call 156
        refine (less_any b1 0 1 1 _ (by omega) _ HX.out (by omega)).mono ?_
        rintro e u ⟨b2, rfl, hk⟩
        (try dsimp only)
        have hb := hk.bel
        have hx := (hk.get 0 rfl).readsAll (n := 1) rfl (by omega)
        clear HX
        have HX := Lib.hid hx; clear hx
        refine hK.out _ _ (fun _ => ⟨HS.out.1.call hb, reads_below hb HS.out.2⟩) ?_
        clear hK K
        have hs : (fun u => KeepR w [(b, 26, R)] u ∧ Reads u A (1 + 16) (R.getD j 0 :: colL R j)) u := ⟨HS.out.1.call hb, reads_below hb HS.out.2⟩
        clear HS
        have HS := Lib.hid hs; clear hs
        (try simp only [Act.put, List.setIfInBounds_toArray, List.set_cons_zero, List.set_cons_succ])
        clear hk hb
        refine Draws.does 11 rfl (by kernel_rfl) rfl (fun K hK => ?_)
        go_simp
        go_at_call 156
        refine (less_any b (32 + j * 16) 16 16 (seg R (32 + j * 16) 16) (by omega) _ (reads_seg (HS.out.1.get 0 rfl) (by have := HR.out; omega) (by omega)) (by omega)).mono ?_
        rintro e u ⟨b3, rfl, hk⟩
        (try dsimp only)
        have hb := hk.bel
        have HY := Lib.hid ((hk.get 0 rfl).readsAll (n := 16) (by rw [negs_length, seg_length (by have := HR.out; omega)]) (by omega))
        have hx := reads_below hb HX.out
        clear HX
        have HX := Lib.hid hx; clear hx
        refine hK.out _ _ (fun _ => ⟨HS.out.1.call hb, reads_below hb HS.out.2⟩) ?_
        clear hK K
        have hs : (fun u => KeepR w [(b, 26, R)] u ∧ Reads u A (1 + 16) (R.getD j 0 :: colL R j)) u := ⟨HS.out.1.call hb, reads_below hb HS.out.2⟩
        clear HS
        have HS := Lib.hid hs; clear hs
        (try simp only [Act.put, List.setIfInBounds_toArray, List.set_cons_zero, List.set_cons_succ])
        clear hk hb
        refine Draws.does 12 rfl (by kernel_rfl) rfl (fun K hK => ?_)
        refine wp_build3 _ _ _ rfl rfl rfl rfl HS.out.2 HX.out HY.out ?_
        intro b4 u hp hb
        have HP := Lib.hid hp
        clear hp
        refine hK.out _ _ (fun _ => ⟨HS.out.1.call hb, reads_below hb HS.out.2⟩) ?_
        clear hK K
        have hs : (fun u => KeepR w [(b, 26, R)] u ∧ Reads u A (1 + 16) (R.getD j 0 :: colL R j)) u := ⟨HS.out.1.call hb, reads_below hb HS.out.2⟩
        clear HS
        have HS := Lib.hid hs; clear hs
        (try simp only [Act.put, List.setIfInBounds_toArray, List.set_cons_zero, List.set_cons_succ])
        clear hb HX HY
        obtain ⟨L, hL⟩ : ∃ L : List IntPart, L = [(A, 1 + 16, c, R.getD j 0 :: colL R j), (some ⟨b2, 0, none⟩, 1, 1, negs [R.getD (16 + j) 0]), (some ⟨b3, 0, none⟩, 16, 16, negs (seg R (32 + j * 16) 16))] := ⟨_, rfl⟩
        have hp := HP.out
        change PartsAt _ b4 [(A, 1 + 16, c, R.getD j 0 :: colL R j), (some ⟨b2, 0, none⟩, 1, 1, negs [R.getD (16 + j) 0]), (some ⟨b3, 0, none⟩, 16, 16, negs (seg R (32 + j * 16) 16))] at hp
        rw [← hL] at hp
        clear HP
        have HP := Lib.hid hp; clear hp
        have e0 : partL L = fl R j := by rw [hL, HQ.out]; simp [partL]
        have e3 : partN L = 34 := by rw [hL]; rfl
        have e4 : 3 = L.length := by rw [hL]; rfl
        have HE := Lib.hid e0; have HN := Lib.hid e3; have HM := Lib.hid e4
        clear e0 e3 e4 hL
        have hcc := concat_any b4 3 L (by rw [HN.out]; omega) (by rw [HN.out]; omega) (by rw [← HM.out]; omega) _ HP.out
        rw [← HM.out, HN.out, HE.out] at hcc
        have HCC := Lib.hid hcc; clear hcc
        refine Draws.does 13 rfl (by kernel_rfl) rfl (fun K hK => ?_)
        go_simp
        go_at_call 155
        refine (HCC.out).mono ?_
        rintro e u ⟨A2, c2, rfl, hr, hb⟩
        (try dsimp only)
        have HX := Lib.hid hr
        refine hK.out _ _ (fun _ => ⟨HS.out.1.call hb, reads_below hb HS.out.2⟩) ?_
        clear hK K
        have hs : (fun u => KeepR w [(b, 26, R)] u ∧ Reads u A (1 + 16) (R.getD j 0 :: colL R j)) u := ⟨HS.out.1.call hb, reads_below hb HS.out.2⟩
        clear HS
        have HS := Lib.hid hs; clear hs
        (try simp only [Act.put, List.setIfInBounds_toArray, List.set_cons_zero, List.set_cons_succ])
        clear hr hb
        refine Draws.does 14 rfl (by kernel_rfl) rfl (fun K hK => ?_)
        go_simp
        go_at_call 154
        refine (sum_any A2 34 c2 (fl R j) _ HX.out).mono ?_
        rintro e u ⟨rfl, hb⟩
        (try dsimp only)
        refine hK.out _ _ (fun _ => ⟨HS.out.1.call hb, reads_below hb HS.out.2⟩) ?_
        clear hK K
        have hs : (fun u => KeepR w [(b, 26, R)] u ∧ Reads u A (1 + 16) (R.getD j 0 :: colL R j)) u := ⟨HS.out.1.call hb, reads_below hb HS.out.2⟩
        clear HS
        have HS := Lib.hid hs; clear hs
        (try simp only [Act.put, List.setIfInBounds_toArray, List.set_cons_zero, List.set_cons_succ])
        clear hb
        refine Draws.take 15 (v := ?v15) HS.out rfl (by kernel_rfl) (fun _ _ _ h => h) (Or.inl ⟨rfl, ?h15⟩) ?r15
        case h15 => intro w' hw'; go_simp; (try with_reducible rfl)
        (try simp only [Act.put, List.setIfInBounds_toArray, List.set_cons_zero, List.set_cons_succ])
        refine Draws.take 16 (v := ?v16) HS.out rfl (by kernel_rfl) (fun _ _ _ h => h) (Or.inl ⟨rfl, ?h16⟩) ?r16
        case h16 => intro w' hw'; go_simp; (try with_reducible rfl)
        (try simp only [Act.put, List.setIfInBounds_toArray, List.set_cons_zero, List.set_cons_succ])
        refine Draws.take 17 (v := ?v17) HS.out rfl (by kernel_rfl) (fun _ _ _ h => h) (Or.inl ⟨rfl, ?h17⟩) ?r17
        case h17 => intro w' hw'; go_simp; (try with_reducible rfl)
        (try simp only [Act.put, List.setIfInBounds_toArray, List.set_cons_zero, List.set_cons_succ])
        refine Draws.take 18 (v := ?v18) HS.out rfl (by kernel_rfl) (fun _ _ _ h => h) (Or.inl ⟨rfl, ?h18⟩) ?r18
        case h18 => intro w' hw'; go_simp; (try with_reducible rfl)
        (try simp only [Act.put, List.setIfInBounds_toArray, List.set_cons_zero, List.set_cons_succ])
        refine Draws.done (by kernel_rfl) ?_
        go_wp2
        go_ret2
        exact ⟨rfl, HS.out.1.bel⟩
end Go.Proofs.YtofngihdnjgmeaaGreat

namespace Go.Proofs.YtofngihdnjgmeaaGreat
set_option maxRecDepth 100000
open Go.ChangeShapes Go.WideShapes Go.ChangeAt Go.RowKit

end Go.Proofs.YtofngihdnjgmeaaGreat

namespace Go.Proofs.YtofngihdnjgmeaaGreat
set_option maxRecDepth 100000
open Go.ChangeShapes Go.WideShapes Go.ChangeAt Go.RowKit

end Go.Proofs.YtofngihdnjgmeaaGreat

namespace Go.Proofs.YtofngihdnjgmeaaGreat
set_option maxRecDepth 100000
open Go.ChangeShapes Go.WideShapes Go.ChangeAt Go.RowKit

theorem zip_splice : ∀ (zs Z : List Int) (off k : Nat), List.foldl (fun (cs : Array Value) (p : Value × Nat) => cs.setIfInBounds (off + p.2) p.1) (vals Z).toArray ((vals zs).zipIdx k) = (vals (splice Z (off + k) zs)).toArray
  | [], _, _, _ => rfl
  | z :: zs, Z, off, k => by
    have h := zip_splice zs (Z.set (off + k) z) off (k + 1)
    simp only [vals, List.map_cons, List.zipIdx_cons, List.foldl_cons, splice]
    have e : (Array.mk (List.map (Value.int .i64) Z)).setIfInBounds (off + k) (.int .i64 z) = (vals (Z.set (off + k) z)).toArray := by
      rw [← vals_set]; simp [vals]
    rw [e]
    exact h
theorem fold_splice (zs Z : List Int) (off : Nat) : (vals zs).toArray.zipIdx.foldl (fun cs x => match x with | (c, j) => cs.setIfInBounds (off + j) c) (vals Z).toArray = (vals (splice Z off zs)).toArray := by
  have := zip_splice zs Z off 0
  rw [Nat.add_zero] at this
  rw [← this]
  simp
theorem zero_rows (n m : Nat) (hm : 0 < m) : (Array.range (n * m)).map (fun i => (vals (zer m)).toArray[i % (vals (zer m)).toArray.size]!) = (vals (zer (n * m))).toArray := by
  apply Array.ext
  · simp [vals_length, zer_length]
  · intro i h1 h2
    have h3 : i % m < m := Nat.mod_lt _ hm
    simp [vals, zer, h3]
theorem vec_info3 : (Tryz.prog.info? 23).map (fun i => (i.zero, i.size, i.bytes)) = some (some (.agg (vals (zer 16)).toArray), 16, 128) := by kernel_rfl
theorem run_buildv2 (xs ys : List Int) (hx : xs.length = 16) (hy : ys.length = 16) (u : World) : (Instr.buildSlice 190 2 #[(0, .agg (vals xs).toArray), (1, .agg (vals ys).toArray)]).run Tryz.prog u = .ok (.slice (some ⟨u.heap.size, 0, none⟩) 2 2) (u.alloc (.cells (vals (splice (splice (zer 32) 0 xs) 16 ys)).toArray 23)) := by
  obtain ⟨i0, hi0, hz0, hz1, hz2⟩ := info_parts vec_info3
  have hzr := zero_rows 2 16 (by omega)
  have hf : Instr.fill (fun i => some (i * 16, 16)) ((Array.range (2 * 16)).map (fun i => (vals (zer 16)).toArray[i % (vals (zer 16)).toArray.size]!)) [(0, .agg (vals xs).toArray), (1, .agg (vals ys).toArray)] = some (vals (splice (splice (zer 32) 0 xs) 16 ys)).toArray := by
    rw [hzr]
    simp only [Instr.fill, Value.cells, List.size_toArray, vals_length, zer_length, hx, hy]
    rw [if_neg (by simp), fold_splice xs (zer (2 * 16)) (0 * 16)]
    simp only [List.size_toArray, vals_length, splice_length, zer_length]
    rw [if_neg (by simp), fold_splice ys _ (1 * 16)]
  simp [] at hf
  simp [Instr.buildSlice, run_underlying Tryz.underlying190, sizeOf, typeInfo, zeroValue, hi0, hz0, hz1, Value.cells, newRow, newObj, hf]
  rfl
end Go.Proofs.YtofngihdnjgmeaaGreat

namespace Go.Proofs.YtofngihdnjgmeaaGreat
set_option maxRecDepth 100000
open Go.ChangeShapes Go.WideShapes Go.ChangeAt Go.RowKit

theorem wp_buildv2 {o : Oper} {a : Act} {w u : World} {l : List (Nat × TypeId × List Int)} {K : Act → World → Prop} {Q : Exit → Act → World → Prop} (hk : KeepR w l u) (x y : Operand) (ho : o.op = .buildSlice 190 2 #[(0, x), (1, y)]) {xs ys : List Int} (hx : a.eval x = .agg (vals xs).toArray) (hy : a.eval y = .agg (vals ys).toArray) (lx : xs.length = 16) (ly : ys.length = 16)
    (h : ∀ b u', KeepR w ((b, 23, splice (splice (zer 32) 0 xs) 16 ys) :: l) u' → Below u.heap.size u u' → K (a.put o.dst (.slice (some ⟨b, 0, none⟩) 2 2)) u') : o.wp Tryz.prog a u K Q := by
  unfold Oper.wp execOp
  simp only [ho, List.map_toArray, List.map_cons, List.map_nil, hx, hy, Sem.run_bind, Sem.run_pure, Result.andThen_ok, run_buildv2 xs ys lx ly]
  exact h _ _ (hk.new rfl) (box u _ _).2
theorem KeepR.grownE {w u u' : World} {l : List (Nat × TypeId × List Int)} (h : KeepR w l u) {e : TypeId} {s : Nat} {v : Value} {n : Nat} {xs : List Value} (ho : u.ownsRow w.heap.size e s v n xs) (ht : ∀ x ∈ l, x.2.1 ≠ e) (hg : u.grownBy u' v.ownBlock) : KeepR w l u' := by
  refine ⟨h.bel.grown hg h.bel.size (own_base ho), fun x hx => ⟨(h.blk x hx).1, ?_⟩, h.apart⟩
  have hb := (h.blk x hx).2
  refine (hg.block x.1 hb.lt fun e => ?_).trans hb
  rcases ho.2 with ⟨rfl, _⟩ | ⟨g, cap, cur, rfl, _, h3, _⟩
  · simp [Value.ownBlock] at e
  · simp only [Value.ownBlock, Option.some.injEq] at e
    unfold Blk at hb
    rw [e, h3] at hb
    injection hb with hb
    injection hb with _ hb
    exact ht x hx hb.symm
/-- A row of vectors that grew by a part of a kept block. -/
theorem append_vecs {w u : World} {b1 b : Nat} {t : TypeId} {xs R : List Int} {o n m : Nat} (h1 : Blk u b1 23 xs) (hb : w.heap.size ≤ b1) (hx : xs.length = n * 16) (hR : Blk u b t R) (hr : o + m * 16 ≤ R.length) (hn : n + m ≤ 1000) (hbase : w.heap.size ≤ u.heap.size) (c : Nat) (ty : TypeId) :
    ∃ v' u', (Builtin.append_ #[190, 190] ty #[.slice (some ⟨b1, 0, none⟩) n n, .slice (some ⟨b, o, none⟩) m c]).run Tryz.prog u = .ok v' u' ∧ u'.ownsRow w.heap.size 23 16 v' (n + m) (vals (xs ++ seg R o (m * 16))) ∧ u.grownBy u' (some b1) ∧ u.ownsRow w.heap.size 23 16 (.slice (some ⟨b1, 0, none⟩) n n) n (vals xs) := by
  obtain ⟨i0, hi0, hz0, hz1, hz2⟩ := info_parts vec_info3
  have ho : u.ownsRow w.heap.size 23 16 (.slice (some ⟨b1, 0, none⟩) n n) n (vals xs) :=
    ⟨by rw [vals_length, hx], .inr ⟨b1, n, _, rfl, hb, h1, Nat.le_refl _, by simp only [maxLen]; omega, by simp [vals_length, hx], by simp [vals_length, hx, List.take_of_length_le]⟩⟩
  obtain ⟨v', u', h2, h3, h4, _, _⟩ := run_append_own_at (P := Tryz.prog) u w.heap.size 190 ty 23 i0 (.agg (vals (zer 16)).toArray) 16 128 Tryz.underlying190 hi0 hz0 hz1 hz2 rfl (by omega)
    _ n (vals xs) ho ⟨b, o, none⟩ m c (vals (seg R o (m * 16))) (by rw [vals_length, seg_length hr])
    (fun j v hv => by rw [Addr.add_mid]; exact hR.seg hr j v hv) (vals_one _) (by simp only [maxLen]; omega) (by omega) hbase
  exact ⟨v', u', h2, by rw [vals_append]; exact h3, h4, ho⟩
theorem own_range {w : World} {base : Nat} {e : TypeId} {v : Value} {n : Nat} {xs : List Int} (h : w.ownsRow base e 16 v n (vals xs)) (hn : 0 < n) : ∃ b c, v = .slice (some ⟨b, 0, none⟩) n c ∧ base ≤ b ∧ w.rangeAt b 0 (vals xs) := by
  rcases h.2 with ⟨_, h0⟩ | ⟨g, cap, cur, rfl, h2, _⟩
  · omega
  · refine ⟨g, cap, rfl, h2, fun j v hv => ?_⟩
    have hj : j < n * 16 := by rw [← h.1]; exact (List.getElem?_eq_some_iff.1 hv).1
    rw [Nat.zero_add, h.cellAt j hj]; exact hv
theorem range_seg {w : World} {b : Nat} {R : List Int} (h : w.rangeAt b 0 (vals R)) {o n : Nat} (hr : o + n ≤ R.length) : w.rangeAt b o (vals (seg R o n)) := fun j v hv => by
  obtain ⟨hj, rfl⟩ := vals_at hv
  rw [seg_length hr] at hj
  have := h (o + j) (.int .i64 (R.getD (o + j) 0)) (vals_get (by omega))
  rw [Nat.zero_add] at this
  rw [this, seg_get hj]
theorem two_segs {R : List Int} (hR : R.length = 288) : splice (splice (zer 32) 0 (seg R 0 16)) 16 (seg R 16 16) ++ seg R 32 (16 * 16) = R := by
  have l1 : (seg R 0 16).length = 16 := seg_length (by omega)
  have l2 : (seg R 16 16).length = 16 := seg_length (by omega)
  have l3 : (seg R 32 (16 * 16)).length = 256 := seg_length (by omega)
  have l4 : (splice (splice (zer 32) 0 (seg R 0 16)) 16 (seg R 16 16)).length = 32 := by rw [splice_length, splice_length, zer_length]
  refine ext_get (by rw [List.length_append, l4, l3, hR]) fun k hk => ?_
  rw [List.length_append, l4, l3] at hk
  by_cases h1 : k < 32
  · rw [List.getD, List.getElem?_append_left (by omega), ← List.getD, splice_get _ _ _ _ (by rw [splice_length, zer_length]; omega), splice_get _ _ _ _ (by rw [zer_length]; omega), l1, l2]
    by_cases h2 : k < 16
    · rw [if_neg (by omega), if_pos (by omega), seg_get (by omega)]; congr 1; omega
    · rw [if_pos (by omega), seg_get (by omega)]; congr 1; omega
  · rw [List.getD, List.getElem?_append_right (by omega), ← List.getD, l4, seg_get (by omega)]; congr 1; omega

set_option maxHeartbeats 1000000 in
theorem vectors_any (R : List Int) (hR : R.length = 288) (w : World) :
    Calls Tryz.prog 157 #[.agg (vals R).toArray] w fun e w' => ∃ b c, e = .returned (.slice (some ⟨b, 0, none⟩) 18 c) ∧ w'.rangeAt b 0 (vals R) ∧ Below w.heap.size w w' := by
  have H2 := Lib.hid (two_segs hR)
  have HR := Lib.hid hR; clear hR
  have HK := Lib.hid (KeepR.start w)
  go_enter Tryz.func157, Tryz.ntmps157
  go_wp2_with (first
    | (with_reducible refine box_new HK.out rfl _ rfl rfl ?_; intro b u hk hb; clear hb; clear HK; have HK := Lib.hid hk; clear hk))
  refine Draws.start (S := fun u => KeepR w [(b, 26, R)] u) (n := 9) 9 rfl (by kernel_rfl) ?_
  have HS := Lib.hid ((HK.out.drew : (fun u => KeepR w [(b, 26, R)] u) _))
  refine Draws.take 0 (v := ?v0) HS.out rfl (by kernel_rfl) (fun _ _ _ h => h) (Or.inl ⟨rfl, ?h0⟩) ?r0
  case h0 => intro w' hw'; go_simp; (try with_reducible rfl)
  (try simp only [Act.put, List.setIfInBounds_toArray, List.set_cons_zero, List.set_cons_succ])
  refine Draws.take 1 HS.out rfl (by kernel_rfl) (fun _ _ _ h => h) (yield_part (fun _ h => h) 0 16 Tryz.underlying23 rfl vec_info rfl _ rfl rfl rfl (by have := HR.out; omega)) ?_
  (try simp only [Act.put, List.setIfInBounds_toArray, List.set_cons_zero, List.set_cons_succ])
  refine Draws.take 2 (v := ?v2) HS.out rfl (by kernel_rfl) (fun _ _ _ h => h) (Or.inl ⟨rfl, ?h2⟩) ?r2
  case h2 => intro w' hw'; go_simp; (try with_reducible rfl)
  (try simp only [Act.put, List.setIfInBounds_toArray, List.set_cons_zero, List.set_cons_succ])
  refine Draws.take 3 HS.out rfl (by kernel_rfl) (fun _ _ _ h => h) (yield_part (fun _ h => h) 0 16 Tryz.underlying23 rfl vec_info rfl _ rfl rfl rfl (by have := HR.out; omega)) ?_
  (try simp only [Act.put, List.setIfInBounds_toArray, List.set_cons_zero, List.set_cons_succ])
  refine Draws.take 5 (v := ?v5) HS.out rfl (by kernel_rfl) (fun _ _ _ h => h) (Or.inl ⟨rfl, ?h5⟩) ?r5
  case h5 => intro w' hw'; go_simp; (try with_reducible rfl)
  (try simp only [Act.put, List.setIfInBounds_toArray, List.set_cons_zero, List.set_cons_succ])
  refine Draws.take 6 (v := ?v6) HS.out rfl (by kernel_rfl) (fun _ _ _ h => h) (Or.inl ⟨rfl, ?h6⟩) ?r6
  case h6 => intro w' hw'; go_simp; (try with_reducible rfl)
  (try simp only [Act.put, List.setIfInBounds_toArray, List.set_cons_zero, List.set_cons_succ])
  refine Draws.does 4 rfl (by kernel_rfl) rfl (fun K hK => ?_)
  refine wp_buildv2 HS.out _ _ rfl rfl rfl (seg_length (by have := HR.out; omega)) (seg_length (by have := HR.out; omega)) ?_
  intro b1 u hk hb
  have HX := Lib.hid hk
  refine hK.out _ _ (fun _ => hk.tail) ?_
  clear hK K
  have hs : (fun u => KeepR w [(b, 26, R)] u) u := hk.tail
  clear HS
  have HS := Lib.hid hs; clear hs
  (try simp only [Act.put, List.setIfInBounds_toArray, List.set_cons_zero, List.set_cons_succ])
  clear hk hb
  obtain ⟨v', u', h1, h2, h3, h4⟩ := append_vecs (w := w) (o := 32) (n := 2) (m := 16) (HX.out.get 0 rfl) (HX.out.blk _ (List.mem_cons_self ..)).1 (by rw [splice_length, splice_length, zer_length]) (HX.out.get 1 rfl) (by have := HR.out; omega) (by omega) HX.out.bel.size 16 190
  have hk := HS.out.grownE h4 (by simp) h3
  rw [H2.out] at h2
  have HA := Lib.hid h1; have HO := Lib.hid h2
  clear h1 h2 h3 h4 HX
  refine Draws.does 7 rfl (by kernel_rfl) rfl (fun K hK => ?_)
  refine Lib.wp_append_run _ _ _ _ _ rfl _ _ rfl rfl _ _ HA.out ?_
  refine hK.out _ _ (fun _ => hk) ?_
  clear hK K
  have hs : (fun u => KeepR w [(b, 26, R)] u) u' := hk
  clear HS
  have HS := Lib.hid hs; clear hs
  (try simp only [Act.put, List.setIfInBounds_toArray, List.set_cons_zero, List.set_cons_succ])
  clear hk
  refine Draws.take 8 (v := ?v8) HS.out rfl (by kernel_rfl) (fun _ _ _ h => h) (Or.inl ⟨rfl, ?h8⟩) ?r8
  case h8 => intro w' hw'; go_simp; (try with_reducible rfl)
  (try simp only [Act.put, List.setIfInBounds_toArray, List.set_cons_zero, List.set_cons_succ])
  refine Draws.done (by kernel_rfl) ?_
  go_wp2
  go_ret
  obtain ⟨b2, c, hv, _, hrg⟩ := own_range HO.out (by omega)
  exact ⟨b2, ⟨c, congrArg Ending.returned hv⟩, hrg, HS.out.bel⟩

/-- A row of vectors. -/
structure RowAt (u : World) (b : Nat) (R : List Int) : Prop where
  rng : u.rangeAt b 0 (vals R)
  lt : b < u.heap.size
theorem row_at {u : World} {b : Nat} {R : List Int} (h : u.rangeAt b 0 (vals R)) (hR : R.length = 288) : RowAt u b R :=
  ⟨h, cell_lt (a := ⟨b, 0 + 0, none⟩) (h 0 _ (vals_get (by omega)))⟩
theorem RowAt.call {u u' : World} {b : Nat} {R : List Int} (h : RowAt u b R) (hb : Below u.heap.size u u') : RowAt u' b R := ⟨range_below h.rng hb h.lt, Nat.lt_of_lt_of_le h.lt hb.size⟩
theorem RowAt.drew {u : World} {b : Nat} {R : List Int} (h : RowAt u b R) : RowAt u.drew b R := ⟨h.rng, h.lt⟩
theorem RowAt.other {u u' : World} {b b' : Nat} {R : List Int} (h : RowAt u b R) (hs : ∀ k, k ≠ b' → u'.heap[k]? = u.heap[k]?) (hne : b ≠ b') : RowAt u' b R := by
  have e := hs b hne
  refine ⟨fun j v hv => ?_, ?_⟩
  · have := h.rng j v hv
    simp only [World.cell?, e] at this ⊢
    exact this
  · have h1 := h.lt
    rcases Nat.lt_or_ge b u'.heap.size with h2 | h2
    · exact h2
    · rw [Array.getElem?_eq_none h2, Array.getElem?_eq_getElem h1] at e; cases e
theorem load_row {ops : Array Oper} {rest : List Oper} {o : Oper} {a : Act} {u : World} {Q : Exit → Act → World → Prop} {b : Nat} {R : List Int} (hk : RowAt u b R) (hgd : o.guard = none) (x : Operand) (ho : o.op = .load 23 x) {off : Nat} (hx : a.eval x = .pointer (some ⟨b, off, none⟩)) (hr : off + 16 ≤ R.length)
    (h : wpList Tryz.prog ops Q rest (a.put o.dst (.agg (vals (seg R off 16)).toArray)) u) : wpList Tryz.prog ops Q (o :: rest) a u :=
  wpList_load_mid hgd _ x ho b off hx _ _ (range_seg hk.rng hr) Tryz.underlying23 rfl (by rw [vals_length, seg_length hr]; exact vec_info) h
end Go.Proofs.YtofngihdnjgmeaaGreat

namespace Go.Proofs.YtofngihdnjgmeaaGreat
set_option maxRecDepth 100000
open Go.ChangeShapes Go.WideShapes Go.ChangeAt Go.RowKit

def sumF (f : Nat → Int) : Nat → Int
  | 0 => 0
  | n + 1 => sumF f n + f n
/-- What is free at k, whatever it comes to. -/
def V (f : Nat → Int) (k : Nat) : Int := f k + sumF (fun m => f (32 + m * 16 + k)) 16 - f (16 + k) - sumF (fun m => f (32 + k * 16 + m)) 16
/-! ### Sums that can be told. -/
theorem ng_small {z : Int} (h1 : -9223372036854775808 < z) (h2 : z ≤ 9223372036854775807) : ng z = -z := by unfold ng wrap64; omega
/-! ### What grows. -/
end Go.Proofs.YtofngihdnjgmeaaGreat
