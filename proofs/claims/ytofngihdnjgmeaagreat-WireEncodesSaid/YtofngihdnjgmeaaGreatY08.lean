/- Rows of holds: what append does to one, and what a literal and a slice expression make.; Rights (288 ints: Given, Used, then 16 rows of what each moved): the lists that they are, the cells that hold them, their parts, and what the operations on them do. Rights: when two are the same; a row of what was moved; rights that come in. Contracts of rights.told, rights.isReplica, rights.Give and the document's Give. Contracts of rights.Give and the document's Give. Contracts of rights.less, slices.Grow and slices.Concat of ints. Contracts of slices.Grow and slices.Concat of ints. A contract of rights.Free. A contract of rights.Free. Contracts of rights.Total, and the document's Free and Total. A contract of the document's Free. Aggregates that are filled with parts; rows of vectors; a contract of rights.vectors. A contract of rights.vectors.; A carrier's methods (layer 10), whatever its functions do with each part: vec, rights, counter, lock, numbers.; Layer 8 (octets) as plain data: the bytes of a number, and the number of bytes. No program is spoken of here.; Bytes in memory: slices that read as bytes, rows of the call's own, what append and a conversion make of them.; Contracts of the functions of octets that only read: num.Is, folded, unfolded, the closure of decoded, IndexFunc, joined, decoded; and of the document's Is.; Contracts of octets.coded, and of the document's Number (layer 8): the bytes of a number, in a row of the call's own.; Contracts of octets.Number, Text and New, of slices.Clone of bytes, and of the document's Text.; wire.putting: a carrier that puts each part behind bytes.; What the statements of layer 7 stand on: a slice of one field, Few, and awake.; Contracts of wire.putting and wire.Encode. -/
import Derived.Test.YtofngihdnjgmeaaGreatY01
import Derived.Test.YtofngihdnjgmeaaGreatY02
import Derived.Test.YtofngihdnjgmeaaGreatY04
import Derived.Test.YtofngihdnjgmeaaGreatY07
import Derived.Test.YtofngihdnjgmeaaGreatY09
import Derived.Test.YtofngihdnjgmeaaGreatY11
import Derived.Test.YtofngihdnjgmeaaGreatY12
import Derived.Test.YtofngihdnjgmeaaGreatY18
import Derived.Test.YtofngihdnjgmeaaGreatY21
import Derived.Test.YtofngihdnjgmeaaGreatY22A
import Derived.Test.YtofngihdnjgmeaaGreatY25
import Derived.Test.YtofngihdnjgmeaaGreatY26
import Derived.Test.YtofngihdnjgmeaaGreatY27A
import Derived.Test.YtofngihdnjgmeaaGreatY29
import Derived.Maps.AppendAt
import Derived.OwnWalk
import Derived.Laws.OwnMore
import Derived.WalkKit
import Derived.ProofKit
import Derived.OpenShut
import Derived.ChangeOld
import Derived.Deep.Slices
import Derived.ChangeSlices
import Derived.Laws.AppendOwn
import Derived.Lib.Hide
import Derived.Deep.RegionHeld3
import Derived.Below
import Derived.Deep.MidRow
import Derived.Deep.QuietTactic
import Derived.BigQuiet
import Derived.Laws.StructEq
import Derived.Lib.AppendZeros
import Derived.Deep.OwnRows
import Derived.LoopTactic
import Derived.Defers
import Derived.Recover
import Derived.WalkSmall
import Derived.WalkMore
import Derived.Lib.SliceRun
import Derived.Shelf.SlSortCmp.WholeK
import Derived.Shelf.SlSortCmp.NoneTotal
import Derived.Lib.AppendStr
import Derived.Laws.IdiomStrings
import Derived.Laws.Cover3
import Derived.Maps.OwnSet
import Derived.Maps.Views
namespace Go.Proofs.YtofngihdnjgmeaaGreat
set_option maxRecDepth 100000
open Go.ChangeShapes Go.WideShapes Go.ChangeAt Go.RowKit

/-- The document's and the program's own copy. -/
theorem Own.app {w u : World} {v : Value} {hs : List Ho} (h : KeepH w [] v ([] ++ hs) u) : KeepH w [] v hs u := h
end Go.Proofs.YtofngihdnjgmeaaGreat

namespace Go.Proofs.YtofngihdnjgmeaaGreat
set_option maxRecDepth 100000
open Go.ChangeShapes Go.WideShapes Go.ChangeAt Go.RowKit

/-! ### Parts of a list. -/
/-! ### Blocks. -/
/-! ### Operations at a plain region's list. -/
/-! ### What the types are. -/
end Go.Proofs.YtofngihdnjgmeaaGreat

namespace Go.Proofs.YtofngihdnjgmeaaGreat
set_option maxRecDepth 100000
open Go.ChangeShapes Go.WideShapes Go.ChangeAt Go.RowKit

end Go.Proofs.YtofngihdnjgmeaaGreat

namespace Go.Proofs.YtofngihdnjgmeaaGreat
set_option maxRecDepth 100000
open Go.ChangeShapes Go.WideShapes Go.ChangeAt Go.RowKit

end Go.Proofs.YtofngihdnjgmeaaGreat

namespace Go.Proofs.YtofngihdnjgmeaaGreat
set_option maxRecDepth 100000
open Go.ChangeShapes Go.WideShapes Go.ChangeAt Go.RowKit

end Go.Proofs.YtofngihdnjgmeaaGreat

namespace Go.Proofs.YtofngihdnjgmeaaGreat
set_option maxRecDepth 100000
open Go.ChangeShapes Go.WideShapes Go.ChangeAt Go.RowKit

end Go.Proofs.YtofngihdnjgmeaaGreat

namespace Go.Proofs.YtofngihdnjgmeaaGreat
set_option maxRecDepth 100000
open Go.ChangeShapes Go.WideShapes Go.ChangeAt Go.RowKit

end Go.Proofs.YtofngihdnjgmeaaGreat

namespace Go.Proofs.YtofngihdnjgmeaaGreat
set_option maxRecDepth 100000
open Go.ChangeShapes Go.WideShapes Go.ChangeAt Go.RowKit

/-! ### Rows of ints that are made, beside what is kept. -/
/-! ### What is free. -/
theorem parts2 {u : World} {A B : Option Addr} {n m c d : Nat} {xs ys : List Int} (h1 : Reads u A n xs) (h2 : Reads u B m ys) : PartsAt (u.alloc (.cells #[.slice A n c, .slice B m d] 159)) u.heap.size [(A, n, c, xs), (B, m, d, ys)] := by
  have hb : Below u.heap.size u (u.alloc (.cells #[.slice A n c, .slice B m d] 159)) := (Below.refl _ _).alloc (Nat.le_refl _) _
  have hh := heap_alloc_new u (.cells #[.slice A n c, .slice B m d] 159)
  intro i x hx
  match i, hx with
  | 0, hx => simp only [List.getElem?_cons_zero, Option.some.injEq] at hx; subst hx; exact ⟨by rw [cell_of_row _ _ _ _ _ (0, 0) hh]; rfl, reads_below hb h1⟩
  | 1, hx => simp only [List.getElem?_cons_succ, List.getElem?_cons_zero, Option.some.injEq] at hx; subst hx; exact ⟨by rw [cell_of_row _ _ _ _ _ (0, 0) hh]; rfl, reads_below hb h2⟩
  | i + 2, hx => simp at hx
end Go.Proofs.YtofngihdnjgmeaaGreat

namespace Go.Proofs.YtofngihdnjgmeaaGreat
set_option maxRecDepth 100000
open Go.ChangeShapes Go.WideShapes Go.ChangeAt Go.RowKit

end Go.Proofs.YtofngihdnjgmeaaGreat

namespace Go.Proofs.YtofngihdnjgmeaaGreat
set_option maxRecDepth 100000
open Go.ChangeShapes Go.WideShapes Go.ChangeAt Go.RowKit

end Go.Proofs.YtofngihdnjgmeaaGreat

namespace Go.Proofs.YtofngihdnjgmeaaGreat
set_option maxRecDepth 100000
open Go.ChangeShapes Go.WideShapes Go.ChangeAt Go.RowKit

end Go.Proofs.YtofngihdnjgmeaaGreat

namespace Go.Proofs.YtofngihdnjgmeaaGreat
set_option maxRecDepth 100000
open Go.ChangeShapes Go.WideShapes Go.ChangeAt Go.RowKit

end Go.Proofs.YtofngihdnjgmeaaGreat

namespace Go.Proofs.YtofngihdnjgmeaaGreat
set_option maxRecDepth 100000
open Go.ChangeShapes Go.WideShapes Go.ChangeAt Go.RowKit

end Go.Proofs.YtofngihdnjgmeaaGreat

namespace Go.Proofs.YtofngihdnjgmeaaGreat
set_option maxRecDepth 100000
open Go.ChangeShapes Go.WideShapes Go.ChangeAt Go.RowKit

/-! ### Cells of one function, or pointer. -/
theorem cwP : cellW 110 = true := by decide
theorem cwB : cellW 71 = true := by decide
theorem cwS : cellW 36 = true := by decide

/-! ### What stays. -/
/-! ### A carrier. -/
end Go.Proofs.YtofngihdnjgmeaaGreat

namespace Go.Proofs.YtofngihdnjgmeaaGreat.oct
set_option maxRecDepth 100000

theorem enc_pos (u : Nat) : 0 < (enc u).length := by
  by_cases h : u < 128
  · rw [enc_lt h]; simp
  · rw [enc_ge h]; simp
end Go.Proofs.YtofngihdnjgmeaaGreat.oct

namespace Go.Proofs.YtofngihdnjgmeaaGreat.oct
set_option maxRecDepth 100000
open Go.ChangeShapes Go.WideShapes Go.ChangeAt Go.RowKit

/-- append of a text's bytes. -/
theorem app_str {w : World} {ops : Array Oper} {rest : List Oper} {o : Oper} {a : Act} {Q : Exit → Act → World → Prop} {base : Nat} {v : Value} {l : List UInt8} (hown : Own w base v l) (hbase : base ≤ w.heap.size) (s : ByteArray) (hgd : o.guard = none) (y x : Operand)
    (ho : o.op = .call { callee := .builtin .append, args := #[y, x], argTypes := #[36, 9] }) (hs : a.eval y = v) (hx : a.eval x = .string s) (h63 : l.length + s.size ≤ 1048576)
    (h : ∀ v' w', Own w' base v' (l ++ s.data.toList) → w.grownBy w' v.ownBlock → wpList Tryz.prog ops Q rest (a.put o.dst v') w') : wpList Tryz.prog ops Q (o :: rest) a w :=
  wpList_plain hgd fun _ hK => by
    obtain ⟨i0, hi0, hz0, hz1, hz2⟩ := info_parts b_info
    obtain ⟨v', w', hrun, h2, h3, _⟩ := Lib.run_append_own_string (P := Tryz.prog) w base 36 9 o.type 5 i0 Tryz.underlying36 Tryz.underlying9 hi0 hz0 hz1 hz2 v l.length (bys l) hown s (by simp only [maxLen]; omega) (by omega) hbase
    unfold Oper.wp execOp
    simp only [ho, resolve, invoke, builtin, Sem.run_bind, Sem.run_pure, Result.andThen_ok, List.map_toArray, List.map_cons, List.map_nil, hs, hx, hrun]
    refine hK _ _ (h v' w' ?_ h3)
    unfold Own
    rw [List.length_append, bys_append]
    have e1 : s.data.toList.length = s.size := by simp
    rw [e1]
    exact h2
end Go.Proofs.YtofngihdnjgmeaaGreat.oct

namespace Go.Proofs.YtofngihdnjgmeaaGreat.oct
set_option maxRecDepth 100000
open Go.ChangeShapes Go.WideShapes Go.ChangeAt Go.RowKit

theorem folded_any (n : Int) (w : World) : Calls Tryz.prog 110 #[.int .i64 n] w fun e w' => e = .returned (.int .i64 (fold n : Int)) ∧ w = w' := by
  cases hb : isB n with
  | false =>
    rw [fold_no hb]
    go_enter Tryz.func110, Tryz.ntmps110
    go_wp2_with (first
      | (go_at_call 83; (with_reducible refine (is_eq _ _ hb _).mono ?_); rintro e u ⟨rfl, rfl⟩))
    go_ret
    exact ⟨rfl, rfl⟩
  | true =>
    have h2 := isB_iff.1 hb
    obtain ⟨h3, h4⟩ := h2
    by_cases h0 : n < 0
    · rw [fold_neg hb h0]
      go_enter Tryz.func110, Tryz.ntmps110
      go_wp2_with (first
        | (go_at_call 83; (with_reducible refine (is_eq _ _ hb _).mono ?_); rintro e u ⟨rfl, rfl⟩))
      go_ret
      exact ⟨rfl, rfl⟩
    · rw [fold_pos hb h0]
      go_enter Tryz.func110, Tryz.ntmps110
      go_wp2_with (first
        | (go_at_call 83; (with_reducible refine (is_eq _ _ hb _).mono ?_); rintro e u ⟨rfl, rfl⟩))
      go_ret
      exact ⟨rfl, rfl⟩
end Go.Proofs.YtofngihdnjgmeaaGreat.oct

namespace Go.Proofs.YtofngihdnjgmeaaGreat.oct
set_option maxRecDepth 100000
open Go.ChangeShapes Go.WideShapes Go.ChangeAt Go.RowKit

theorem app_text {w0 w : World} {ops : Array Oper} {rest : List Oper} {o : Oper} {a : Act} {Q : Exit → Act → World → Prop} {v : Value} {l : List UInt8} (hk : KO w0 v l w) (s : ByteArray) (hgd : o.guard = none) (y x : Operand)
    (ho : o.op = .call { callee := .builtin .append, args := #[y, x], argTypes := #[36, 9] }) (hs : a.eval y = v) (hx : a.eval x = .string s) (h63 : l.length + s.size ≤ 1048576)
    (h : ∀ v' w', KO w0 v' (l ++ s.data.toList) w' → wpList Tryz.prog ops Q rest (a.put o.dst v') w') : wpList Tryz.prog ops Q (o :: rest) a w :=
  app_str hk.own hk.bel.size s hgd y x ho hs hx h63 fun v' w' h2 h3 => h v' w' ⟨hk.bel.grown h3 hk.bel.size hk.own.base, h2⟩
theorem coded_any (n : Int) (w : World) :
    Calls Tryz.prog 61 #[.int .i64 n] w fun e w' => ∃ A c, (e = .returned (.slice A (enc (fold n)).length c) ∧ (enc (fold n)).length ≤ c) ∧ KO w (.slice A (enc (fold n)).length c) (enc (fold n)) w' := by
  have hf := folded_any n
  have hF := fold_lt n
  generalize fold n = F at hf hF ⊢
  have HK := Lib.hid (KO.start w)
  go_enter Tryz.func61, Tryz.ntmps61
  go_wp2_with (first
    | (go_at_call 110; (with_reducible refine (hf _).mono ?_); rintro e u ⟨rfl, rfl⟩))
  go_loopw [3, 4] (fun v i wr => ∃ (p : List UInt8) (x : Nat), x < 4398046511104 ∧ i = .int .i64 x ∧ p ++ enc x = enc F ∧ KO w v p wr) (fun _ i _ => (intOf i).toNat)
  case atStart => exact ⟨[], F, hF, rfl, rfl, HK.out⟩
  case round =>
    obtain ⟨p, x, hx, rfl, hp, hk⟩ := hrel
    clear HK
    have HK := Lib.hid hk; clear hk
    have HL := Lib.hid (small_len hp hF)
    have HP := Lib.hid hp; clear hp
    by_cases h1 : x < 128
    · have h1' : ¬ (128 : Int) ≤ (x : Int) := by omega
      have e1 : IntKind.u8.wrap (x : Int) = (x : Int) := by rw [IntKind.wrap_u8]; omega
      have HE := Lib.hid (show (x : Int) = ((UInt8.ofNat x).toNat : Int) by rw [of_small (by omega)])
      go_wp2_with (first
        | (refine app_one HK.out (UInt8.ofNat x) HE.out rfl _ _ rfl rfl rfl (by have := HL.out; omega) ?_; intro v' u hk; clear HK; have HK := Lib.hid hk; clear hk))
      go_ret
      have hk := HK.out
      rw [← enc_lt h1, HP.out] at hk
      exact hk.out
    · have h1' : (128 : Int) ≤ (x : Int) := by omega
      have e1 : (x : Int).tmod 128 = ((x % 128 : Nat) : Int) := by rw [Int.tmod_eq_emod_of_nonneg (by omega)]; omega
      have e2 : (x : Int).tdiv 128 = ((x / 128 : Nat) : Int) := by rw [Int.tdiv_eq_ediv_of_nonneg (by omega)]; omega
      have hq : x % 128 < 128 := by omega
      have HN := Lib.hid (enc_ge h1)
      have HQ := Lib.hid (show x / 128 < 4398046511104 ∧ x / 128 < x by omega)
      have hr : x / 128 < 4398046511104 := by omega
      have HE := Lib.hid (show ((x % 128 : Nat) : Int) + 128 = ((UInt8.ofNat (x % 128 + 128)).toNat : Int) by rw [of_small (by omega)]; omega)
      generalize x % 128 = q at *
      generalize x / 128 = r at *
      have e3 : IntKind.u8.wrap ((q : Int) + 128) = (q : Int) + 128 := by rw [IntKind.wrap_u8]; omega
      go_wp2_with (first
        | (refine app_one HK.out (UInt8.ofNat (q + 128)) HE.out rfl _ _ rfl rfl rfl (by have := HL.out; omega) ?_; intro v' u hk; clear HK; have HK := Lib.hid hk; clear hk))
      go_roundw
      case rel => exact ⟨p ++ [UInt8.ofNat (q + 128)], r, HQ.out.1, by go_num, by rw [← HP.out, HN.out]; simp, HK.out⟩
      case measure => have := HQ.out; simp [intOf]; omega
end Go.Proofs.YtofngihdnjgmeaaGreat.oct

namespace Go.Proofs.YtofngihdnjgmeaaGreat.oct
set_option maxRecDepth 100000
open Go.ChangeShapes Go.WideShapes Go.ChangeAt Go.RowKit

theorem KO.lift {w0 w w' : World} {v : Value} {l : List UInt8} (hb : Below w0.heap.size w0 w) (h : KO w v l w') : KO w0 v l w' := ⟨hb.trans (h.bel.mono hb.size), h.own.mono hb.size⟩
theorem parts2 {u : World} {A A2 : Option Addr} {c c2 k k2 : Nat} {l m : List UInt8} (hl : l.length = k) (hm : m.length = k2) (h1 : Bys u A l) (h2 : Bys u A2 m) : PartsAt (u.alloc (.cells #[.slice A k c, .slice A2 k2 c2] 36)) u.heap.size [(A, c, l), (A2, c2, m)] := by
  subst hl; subst hm
  have hh := heap_alloc_new u (.cells #[.slice A l.length c, .slice A2 m.length c2] 36)
  intro i x hx
  match i, hx with
  | 0, hx =>
    simp at hx; subst hx
    exact ⟨by rw [cell_of_row _ u.heap.size 0 _ 36 _ hh]; rfl, h1.below (below_new _ _)⟩
  | 1, hx =>
    simp at hx; subst hx
    exact ⟨by rw [cell_of_row _ u.heap.size 1 _ 36 _ hh]; rfl, h2.below (below_new _ _)⟩
  | n + 2, hx => simp at hx
theorem concat2 (b cap : Nat) (A A2 : Option Addr) (c c2 : Nat) (l m : List UInt8) (h0 : 0 < m.length) (h1 : l.length + m.length ≤ 100000) (w : World) (hp : PartsAt w b [(A, c, l), (A2, c2, m)]) :
    Calls Tryz.prog 60 #[.slice (some ⟨b, 0, none⟩) 2 cap] w (Makes w (l ++ m)) := by
  have e : partL [(A, c, l), (A2, c2, m)] = l ++ m := by simp [partL]
  have h := concat_any b cap [(A, c, l), (A2, c2, m)] (by rw [e, List.length_append]; omega) (by rw [e, List.length_append]; exact h1) (by simp) w hp
  rw [e] at h
  exact h
theorem number_any (A : Option Addr) (k c : Nat) (l : List UInt8) (n : Int) (hl : l.length = k) (hm : k ≤ 90000) (w : World) (hd : Bys w A l) :
    Calls Tryz.prog 26 #[.slice A k c, .int .i64 n] w (Makes w (l ++ enc (fold n))) := by
  have h6 := enc_six (fold_lt n)
  have h0 := enc_pos (fold n)
  have hc := coded_any n
  generalize enc (fold n) = E at *
  have HD := Lib.hid hd; have HL := Lib.hid hl
  clear hd hl
  have HK := Lib.hid True.intro
  go_enter Tryz.func26, Tryz.ntmps26
  go_wp2_with (first
    | (go_at_call 61; (with_reducible refine (hc _).mono ?_); rintro e u ⟨A2, c2, ⟨rfl, _⟩, hk⟩; clear HK; have HK := Lib.hid hk; clear hk)
    | (go_at_call 60; (refine (concat2 _ _ A A2 c c2 l E h0 (by rw [HL.out]; omega) _ (parts2 HL.out rfl (HD.out.below HK.out.bel) HK.out.own.bys)).mono ?_); rintro e u ⟨A3, c3, ⟨rfl, hc3⟩, hk⟩; have hk := hk.lift (HK.out.bel.trans ((below_new _ _).mono HK.out.bel.size)); clear HK; have HK := Lib.hid hk; have HC := Lib.hid hc3; clear hk hc3))
  go_ret
  exact ⟨A3, c3, ⟨by rw [List.length_append]; rfl, HC.out⟩, HK.out⟩
theorem text_any (A : Option Addr) (k c : Nat) (l : List UInt8) (s : ByteArray) (hl : l.length = k) (hm : k ≤ 90000) (hs : s.size ≤ 90000) (w : World) (hd : Bys w A l) :
    Calls Tryz.prog 65 #[.slice A k c, .string s] w (Makes w (l ++ enc (fold s.size) ++ s.data.toList)) := by
  have hn := number_any A k c l s.size hl hm w hd
  have h6 := enc_six (fold_lt s.size)
  have hE : (l ++ enc (fold s.size)).length ≤ 90006 := by rw [List.length_append]; omega
  generalize l ++ enc (fold s.size) = E at *
  have HE := Lib.hid hE
  clear hE h6 hd hl
  have HK := Lib.hid True.intro
  go_enter Tryz.func65, Tryz.ntmps65
  go_wp2_with (first
    | (go_at_call 26; (with_reducible refine hn.mono ?_); rintro e u ⟨A2, c2, ⟨rfl, _⟩, hk⟩; clear HK; have HK := Lib.hid hk; clear hk)
    | (refine app_text HK.out s rfl _ _ rfl rfl rfl (by have := HE.out; omega) ?_; intro v' u hk; clear HK; have HK := Lib.hid hk; clear hk))
  go_ret
  exact makes_of HK.out
end Go.Proofs.YtofngihdnjgmeaaGreat.oct

namespace Go.Proofs.YtofngihdnjgmeaaGreat
set_option maxRecDepth 100000
open Go.ChangeShapes Go.WideShapes Go.ChangeAt Go.RowKit

/-! ### What is kept. -/
section
variable {w0 w w' : World} {bf bb B1 B2 k : Nat} {vb v : Value} {s : List UInt8} {m : Mm}
/-- The row has grown. -/
theorem PK.app (h : PK w0 bf bb B1 B2 vb v k s m w) (hg : w.grownBy w' v.ownBlock) {v' : Value} {s' : List UInt8} {k' : Nat} (ho : oct.Own w' w0.heap.size v' s') (hr : s'.length + 6 * k' ≤ 80000) : PK w0 bf bb B1 B2 vb v' k' s' m w' :=
  ⟨h.bel.grown hg h.bel.size (fun k hk => h.own.base k hk), h.f.grown (by decide) h.own hg, h.b.grown (by decide) h.own hg, h.p1.grown (by decide) h.own hg, h.p2.grown (by decide) h.own hg, h.nb, ho, h.xl, h.hr, h.rc, hr, h.nm⟩
end
section
variable {ops : Array Oper} {rest : List Oper} {o : Oper} {a : Act} {u : World} {K : Act → World → Prop} {Q : Exit → Act → World → Prop}
theorem wp_store_b {bb : Nat} {vb : Value} (hc : Cel u bb 36 [vb]) (hd : o.dst = none) (x y : Operand) (ho : o.op = .store 36 x y) (hx : a.eval x = .pointer (some ⟨bb, 0, none⟩)) {A : Option Addr} {n c : Nat} (hy : a.eval y = .slice A n c)
    (h : K a (u.setCell ⟨bb, 0, none⟩ (.slice A n c))) : o.wp Tryz.prog a u K Q := by
  have h1 := hc.cell (k := 0) rfl
  have h2 := hc.frozen 0
  unfold Oper.wp execOp
  simp only [ho, hx, hy]
  simp [go_sem, h1, h2]
  simpa [hd, Act.put] using h
end
set_option maxHeartbeats 1000000 in
/-- A number is put. -/
theorem putw_any (w0 : World) (bf bb B1 B2 : Nat) (k : Nat) (s : List UInt8) (m : Mm) (z : Int) (w : World) (hJ : PJ w0 bf bb B1 B2 (k + 1) s m w) :
    Calls Tryz.prog 62 #[.int .i64 z, .pointer (some ⟨B1, 0, none⟩)] w fun e w' => e = .returned (.tuple #[]) ∧ PJ w0 bf bb B1 B2 k (s ++ oct.enc (oct.fold z)) m w' ∧ Keeps w w' := by
  obtain ⟨A, c, hk⟩ := hJ
  have HK := Lib.hid hk; clear hk
  have HQ := Lib.hid (Keeps.refl w)
  have h6 := oct.enc_six (oct.fold_lt z)
  have hnum := fun w => oct.number_any none 0 0 [] z rfl (by decide) w (oct.Bys.nil w none)
  simp only [List.nil_append] at hnum
  generalize oct.enc (oct.fold z) = E at hnum h6 ⊢
  generalize hR : s ++ E = R
  have HR := Lib.hid hR; clear hR
  have H6 := Lib.hid h6; clear h6
  go_enter Tryz.func62, Tryz.ntmps62
  go_wp2_with fail
  refine Draws.start (S := fun u => Cel u bb 36 [.slice A s.length c] ∧ Cel u B1 71 [.pointer (some ⟨bb, 0, none⟩)]) (n := 7) 9 rfl (by kernel_rfl) ?_
  have hk := HK.out.stay ((Below.refl _ _).drew)
  clear HK; have HK := Lib.hid hk; clear hk
  have hq := HQ.out.trans (Keeps.below ((Below.refl _ _).drew))
  clear HQ; have HQ := Lib.hid hq; clear hq
  have HS := Lib.hid (show (fun u => Cel u bb 36 [.slice A s.length c] ∧ Cel u B1 71 [.pointer (some ⟨bb, 0, none⟩)]) _ from ⟨HK.out.b, HK.out.p1⟩)
  refine Draws.take 0 HS.out rfl (by kernel_rfl) (fun _ _ _ h => h) (yield_w cwB (fun _ h => h.2.cell rfl) _ rfl rfl rfl) ?_
  (try simp only [Act.put, List.setIfInBounds_toArray, List.set_cons_zero, List.set_cons_succ])
  refine Draws.take 1 HS.out rfl (by kernel_rfl) (fun _ _ _ h => h) (yield_w cwB (fun _ h => h.2.cell rfl) _ rfl rfl rfl) ?_
  (try simp only [Act.put, List.setIfInBounds_toArray, List.set_cons_zero, List.set_cons_succ])
  refine Draws.take 2 (v := ?v1) HS.out rfl (by kernel_rfl) (fun _ _ _ h => h) (Or.inl ⟨rfl, ?h1⟩) ?r1
  case h1 => intro w' hw'; go_simp; (try with_reducible rfl)
  (try simp only [Act.put, List.setIfInBounds_toArray, List.set_cons_zero, List.set_cons_succ])
  refine Draws.take 3 HS.out rfl (by kernel_rfl) (fun _ _ _ h => h) (yield_w cwS (fun _ h => h.1.cell rfl) _ rfl rfl rfl) ?_
  (try simp only [Act.put, List.setIfInBounds_toArray, List.set_cons_zero, List.set_cons_succ])
  refine Draws.take 4 (v := ?v2) HS.out rfl (by kernel_rfl) (fun _ _ _ h => h) (Or.inl ⟨rfl, ?h2⟩) ?r2
  case h2 => intro w' hw'; go_simp; (try with_reducible rfl)
  (try simp only [Act.put, List.setIfInBounds_toArray, List.set_cons_zero, List.set_cons_succ])
  refine Draws.does 5 rfl (by kernel_rfl) rfl (fun K hK => ?_)
  go_simp
  go_at_call 26
  refine (hnum _).mono ?_
  rintro e u ⟨A2, c2, ⟨rfl, _⟩, hko⟩
  (try dsimp only)
  have hk := HK.out.stay hko.bel; clear HK; have HK := Lib.hid hk; clear hk
  have hq := HQ.out.trans (Keeps.below hko.bel); clear HQ; have HQ := Lib.hid hq; clear hq
  have HE := Lib.hid hko.own.bys; clear hko
  refine hK.out _ _ (fun _ => ⟨HK.out.b, HK.out.p1⟩) ?_
  clear hK K HS
  (try simp only [Act.put, List.setIfInBounds_toArray, List.set_cons_zero, List.set_cons_succ])
  refine Draws.does 6 rfl (by kernel_rfl) rfl (fun K hK => ?_)
  refine wp_app_b HK.out.own HK.out.bel.size HE.out _ _ rfl rfl rfl (by have := HK.out.room; have := H6.out; omega) ?_
  intro v' u ho hg
  rw [HR.out] at ho
  have hk := HK.out.app hg ho (k' := k) (by have := HK.out.room; have := H6.out; rw [← HR.out, List.length_append]; omega)
  have hq := HQ.out.trans (Keeps.grown HK.out.own hg); clear HQ; have HQ := Lib.hid hq; clear hq
  clear HK HE ho hg; have HK := Lib.hid hk; clear hk
  refine hK.out _ _ (fun _ => ⟨HK.out.b, HK.out.p1⟩) ?_
  clear hK K
  obtain ⟨A3, c3, rfl, _⟩ := HK.out.own.slice
  (try simp only [Act.put, List.setIfInBounds_toArray, List.set_cons_zero, List.set_cons_succ])
  refine Draws.does 7 rfl (by kernel_rfl) rfl (fun K hK => ?_)
  go_simp
  refine hK.out _ _ (fun h => absurd h (by decide)) ?_
  clear hK K
  (try simp only [Act.put, List.setIfInBounds_toArray, List.set_cons_zero, List.set_cons_succ])
  refine Draws.does 8 rfl (by kernel_rfl) rfl (fun K hK => ?_)
  refine wp_store_b HK.out.b rfl _ _ rfl rfl rfl ?_
  have hq := HQ.out.trans (Keeps.setCell HK.out.b (k := 0) (v := .slice A3 R.length c3) (by decide) (by decide)); clear HQ; have HQ := Lib.hid hq; clear hq
  have hk := HK.out.put; clear HK; have HK := Lib.hid hk; clear hk
  refine hK.out _ _ (fun h => absurd h (by decide)) ?_
  clear hK K
  (try simp only [Act.put, List.setIfInBounds_toArray, List.set_cons_zero, List.set_cons_succ])
  refine Draws.done (by kernel_rfl) ?_
  go_wp2_with fail
  go_end0
  exact ⟨rfl, HK.out.done, HQ.out⟩
theorem PJ.cf {w0 w : World} {bf bb B1 B2 k : Nat} {s : List UInt8} {m : Mm} (h : PJ w0 bf bb B1 B2 k s m w) : Cel w bf 33 m.cells := by
  obtain ⟨A, c, h⟩ := h
  exact h.f
set_option maxHeartbeats 1000000 in
theorem pnum_any (w0 : World) (bf bb B1 B2 : Nat) (k : Nat) (s : List UInt8) (m : Mm) (ad : Addr) (z : Int) (hz : ∀ u k s, PJ w0 bf bb B1 B2 k s m u → u.cell? ad = some (.int .i64 z)) (w : World) (hJ : PJ w0 bf bb B1 B2 (k + 1) s m w) :
    Calls Tryz.prog 63 #[.pointer (some ad), .pointer (some ⟨B2, 0, none⟩)] w fun e w' => e = .returned (.tuple #[]) ∧ PJ w0 bf bb B1 B2 k (s ++ oct.enc (oct.fold z)) m w' ∧ Keeps w w' := by
  have HJ := Lib.hid hJ; clear hJ
  have HQ := Lib.hid (Keeps.refl w)
  have hpt := fun w h => putw_any w0 bf bb B1 B2 k s m z w h
  generalize oct.enc (oct.fold z) = E at hpt ⊢
  go_enter Tryz.func63, Tryz.ntmps63
  go_wp2_with fail
  refine Draws.start (S := fun u => ∃ k s, PJ w0 bf bb B1 B2 k s m u) (n := 5) 5 rfl (by kernel_rfl) ?_
  have hj := HJ.out.stay ((Below.refl _ _).drew)
  clear HJ; have HJ := Lib.hid hj; clear hj
  have hq := HQ.out.trans (Keeps.below ((Below.refl _ _).drew))
  clear HQ; have HQ := Lib.hid hq; clear hq
  have HS := Lib.hid (show (fun u => ∃ k s, PJ w0 bf bb B1 B2 k s m u) _ from ⟨_, _, HJ.out⟩)
  refine Draws.take 0 HS.out rfl (by kernel_rfl) (fun _ _ _ h => h) (yield_w cwP (fun u h => by obtain ⟨_, _, h⟩ := h; exact h.c2.cell rfl) _ rfl rfl rfl) ?_
  (try simp only [Act.put, List.setIfInBounds_toArray, List.set_cons_zero, List.set_cons_succ])
  refine Draws.take 1 (v := ?v3) HS.out rfl (by kernel_rfl) (fun _ _ _ h => h) (Or.inl ⟨rfl, ?h3⟩) ?r3
  case h3 => intro w' hw'; go_simp; (try with_reducible rfl)
  (try simp only [Act.put, List.setIfInBounds_toArray, List.set_cons_zero, List.set_cons_succ])
  refine Draws.take 2 (v := ?v4) HS.out rfl (by kernel_rfl) (fun _ _ _ h => h) (Or.inl ⟨rfl, ?h4⟩) ?r4
  case h4 => intro w' hw'; go_simp; (try with_reducible rfl)
  (try simp only [Act.put, List.setIfInBounds_toArray, List.set_cons_zero, List.set_cons_succ])
  refine Draws.take 3 HS.out rfl (by kernel_rfl) (fun _ _ _ h => h) (yield_c cbI (fun u h => by obtain ⟨_, _, h⟩ := h; exact hz u _ _ h) _ rfl rfl rfl) ?_
  (try simp only [Act.put, List.setIfInBounds_toArray, List.set_cons_zero, List.set_cons_succ])
  refine Draws.does 4 rfl (by kernel_rfl) rfl (fun K hK => ?_)
  go_simp
  refine (hpt _ HJ.out).mono ?_
  rintro e u ⟨rfl, hj, hk⟩
  (try dsimp only)
  clear HJ; have HJ := Lib.hid hj
  have hq := HQ.out.trans hk; clear HQ; have HQ := Lib.hid hq; clear hq hk hj
  refine hK.out _ _ (fun _ => ⟨_, _, HJ.out⟩) ?_
  clear hK K
  (try simp only [Act.put, List.setIfInBounds_toArray, List.set_cons_zero, List.set_cons_succ])
  refine Draws.done (by kernel_rfl) ?_
  clear HS
  go_wp2_with fail
  go_end0
  exact ⟨rfl, HJ.out, HQ.out⟩
set_option maxHeartbeats 1000000 in
theorem pcnt_any (w0 : World) (bf bb B1 B2 : Nat) (k : Nat) (s : List UInt8) (m : Mm) (hx : m.X.length = 585) (w : World) (hJ : PJ w0 bf bb B1 B2 (k + 1) s m w) :
    Calls Tryz.prog 66 #[.pointer (some ⟨bf, 586, none⟩), .pointer (some ⟨B2, 0, none⟩)] w fun e w' => e = .returned (.tuple #[]) ∧ PJ w0 bf bb B1 B2 k (s ++ oct.enc (oct.fold (m.n : Int))) m w' ∧ Keeps w w' := by
  have HJ := Lib.hid hJ; clear hJ
  have HQ := Lib.hid (Keeps.refl w)
  have hpt := fun w h => putw_any w0 bf bb B1 B2 k s m (m.n : Int) w h
  generalize oct.enc (oct.fold (m.n : Int)) = E at hpt ⊢
  go_enter Tryz.func66, Tryz.ntmps66
  go_wp2_with fail
  refine Draws.start (S := fun u => ∃ k s, PJ w0 bf bb B1 B2 k s m u) (n := 6) 6 rfl (by kernel_rfl) ?_
  have hj := HJ.out.stay ((Below.refl _ _).drew)
  clear HJ; have HJ := Lib.hid hj; clear hj
  have hq := HQ.out.trans (Keeps.below ((Below.refl _ _).drew))
  clear HQ; have HQ := Lib.hid hq; clear hq
  have HS := Lib.hid (show (fun u => ∃ k s, PJ w0 bf bb B1 B2 k s m u) _ from ⟨_, _, HJ.out⟩)
  refine Draws.take 0 HS.out rfl (by kernel_rfl) (fun _ _ _ h => h) (yield_w cwP (fun u h => by obtain ⟨_, _, h⟩ := h; exact h.c2.cell rfl) _ rfl rfl rfl) ?_
  (try simp only [Act.put, List.setIfInBounds_toArray, List.set_cons_zero, List.set_cons_succ])
  refine Draws.take 1 (v := ?v5) HS.out rfl (by kernel_rfl) (fun _ _ _ h => h) (Or.inl ⟨rfl, ?h5⟩) ?r5
  case h5 => intro w' hw'; go_simp; (try with_reducible rfl)
  (try simp only [Act.put, List.setIfInBounds_toArray, List.set_cons_zero, List.set_cons_succ])
  refine Draws.take 2 (v := ?v6) HS.out rfl (by kernel_rfl) (fun _ _ _ h => h) (Or.inl ⟨rfl, ?h6⟩) ?r6
  case h6 => intro w' hw'; go_simp; (try with_reducible rfl)
  (try simp only [Act.put, List.setIfInBounds_toArray, List.set_cons_zero, List.set_cons_succ])
  refine Draws.take 3 HS.out rfl (by kernel_rfl) (fun _ _ _ h => h) (yield_c cbH (fun u h => by obtain ⟨_, _, h⟩ := h; exact h.cf.cell (Mm.cH hx)) _ rfl rfl rfl) ?_
  (try simp only [Act.put, List.setIfInBounds_toArray, List.set_cons_zero, List.set_cons_succ])
  refine Draws.take 4 (v := ?v7) HS.out rfl (by kernel_rfl) (fun _ _ _ h => h) (Or.inl ⟨rfl, ?h7⟩) ?r7
  case h7 => intro w' hw'; go_simp; (try with_reducible rfl)
  (try simp only [Act.put, List.setIfInBounds_toArray, List.set_cons_zero, List.set_cons_succ])
  refine Draws.does 5 rfl (by kernel_rfl) rfl (fun K hK => ?_)
  go_simp
  refine (hpt _ HJ.out).mono ?_
  rintro e u ⟨rfl, hj, hk⟩
  (try dsimp only)
  clear HJ; have HJ := Lib.hid hj
  have hq := HQ.out.trans hk; clear HQ; have HQ := Lib.hid hq; clear hq hk hj
  refine hK.out _ _ (fun _ => ⟨_, _, HJ.out⟩) ?_
  clear hK K
  (try simp only [Act.put, List.setIfInBounds_toArray, List.set_cons_zero, List.set_cons_succ])
  refine Draws.done (by kernel_rfl) ?_
  clear HS
  go_wp2_with fail
  go_end0
  exact ⟨rfl, HJ.out, HQ.out⟩
set_option maxHeartbeats 1000000 in
/-- A text is put. -/
theorem ptext_any (w0 : World) (bf bb B1 B2 : Nat) (k : Nat) (s : List UInt8) (m : Mm) (w : World) (hJ : PJ w0 bf bb B1 B2 (k + 20) s m w) :
    Calls Tryz.prog 64 #[.pointer (some ⟨bf, 0, none⟩), .pointer (some ⟨B1, 0, none⟩)] w fun e w' => e = .returned (.tuple #[]) ∧ PJ w0 bf bb B1 B2 k (s ++ oct.enc (oct.fold m.nm.size) ++ m.nm.data.toList) m w' ∧ Keeps w w' := by
  obtain ⟨A, c, hk⟩ := hJ
  have htx := fun w h => oct.text_any A s.length c s m.nm rfl (by have := hk.room; omega) (by have := hk.nm; omega) w h
  have h6 := oct.enc_six (oct.fold_lt m.nm.size)
  have hE : (s ++ oct.enc (oct.fold m.nm.size) ++ m.nm.data.toList).length + 6 * k ≤ 80000 := by
    have h1 := hk.room
    have h2 := hk.nm
    have h3 : m.nm.data.toList.length = m.nm.size := by simp
    rw [List.length_append, List.length_append, h3]
    omega
  have HK := Lib.hid hk; clear hk
  have HQ := Lib.hid (Keeps.refl w)
  generalize s ++ oct.enc (oct.fold m.nm.size) ++ m.nm.data.toList = E at htx hE ⊢
  have HE := Lib.hid hE; clear hE h6
  go_enter Tryz.func64, Tryz.ntmps64
  go_wp2_with fail
  refine Draws.start (S := fun u => (Cel u bb 36 [.slice A s.length c] ∧ Cel u B1 71 [.pointer (some ⟨bb, 0, none⟩)]) ∧ Cel u bf 33 m.cells) (n := 8) 10 rfl (by kernel_rfl) ?_
  have hk := HK.out.stay ((Below.refl _ _).drew)
  clear HK; have HK := Lib.hid hk; clear hk
  have hq := HQ.out.trans (Keeps.below ((Below.refl _ _).drew))
  clear HQ; have HQ := Lib.hid hq; clear hq
  have HS := Lib.hid (show (fun u => (Cel u bb 36 [.slice A s.length c] ∧ Cel u B1 71 [.pointer (some ⟨bb, 0, none⟩)]) ∧ Cel u bf 33 m.cells) _ from ⟨⟨HK.out.b, HK.out.p1⟩, HK.out.f⟩)
  refine Draws.take 0 HS.out rfl (by kernel_rfl) (fun _ _ _ h => h) (yield_w cwB (fun _ h => h.1.2.cell rfl) _ rfl rfl rfl) ?_
  (try simp only [Act.put, List.setIfInBounds_toArray, List.set_cons_zero, List.set_cons_succ])
  refine Draws.take 1 HS.out rfl (by kernel_rfl) (fun _ _ _ h => h) (yield_w cwB (fun _ h => h.1.2.cell rfl) _ rfl rfl rfl) ?_
  (try simp only [Act.put, List.setIfInBounds_toArray, List.set_cons_zero, List.set_cons_succ])
  refine Draws.take 2 (v := ?v8) HS.out rfl (by kernel_rfl) (fun _ _ _ h => h) (Or.inl ⟨rfl, ?h8⟩) ?r8
  case h8 => intro w' hw'; go_simp; (try with_reducible rfl)
  (try simp only [Act.put, List.setIfInBounds_toArray, List.set_cons_zero, List.set_cons_succ])
  refine Draws.take 3 HS.out rfl (by kernel_rfl) (fun _ _ _ h => h) (yield_w cwS (fun _ h => h.1.1.cell rfl) _ rfl rfl rfl) ?_
  (try simp only [Act.put, List.setIfInBounds_toArray, List.set_cons_zero, List.set_cons_succ])
  refine Draws.take 4 (v := ?v9) HS.out rfl (by kernel_rfl) (fun _ _ _ h => h) (Or.inl ⟨rfl, ?h9⟩) ?r9
  case h9 => intro w' hw'; go_simp; (try with_reducible rfl)
  (try simp only [Act.put, List.setIfInBounds_toArray, List.set_cons_zero, List.set_cons_succ])
  refine Draws.take 5 (v := ?v10) HS.out rfl (by kernel_rfl) (fun _ _ _ h => h) (Or.inl ⟨rfl, ?h10⟩) ?r10
  case h10 => intro w' hw'; go_simp; (try with_reducible rfl)
  (try simp only [Act.put, List.setIfInBounds_toArray, List.set_cons_zero, List.set_cons_succ])
  refine Draws.take 6 HS.out rfl (by kernel_rfl) (fun _ _ _ h => h) (yield_c cbS (fun _ h => h.2.cell rfl) _ rfl rfl rfl) ?_
  (try simp only [Act.put, List.setIfInBounds_toArray, List.set_cons_zero, List.set_cons_succ])
  refine Draws.does 7 rfl (by kernel_rfl) rfl (fun K hK => ?_)
  go_simp
  go_at_call 65
  refine (htx _ HK.out.own.bys).mono ?_
  rintro e u ⟨A2, c2, ⟨rfl, _⟩, hko⟩
  (try dsimp only)
  have hk := HK.out.new hko.bel hko.own HE.out; clear HK; have HK := Lib.hid hk; clear hk
  have hq := HQ.out.trans (Keeps.below hko.bel); clear HQ; have HQ := Lib.hid hq; clear hq hko
  refine hK.out _ _ (fun _ => ⟨⟨HK.out.b, HK.out.p1⟩, HK.out.f⟩) ?_
  clear hK K HS
  (try simp only [Act.put, List.setIfInBounds_toArray, List.set_cons_zero, List.set_cons_succ])
  refine Draws.does 8 rfl (by kernel_rfl) rfl (fun K hK => ?_)
  go_simp
  refine hK.out _ _ (fun h => absurd h (by decide)) ?_
  clear hK K
  (try simp only [Act.put, List.setIfInBounds_toArray, List.set_cons_zero, List.set_cons_succ])
  refine Draws.does 9 rfl (by kernel_rfl) rfl (fun K hK => ?_)
  refine wp_store_b HK.out.b rfl _ _ rfl rfl rfl ?_
  have hq := HQ.out.trans (Keeps.setCell HK.out.b (k := 0) (v := .slice A2 E.length c2) (by decide) (by decide)); clear HQ; have HQ := Lib.hid hq; clear hq
  have hk := HK.out.put; clear HK; have HK := Lib.hid hk; clear hk
  refine hK.out _ _ (fun h => absurd h (by decide)) ?_
  clear hK K
  (try simp only [Act.put, List.setIfInBounds_toArray, List.set_cons_zero, List.set_cons_succ])
  refine Draws.done (by kernel_rfl) ?_
  go_wp2_with fail
  go_end0
  exact ⟨rfl, HK.out.done, HQ.out⟩
theorem ent_p2 (args : Array Value) (w : World) : (callFunc 63 args).run Tryz.prog w = .ok (.enter 63 args) w := by kernel_rfl
theorem ent_p3 (args : Array Value) (w : World) : (callFunc 64 args).run Tryz.prog w = .ok (.enter 64 args) w := by kernel_rfl
theorem ent_p4 (args : Array Value) (w : World) : (callFunc 66 args).run Tryz.prog w = .ok (.enter 66 args) w := by kernel_rfl
theorem set_self {X : List Int} {i : Nat} {z : Int} (h : X[i]? = some z) : X.set i z = X := by
  apply List.ext_getElem?
  intro j
  rw [List.getElem?_set]
  split
  · rename_i e
    subst e
    rw [h, if_pos (List.getElem?_eq_some_iff.1 h).1]
  · rfl
theorem carP (w0 : World) (bf bb B1 B2 : Nat) : Car gP txP ctP' 63 B2 64 B1 66 B2 bf (PJ w0 bf bb B1 B2) where
  ent := ent_p2
  ent2 := ent_p3
  ent3 := ent_p4
  stay := fun k s m w w' h hb => h.stay hb
  less := fun k k' s m w h hk => by
    obtain ⟨A, c, h⟩ := h
    exact ⟨A, c, h.less hk⟩
  cel := fun k s m w h => h.cf
  len := fun k s m w h => by
    obtain ⟨A, c, h⟩ := h
    exact h.xl
  row := fun k s m w h => by
    obtain ⟨A, c, h⟩ := h
    exact h.hr
  numX := fun k s m i z a w hJ hi ha => by
    subst ha
    have hl := (List.getElem?_eq_some_iff.1 hi).1
    have hz : m.X.getD i 0 = z := by simp [List.getD, hi]
    have e : ({ m with X := m.X.set i (gP s z).2 } : Mm) = m := by
      rw [show (gP s z).2 = z from rfl, set_self hi]
    rw [e]
    exact pnum_any w0 bf bb B1 B2 k s m ⟨bf, 1 + i, none⟩ z (fun u k s h => by rw [h.cf.cell (Mm.cX hl), hz]) w hJ
  numR := fun k s m b off i z a w hJ hA hi ha => by
    subst ha
    have hl := (List.getElem?_eq_some_iff.1 hi).1
    have hz : m.R.getD i 0 = z := by simp [List.getD, hi]
    have e : ({ m with R := m.R.set i (gP s z).2 } : Mm) = m := by
      rw [show (gP s z).2 = z from rfl, set_self hi]
    rw [e]
    refine pnum_any w0 bf bb B1 B2 k s m ⟨b, off + i, none⟩ z (fun u k s h => ?_) w hJ
    obtain ⟨A, c, h⟩ := h
    have h1 := h.rc b off hA i hl
    rw [h.bel.cell (cell_lt h1), h1, hz]
  text := fun k s m w hJ => ptext_any w0 bf bb B1 B2 k s m w hJ
  count := fun k s m w hJ => by
    have hx : m.X.length = 585 := by
      obtain ⟨A, c, h⟩ := hJ
      exact h.xl
    exact (pcnt_any w0 bf bb B1 B2 k s m hx w hJ).mono fun e u ⟨h1, h2, h3⟩ => ⟨h1, ⟨m.A, m.c, h2⟩, h3⟩
end Go.Proofs.YtofngihdnjgmeaaGreat

namespace Go.Proofs.YtofngihdnjgmeaaGreat
set_option maxRecDepth 100000
open Go.ChangeShapes Go.WideShapes Go.ChangeAt Go.RowKit

theorem run_build_f1 (cs : List Value) (hc : cs.length = 587) (u : World) : (Instr.buildSlice 58 1 #[(0, .agg cs.toArray)]).run Tryz.prog u = .ok (.slice (some ⟨u.heap.size, 0, none⟩) 1 1) (u.alloc (.cells cs.toArray 33)) := by
  obtain ⟨i0, hi0, hz⟩ : ∃ i, Tryz.prog.info? 33 = some i ∧ i.zero = some (.agg (zP.fd none 0).cells.toArray) := by
    have := f_zeroP
    cases hq : Tryz.prog.info? 33 with
    | none => rw [hq] at this; cases this
    | some i => rw [hq] at this; exact ⟨i, rfl, this⟩
  have hfl : ∀ Z : Array Value, Z.size = 587 → Instr.fill (fun i => some (i * 587, 587)) Z [(0, .agg cs.toArray)] = some cs.toArray := fun Z hZ => by
    obtain ⟨Z⟩ := Z
    have hZ' : Z.length = 587 := by simpa using hZ
    rw [show (⟨Z⟩ : Array Value) = Z.toArray from rfl, fill_one _ Z cs _ 0 (0 * 587) 587 [] rfl rfl hc (by omega), Instr.fill]
    have := spl_mid cs Z [] [] (by omega)
    simp only [List.nil_append, List.append_nil, List.length_nil] at this
    rw [Nat.zero_mul, this]
  have s := sz_f
  simp only [Instr.buildSlice, run_underlying Tryz.underlying58, Sem.run_bind, Result.andThen_ok, s]
  simp [zeroValue, typeInfo, hi0, hz, Value.cells, newRow, newObj]
  rw [hfl _ (by simp)]
  simp []
  rfl
section
variable {ops : Array Oper} {rest : List Oper} {o : Oper} {a : Act} {w u : World} {l : List (Nat × TypeId × List Value)} {rows : List (Option Addr × Nat × List Ho)} {Q : Exit → Act → World → Prop}
theorem build_f1 (hk : KeepF w l rows u) (hgd : o.guard = none) (x : Operand) (ho : o.op = .buildSlice 58 1 #[(0, x)]) {p : Pf} {A : Option Addr} {c : Nat} (hp : p.full) (hx : a.eval x = .agg (p.fd A c).cells.toArray)
    (h : ∀ b u', KeepF w ((b, 33, (p.fd A c).cells) :: l) rows u' → wpList Tryz.prog ops Q rest (a.put o.dst (.slice (some ⟨b, 0, none⟩) 1 1)) u') : wpList Tryz.prog ops Q (o :: rest) a u :=
  wpList_plain hgd fun K hK => by
    unfold Oper.wp execOp
    simp only [ho, List.map_toArray, List.map_cons, List.map_nil, hx, Sem.run_bind, Sem.run_pure, Result.andThen_ok, run_build_f1 _ (Pf.len hp)]
    exact hK _ _ (h _ _ (hk.new rfl))
end
/-! ### Few. -/
set_option maxHeartbeats 2000000 in
theorem few_f (p : Pf) (hp : p.full) (A : Option Addr) (c b : Nat) (r : Bool) (hr : fewP p = r) (w : World) (hb : Cel w b 33 (p.fd A c).cells) :
    Calls Tryz.prog 8 #[.slice (some ⟨b, 0, none⟩) 1 1] w fun e w' => e = .returned (.bool r) ∧ Below w.heap.size w w' := by
  have HK := Lib.hid (KeepF.start (w := w) (rows := []) (by simp))
  have HF := Lib.hid hp; clear hp
  have HB := Lib.hid hb; clear hb
  subst hr
  go_enter Tryz.func8, Tryz.ntmps8
  go_wp2
  go_loopw [7] (fun i wr => ∃ m : Nat, m ≤ 1 ∧ i = .int .i64 m ∧ (m = 1 → fewP p = true) ∧ KeepF w [] [] wr) (fun i _ => 1 - (intOf i).toNat)
  case atStart => exact ⟨0, by omega, rfl, by omega, HK.out⟩
  case round =>
    obtain ⟨m, hm, rfl, hq, hk⟩ := hrel
    clear HK; have HK := Lib.hid hk; clear hk
    by_cases hlt : m < 1
    · obtain rfl : m = 0 := by omega
      clear hq
      simp only [Int.natCast_zero]
      by_cases h1 : p.nm.size ≤ 100
      · have d1 : decide ((100 : Int) < (p.nm.size : Int)) = false := by rw [decide_eq_false_iff_not]; omega
        by_cases h2 : p.hs.length ≤ 40
        · have d2 : decide ((40 : Int) < (p.hs.length : Int)) = false := by rw [decide_eq_false_iff_not]; omega
          have HQ := Lib.hid (show fewP p = true by simp [fewP, h1, h2])
          go_wp2_with (first
            | (with_reducible refine load_rng Tryz.underlying33 rfl (Pf.infoF HF.out) _ rfl ((HB.out.below HK.out.bel HB.out.lt).range Pf.all) rfl rfl ?_)
            | (with_reducible refine alloc_f HK.out f_zeroP rfl rfl ?_; intro bf u hk; clear HK; have HK := Lib.hid hk; clear hk)
            | (with_reducible refine store_fr HK.out 0 (Pf.infoF HF.out) (Fd.one _) rfl rfl _ _ rfl rfl rfl rfl (Fd.leP zP_full HF.out) (Fd.setAllP zP_full HF.out) ?_; intro u hk; simp only [List.set_cons_zero] at hk; clear HK; have HK := Lib.hid hk; clear hk)
            | (with_reducible refine load_f1 HK.out 0 cbS _ rfl rfl rfl rfl Pf.cn ?_)
            | (with_reducible refine load_f1 HK.out 0 cbH _ rfl rfl rfl rfl (Pf.cH HF.out) ?_))
          go_roundw
          case rel => exact ⟨1, by omega, by go_num, fun _ => HQ.out, HK.out.tail⟩
          case measure => simp [intOf]
        · have d2 : decide ((40 : Int) < (p.hs.length : Int)) = true := by rw [decide_eq_true_eq]; omega
          have HQ := Lib.hid (show fewP p = false by simp [fewP, h2])
          go_wp2_with (first
            | (with_reducible refine load_rng Tryz.underlying33 rfl (Pf.infoF HF.out) _ rfl ((HB.out.below HK.out.bel HB.out.lt).range Pf.all) rfl rfl ?_)
            | (with_reducible refine alloc_f HK.out f_zeroP rfl rfl ?_; intro bf u hk; clear HK; have HK := Lib.hid hk; clear hk)
            | (with_reducible refine store_fr HK.out 0 (Pf.infoF HF.out) (Fd.one _) rfl rfl _ _ rfl rfl rfl rfl (Fd.leP zP_full HF.out) (Fd.setAllP zP_full HF.out) ?_; intro u hk; simp only [List.set_cons_zero] at hk; clear HK; have HK := Lib.hid hk; clear hk)
            | (with_reducible refine load_f1 HK.out 0 cbS _ rfl rfl rfl rfl Pf.cn ?_)
            | (with_reducible refine load_f1 HK.out 0 cbH _ rfl rfl rfl rfl (Pf.cH HF.out) ?_))
          go_ret
          exact ⟨by rw [HQ.out]; rfl, HK.out.bel⟩
      · have d1 : decide ((100 : Int) < (p.nm.size : Int)) = true := by rw [decide_eq_true_eq]; omega
        have HQ := Lib.hid (show fewP p = false by simp [fewP, h1])
        go_wp2_with (first
          | (with_reducible refine load_rng Tryz.underlying33 rfl (Pf.infoF HF.out) _ rfl ((HB.out.below HK.out.bel HB.out.lt).range Pf.all) rfl rfl ?_)
          | (with_reducible refine alloc_f HK.out f_zeroP rfl rfl ?_; intro bf u hk; clear HK; have HK := Lib.hid hk; clear hk)
          | (with_reducible refine store_fr HK.out 0 (Pf.infoF HF.out) (Fd.one _) rfl rfl _ _ rfl rfl rfl rfl (Fd.leP zP_full HF.out) (Fd.setAllP zP_full HF.out) ?_; intro u hk; simp only [List.set_cons_zero] at hk; clear HK; have HK := Lib.hid hk; clear hk)
          | (with_reducible refine load_f1 HK.out 0 cbS _ rfl rfl rfl rfl Pf.cn ?_))
        go_ret
        exact ⟨by rw [HQ.out]; rfl, HK.out.bel⟩
    · obtain rfl : m = 1 := by omega
      have HQ := Lib.hid (hq rfl)
      clear hq
      simp only [Int.natCast_one]
      go_wp2
      go_ret
      exact ⟨by rw [HQ.out]; rfl, HK.out.bel⟩
end Go.Proofs.YtofngihdnjgmeaaGreat

namespace Go.Proofs.YtofngihdnjgmeaaGreat
set_option maxRecDepth 100000
open Go.ChangeShapes Go.WideShapes Go.ChangeAt Go.RowKit

section
variable {ops : Array Oper} {rest : List Oper} {o : Oper} {a : Act} {w u : World} {l : List (Nat × TypeId × List Value)} {rows : List (Option Addr × Nat × List Ho)} {Q : Exit → Act → World → Prop}
def oneV : Value → Bool
  | .nilFunc => true
  | .slice _ _ _ => true
  | _ => false
theorem alloc_1 (hk : KeepF w l rows u) {ty : TypeId} {v : Value} (hv : oneV v = true) (hz : (Tryz.prog.info? ty).bind (·.zero) = some v) (hgd : o.guard = none) (ho : o.op = .alloc ty)
    (h : ∀ b u', KeepF w ((b, ty, [v]) :: l) rows u' → Below u.heap.size u u' → wpList Tryz.prog ops Q rest (a.put o.dst (.pointer (some ⟨b, 0, none⟩))) u') : wpList Tryz.prog ops Q (o :: rest) a u :=
  wpList_plain hgd fun K hK => by
    have e : (Instr.alloc ty true (.tuple #[])).run Tryz.prog u = .ok (.pointer (some ⟨u.heap.size, 0, none⟩)) (u.alloc (.cells [v].toArray ty)) := by
      cases hq : Tryz.prog.info? ty with
      | none => simp [hq] at hz
      | some i =>
        simp only [hq, Option.bind_some] at hz
        cases v <;> simp only [oneV, Bool.false_eq_true] at hv <;> simp [Instr.alloc, zeroValue, typeInfo, hq, hz, newVar, newRow, newObj, Value.cells] <;> rfl
    unfold Oper.wp execOp
    simp only [ho, Sem.run_bind, Sem.run_pure, Result.andThen_ok, e]
    exact hK _ _ (h _ _ (hk.new rfl) ((Below.refl _ _).alloc (Nat.le_refl _) _))
theorem store_fn1 (hk : KeepF w l rows u) (i : Nat) (hgd : o.guard = none) (hd : o.dst = none) (x y : Operand) (ho : o.op = .store 110 x y) {b : Nat} {v : Value} (hi : l[i]? = some (b, 110, [v])) (hx : a.eval x = .pointer (some ⟨b, 0, none⟩)) {fn : Fn} {f1 f2 : Array Value} (hy : a.eval y = .func fn f1 f2)
    (h : ∀ u', KeepF w (l.set i (b, 110, [.func fn f1 f2])) rows u' → wpList Tryz.prog ops Q rest a u') : wpList Tryz.prog ops Q (o :: rest) a u :=
  wpList_plain hgd fun K hK => by
    have hc := (hk.get i hi).cell (k := 0) rfl
    have hf := (hk.get i hi).frozen 0
    have e2 : ∀ m, (store ⟨b, 0, none⟩ (.func fn f1 f2) m).run Tryz.prog u = stored Tryz.prog u ⟨b, 0, none⟩ (.func fn f1 f2) m := fun m => run_store Tryz.prog u _ _ m rfl
    have e : (Instr.storeAt 110 (.pointer (some ⟨b, 0, none⟩)) (.func fn f1 f2)).run Tryz.prog u = .ok () (u.setCell ⟨b, 0, none⟩ (.func fn f1 f2)) := by simp [go_sem, hc, hf, e2, stored]
    unfold Oper.wp execOp
    simp only [ho, hx, hy, Sem.run_bind, Sem.run_pure, Result.andThen_ok, e]
    have := hK _ _ (h _ (hk.setCell i hi 0 (.func fn f1 f2)))
    simpa [hd, Act.put, Oper.upon] using this
/-- A row of bytes is laid into a variable. -/
theorem store_bb (hk : KeepF w l rows u) (i : Nat) {base : Nat} {x : Value} {s : List UInt8} (hown : oct.Own u base x s) (hgd : o.guard = none) (hd : o.dst = none) (y z : Operand) (ho : o.op = .store 36 y z) {b : Nat} {v : Value} (hi : l[i]? = some (b, 36, [v])) (hy : a.eval y = .pointer (some ⟨b, 0, none⟩)) {A : Option Addr} {n c : Nat} (hz : a.eval z = .slice A n c)
    (h : ∀ u', KeepF w (l.set i (b, 36, [.slice A n c])) rows u' → oct.Own u' base x s → wpList Tryz.prog ops Q rest a u') : wpList Tryz.prog ops Q (o :: rest) a u :=
  wpList_plain hgd fun K hK => wp_store_b (hk.get i hi) hd y z ho hy hz (hK _ _ (h _ (hk.setCell i hi 0 _) (oct_setElse hown (hk.get i hi) (by decide) _)))
end
theorem fi_zero : (Tryz.prog.info? 110).bind (·.zero) = some .nilFunc := by kernel_rfl
theorem bs_zero : (Tryz.prog.info? 36).bind (·.zero) = some (.slice none 0 0) := by kernel_rfl
def byP (B1 B2 : Nat) : List Value := [.func (.func 63) #[] #[.pointer (some ⟨B2, 0, none⟩)], .func (.func 64) #[] #[.pointer (some ⟨B1, 0, none⟩)], .func (.func 66) #[] #[.pointer (some ⟨B2, 0, none⟩)]]
theorem byP_build (B1 B2 : Nat) (W : World) : (Instr.build 69 #[(0, .func (.func 63) #[] #[.pointer (some ⟨B2, 0, none⟩)]), (1, .func (.func 64) #[] #[.pointer (some ⟨B1, 0, none⟩)]), (2, .func (.func 66) #[] #[.pointer (some ⟨B2, 0, none⟩)])]).run Tryz.prog W = .ok (.agg (byP B1 B2).toArray) W := by kernel_rfl
theorem build_byP {ops : Array Oper} {rest : List Oper} {o : Oper} {a : Act} {u : World} {Q : Exit → Act → World → Prop} (hgd : o.guard = none) (x y z : Operand) (ho : o.op = .build 69 #[(0, x), (1, y), (2, z)]) {B1 B2 : Nat} (hx : a.eval x = .func (.func 63) #[] #[.pointer (some ⟨B2, 0, none⟩)]) (hy : a.eval y = .func (.func 64) #[] #[.pointer (some ⟨B1, 0, none⟩)]) (hz : a.eval z = .func (.func 66) #[] #[.pointer (some ⟨B2, 0, none⟩)])
    (h : wpList Tryz.prog ops Q rest (a.put o.dst (.agg (byP B1 B2).toArray)) u) : wpList Tryz.prog ops Q (o :: rest) a u :=
  wpList_plain hgd fun K hK => by
    unfold Oper.wp execOp
    simp only [ho, List.map_toArray, List.map_cons, List.map_nil, hx, hy, hz, Sem.run_bind, Sem.run_pure, Result.andThen_ok, byP_build]
    exact hK _ _ h
theorem byP_len (B1 B2 : Nat) : (Tryz.prog.info? 69).map (·.size) = some (byP B1 B2).length := by rw [show (byP B1 B2).length = 3 from rfl]; kernel_rfl
theorem byP_one (B1 B2 : Nat) : (byP B1 B2).toArray.all (·.oneCell') = true := by simp [byP, Value.oneCell']
theorem byP_put (B1 B2 : Nat) : spl [Value.nilFunc, .nilFunc, .nilFunc] 0 (byP B1 B2) = byP B1 B2 := rfl
theorem byP_le (B1 B2 : Nat) : 0 + (byP B1 B2).length ≤ [Value.nilFunc, .nilFunc, .nilFunc].length := Nat.le_refl 3
set_option maxHeartbeats 1000000 in
theorem putting_any (bb : Nat) (w : World) :
    Calls Tryz.prog 27 #[.pointer (some ⟨bb, 0, none⟩)] w fun e u => ∃ B1 B2, e = .returned (.agg (byP B1 B2).toArray) ∧ Cel u B1 71 [.pointer (some ⟨bb, 0, none⟩)] ∧ Cel u B2 110 [.func (.func 62) #[] #[.pointer (some ⟨B1, 0, none⟩)]] ∧ Below w.heap.size w u := by
  have HK := Lib.hid (KeepF.start (w := w) (rows := []) (by simp))
  have hmf : ∀ (fn : Fn) (first cap : Array Value) (w : World), (Instr.makeFunc fn first cap).run Tryz.prog w = .ok (.func fn first cap) w := fun _ _ _ _ => rfl
  go_enter Tryz.func27, Tryz.ntmps27
  go_wp2_with (first
    | (with_reducible refine box_ptr HK.out rfl _ rfl rfl ?_; intro b1 u hk; clear HK; have HK := Lib.hid hk; clear hk)
    | (with_reducible refine alloc_f HK.out by_zero rfl rfl ?_; intro b2 u hk; clear HK; have HK := Lib.hid hk; clear hk)
    | (with_reducible refine alloc_1 HK.out rfl fi_zero rfl rfl ?_; intro b3 u hk _; clear HK; have HK := Lib.hid hk; clear hk)
    | (with_reducible refine store_fn1 HK.out 0 rfl rfl _ _ rfl rfl rfl rfl ?_; intro u hk; simp only [List.set_cons_zero] at hk; clear HK; have HK := Lib.hid hk; clear hk)
    | (with_reducible refine build_byP rfl _ _ _ rfl rfl rfl rfl ?_)
    | (with_reducible refine store_fr HK.out 1 (byP_len _ _) (byP_one _ _) rfl rfl _ _ rfl rfl rfl rfl (byP_le _ _) (byP_put _ _) ?_; intro u hk; simp only [List.set_cons_zero, List.set_cons_succ] at hk; clear HK; have HK := Lib.hid hk; clear hk))
  exact bodyPost_ret (results_f1 rfl Tryz.underlying69 rfl (byP_len _ _) _ HK.out 1 rfl rfl) rfl ⟨b1, b3, rfl, HK.out.get 2 rfl, HK.out.get 0 rfl, HK.out.bel⟩

/-! ### wire.Encode. -/
theorem row_cells {w : World} {A : Option Addr} {hs : List Ho} (h : Row w A hs.length hs) : ∀ b off, A = some ⟨b, off, none⟩ → ∀ j, j < (flat hs).length → w.cell? ⟨b, off + j, none⟩ = some (.int .i64 ((flat hs).getD j 0)) := by
  intro b off hA j hj
  have hn : 0 < hs.length := by rw [flat_length] at hj; omega
  obtain ⟨b', off', hA', hc⟩ := h.at hn
  rw [hA] at hA'
  injection hA' with hA'
  injection hA' with e1 e2 e3
  subst e1; subst e2
  exact Row.cells (n := hs.length) rfl hc j _ (vals_get hj)
set_option maxHeartbeats 4000000 in
theorem encode_any (v : Int) (hv : ok64W v) (p : Pf) (hp : p.full) (hN : p.nm.size ≤ 100) (A : Option Addr) (c : Nat) (w : World) (hd : Row w A p.hs.length p.hs) :
    Calls Tryz.prog 10 #[.int .i64 v, .agg (p.fd A c).cells.toArray] w fun e u => ∃ A1 c1, e = .returned (.tuple #[.slice A1 (encB v p).length c1, .int .i64 (encE v p)]) ∧ (encB v p).length ≤ c1 ∧ oct.Bys u A1 (encB v p) ∧ Below w.heap.size w u := by
  have HK := Lib.hid (KeepF.start (w := w) (rows := [(A, p.hs.length, p.hs)]) (by simpa using hd))
  have HF := Lib.hid hp
  have HG := Lib.hid (dP_full hp v)
  have HZ := Lib.hid zP_full
  have hdn := fun w h => down_any v hv p hp (by omega) A c w h
  have hi := fun A n c => isn_any (dE v p) A n c
  by_cases hE : dnErr v p = 0
  · have hrt : rightP p = true := by
      unfold dnErr at hE
      split at hE
      · assumption
      · cases hE
    have hh := right_holds hrt
    rw [hE] at hdn
    have hsy : saysB v p = (decide (dE v p = 0) && decide ((dH v p).length = 0)) := by simp [saysB, hE]
    cases hs : saysB v p with
    | false =>
      have e1 : encE v p = 18 := by simp [encE, hE, hs]
      have e2 : encB v p = [] := by simp [encB, e1]
      rw [e1, e2]
      rw [hs] at hsy
      have hi' := fun A c => hi A (dH v p).length c false hsy.symm
      generalize dE v p = E2 at hdn hi'
      generalize (dH v p) = H2 at hdn hi'
      generalize dP v p = g at hdn HG
      clear hi hsy hs e1 e2 hE hrt hh hd hp hN hv
      go_enter Tryz.func10, Tryz.ntmps10
      go_wp2_with (first
        | (with_reducible refine box_f HK.out rfl _ rfl rfl ?_; intro b1 u hk; clear HK; have HK := Lib.hid hk; clear hk)
        | (with_reducible refine load_fr HK.out 0 Tryz.underlying33 rfl (Pf.infoF HF.out) _ rfl rfl rfl rfl Pf.all ?_)
        | (go_at_call 18; (with_reducible refine (hdn _ (HK.out.rowAt 0 rfl)).mono ?_); rintro e u ⟨A1, c1, A2, c2, rfl, hD⟩; have hk := HK.out.call hD.bel; clear hD; clear HK; have HK := Lib.hid hk; clear hk)
        | (with_reducible refine alloc_f HK.out f_zeroP rfl rfl ?_; intro b6 u hk; clear HK; have HK := Lib.hid hk; clear hk)
        | (with_reducible refine alloc_f HK.out rs_zero rfl rfl ?_; intro b7 u hk; clear HK; have HK := Lib.hid hk; clear hk)
        | (with_reducible refine store_fr HK.out 1 (Pf.infoF HG.out) (Fd.one _) rfl rfl _ _ rfl rfl rfl rfl (Fd.leP HZ.out HG.out) (Fd.setAllP HZ.out HG.out) ?_; intro u hk; simp only [List.set_cons_zero, List.set_cons_succ] at hk; clear HK; have HK := Lib.hid hk; clear hk)
        | (with_reducible refine store_fr HK.out 0 (rs_info _ _ _ _) (rs_one _ _ _ _) rfl rfl _ _ rfl rfl rfl rfl (rs_le _ _ _ _ _ _ _ _) (rs_put _ _ _ _ _ _ _ _) ?_; intro u hk; simp only [List.set_cons_zero] at hk; clear HK; have HK := Lib.hid hk; clear hk)
        | (with_reducible refine load_fr HK.out 0 Tryz.underlying49 rfl (rs_info _ _ _ _) _ rfl rfl rfl rfl rs_all ?_)
        | (go_at_call 25; (with_reducible refine (hi' _ _ _).mono ?_); rintro e u ⟨rfl, hb⟩; have hk := HK.out.call hb; clear hb; clear HK; have HK := Lib.hid hk; clear hk))
      go_ret2
      exact ⟨_, _, rfl, Nat.le_refl _, oct.Bys.nil _ _, HK.out.bel⟩
    | true =>
      have e1 : encE v p = 0 := by simp [encE, hE, hs]
      have e2 : encB v p = wireB v p := by simp [encB, e1]
      rw [e1, e2]
      rw [hs] at hsy
      have hi' := fun A c => hi A (dH v p).length c true hsy.symm
      have hnum := fun w => oct.number_any none 0 0 [] v rfl (by decide) w (oct.Bys.nil w none)
      simp only [List.nil_append] at hnum
      have h6 := oct.enc_six (oct.fold_lt v)
      have hfin : ∀ (b1 b9 B1 B2 : Nat) (A1 : Option Addr) (c1 : Nat) (u : World), Below w.heap.size w u → Cel u b1 33 (p.fd A c).cells → w.heap.size ≤ b9 → Cel u b9 36 [.slice A1 (oct.enc (oct.fold v)).length c1] → Cel u B1 71 [.pointer (some ⟨b9, 0, none⟩)] → Cel u B2 110 [.func (.func 62) #[] #[.pointer (some ⟨B1, 0, none⟩)]] → oct.Own u w.heap.size (.slice A1 (oct.enc (oct.fold v)).length c1) (oct.enc (oct.fold v)) →
          Calls Tryz.prog 28 #[.agg (byP B1 B2).toArray, .int .i64 v, .pointer (some ⟨b1, 0, none⟩)] u fun e u' => e = .returned (.tuple #[]) ∧ ∃ A3 c3, Cel u' b9 36 [.slice A3 (wireB v p).length c3] ∧ (wireB v p).length ≤ c3 ∧ oct.Bys u' A3 (wireB v p) ∧ Below w.heap.size w u' := by
        intro b1 b9 B1 B2 A1 c1 u hb h1 hn h9 hB1 hB2 ho
        refine (field_car (carP w b1 b9 B1 B2) v (oct.enc (oct.fold v)) (p.mm A c) u ⟨A1, c1, hb, by rw [Pf.mm_cells]; exact h1, h9, hB1, hB2, hn, ho, Pf.X_len hp, ⟨by rw [show (p.mm A c).R = flat p.hs from rfl, flat_length]; rfl, by show p.hs.length ≤ 50; omega, fun h0 => ?_⟩, row_cells hd, by omega, hN⟩).mono fun e u' ⟨he, A2, c2, A3, c3, hk⟩ => ?_
        · obtain ⟨b, off, hA, _⟩ := hd.at h0
          exact ⟨b, off, hA⟩
        · obtain ⟨A4, c4, e4, h4⟩ := hk.own.slice
          injection e4 with e5 e6 e7
          subst e5; subst e7
          exact ⟨he, A3, c3, hk.b, h4, hk.own.bys, hk.bel⟩
      generalize wireB v p = WB at hfin ⊢
      generalize oct.enc (oct.fold v) = E at hnum h6 hfin
      generalize dE v p = E2 at hdn hi'
      generalize (dH v p) = H2 at hdn hi'
      generalize dP v p = g at hdn HG
      clear hi hsy hs e1 e2 hE hrt hh hd hp hN hv h6
      go_enter Tryz.func10, Tryz.ntmps10
      go_wp2_with (first
        | (with_reducible refine box_f HK.out rfl _ rfl rfl ?_; intro b1 u hk; clear HK; have HK := Lib.hid hk; clear hk)
        | (with_reducible refine load_fr HK.out 0 Tryz.underlying33 rfl (Pf.infoF HF.out) _ rfl rfl rfl rfl Pf.all ?_)
        | (go_at_call 18; (with_reducible refine (hdn _ (HK.out.rowAt 0 rfl)).mono ?_); rintro e u ⟨A1, c1, A2, c2, rfl, hD⟩; have hk := HK.out.call hD.bel; clear hD; clear HK; have HK := Lib.hid hk; clear hk)
        | (with_reducible refine alloc_f HK.out f_zeroP rfl rfl ?_; intro b6 u hk; clear HK; have HK := Lib.hid hk; clear hk)
        | (with_reducible refine alloc_f HK.out rs_zero rfl rfl ?_; intro b7 u hk; clear HK; have HK := Lib.hid hk; clear hk)
        | (with_reducible refine store_fr HK.out 1 (Pf.infoF HG.out) (Fd.one _) rfl rfl _ _ rfl rfl rfl rfl (Fd.leP HZ.out HG.out) (Fd.setAllP HZ.out HG.out) ?_; intro u hk; simp only [List.set_cons_zero, List.set_cons_succ] at hk; clear HK; have HK := Lib.hid hk; clear hk)
        | (with_reducible refine store_fr HK.out 0 (rs_info _ _ _ _) (rs_one _ _ _ _) rfl rfl _ _ rfl rfl rfl rfl (rs_le _ _ _ _ _ _ _ _) (rs_put _ _ _ _ _ _ _ _) ?_; intro u hk; simp only [List.set_cons_zero] at hk; clear HK; have HK := Lib.hid hk; clear hk)
        | (with_reducible refine load_fr HK.out 0 Tryz.underlying49 rfl (rs_info _ _ _ _) _ rfl rfl rfl rfl rs_all ?_)
        | (go_at_call 25; (with_reducible refine (hi' _ _ _).mono ?_); rintro e u ⟨rfl, hb⟩; have hk := HK.out.call hb; clear hb; clear HK; have HK := Lib.hid hk; clear hk)
        | (go_at_call 26; (with_reducible refine (hnum _).mono ?_); rintro e u ⟨A3, c3, ⟨rfl, _⟩, hko⟩; have hk := HK.out.call hko.bel; have HO := Lib.hid (hko.own.mono HK.out.bel.size); clear hko; clear HK; have HK := Lib.hid hk; clear hk)
        | (with_reducible refine alloc_1 HK.out rfl bs_zero rfl rfl ?_; intro b9 u hk hb; have ho := HO.out.below hb; clear HO hb; have HO := Lib.hid ho; clear ho; clear HK; have HK := Lib.hid hk; clear hk)
        | (with_reducible refine store_bb HK.out 0 HO.out rfl rfl _ _ rfl rfl rfl rfl ?_; intro u hk ho; simp only [List.set_cons_zero] at hk; clear HO; have HO := Lib.hid ho; clear ho; clear HK; have HK := Lib.hid hk; clear hk)
        | (go_at_call 27; (with_reducible refine (putting_any _ _).mono ?_); rintro e u ⟨B1, B2, rfl, hc1, hc2, hb⟩; have hk := HK.out.call hb; have ho := HO.out.below hb; clear HO; have HO := Lib.hid ho; have HB1 := Lib.hid hc1; have HB2 := Lib.hid hc2; clear hb ho hc1 hc2; clear HK; have HK := Lib.hid hk; clear hk)
        | (go_at_call 28; (with_reducible refine (hfin _ _ _ _ _ _ _ HK.out.bel (HK.out.get 3 rfl) (HK.out.blk _ List.mem_cons_self).1 (HK.out.get 0 rfl) HB1.out HB2.out HO.out).mono ?_); rintro e u ⟨rfl, A4, c4, h9, h4, h5, hb⟩; have H9 := Lib.hid h9; have H4 := Lib.hid h4; have H5 := Lib.hid h5; have HBL := Lib.hid hb; clear HK HO HB1 HB2 h9 h4 h5 hb)
        | (with_reducible refine load_w cwS (H9.out.cell (k := 0) rfl) _ rfl rfl rfl ?_))
      go_ret2
      exact ⟨A4, c4, rfl, H4.out, H5.out, HBL.out⟩
  · have e1 : encE v p = dnErr v p := by simp [encE, hE]
    have e2 : encB v p = [] := by rw [encB, e1, if_neg hE]
    rw [e1, e2]
    have hne : (dnErr v p != 0) = true := by simp [hE]
    generalize dnErr v p = E at hdn hne ⊢
    generalize dE v p = E2 at hdn
    generalize (dH v p) = H2 at hdn
    generalize dP v p = g at hdn HG
    clear hi e1 e2 hE hd hp hN hv
    go_enter Tryz.func10, Tryz.ntmps10
    go_wp2_with (first
      | (with_reducible refine box_f HK.out rfl _ rfl rfl ?_; intro b1 u hk; clear HK; have HK := Lib.hid hk; clear hk)
      | (with_reducible refine load_fr HK.out 0 Tryz.underlying33 rfl (Pf.infoF HF.out) _ rfl rfl rfl rfl Pf.all ?_)
      | (go_at_call 18; (with_reducible refine (hdn _ (HK.out.rowAt 0 rfl)).mono ?_); rintro e u ⟨A1, c1, A2, c2, rfl, hD⟩; have hk := HK.out.call hD.bel; clear hD; clear HK; have HK := Lib.hid hk; clear hk)
      | (with_reducible refine alloc_f HK.out f_zeroP rfl rfl ?_; intro b6 u hk; clear HK; have HK := Lib.hid hk; clear hk)
      | (with_reducible refine alloc_f HK.out rs_zero rfl rfl ?_; intro b7 u hk; clear HK; have HK := Lib.hid hk; clear hk)
      | (with_reducible refine store_fr HK.out 1 (Pf.infoF HG.out) (Fd.one _) rfl rfl _ _ rfl rfl rfl rfl (Fd.leP HZ.out HG.out) (Fd.setAllP HZ.out HG.out) ?_; intro u hk; simp only [List.set_cons_zero, List.set_cons_succ] at hk; clear HK; have HK := Lib.hid hk; clear hk)
      | (with_reducible refine store_fr HK.out 0 (rs_info _ _ _ _) (rs_one _ _ _ _) rfl rfl _ _ rfl rfl rfl rfl (rs_le _ _ _ _ _ _ _ _) (rs_put _ _ _ _ _ _ _ _) ?_; intro u hk; simp only [List.set_cons_zero] at hk; clear HK; have HK := Lib.hid hk; clear hk))
    go_ret2
    exact ⟨_, _, rfl, Nat.le_refl _, oct.Bys.nil _ _, HK.out.bel⟩
end Go.Proofs.YtofngihdnjgmeaaGreat
