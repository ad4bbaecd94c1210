/- What the statements of layer 11 stand on: yields of regions that draw their order; steps in a row. -/
import Derived.Test.YtglhjfcngpednaaDh
namespace Go.Proofs.Ytglhjfcngpednaa
open Go.ChangeShapes Go.WideShapes Go.ChangeAt Go.RowKit

section
variable {P : Program} {ops : Array Oper} {Q : Exit → Act → World → Prop} {S S' : World → Prop} {n : Nat}
/-- What is kept may be told more closely from here on. -/
theorem Draws.more (hS : ∀ w, S' w → S w) : ∀ (fuel : Nat) (listed : Array Bool) (a : Act) (w : World), Draws P ops Q S' n fuel listed a w → Draws P ops Q S n fuel listed a w
  | 0, _, _, _, h => h
  | fuel + 1, _, _, _, h => ⟨h.1, fun i hi => wpOp_mono (fun a' w' h' => ⟨fun hn => hS _ (h'.1 hn), Draws.more hS fuel _ a' w' h'.2⟩) (h.2 i hi)⟩
end
section
variable {ops : Array Oper} {S : World → Prop} {a : Act} {o : Oper}
theorem yield_str {A : Option Addr} {l : List UInt8} (hS : ∀ w, S w → Bys w A l) {k : Nat} (hk : l.length = k) (x : Operand) (ho : o.op = .convert 27 9 x) {c : Nat} (hx : a.eval x = .slice A k c)
    (hw : Region.wanted o (yielded ops a.tmps) = true) : YieldsIf Try.prog ops S o (.string ⟨l.toArray⟩) a := by
  subst hk
  refine .inl ⟨hw, fun w' hw' => ?_⟩
  unfold execOp
  simp only [ho, hx]
  simp [go_sem, run_str (hS w' hw') c]
theorem yield_eqs {s : ByteArray} (x y : Operand) (ty : TypeId) (ho : o.op = .binOp .eql 9 x y ty) (hx : a.eval x = .string s) (hy : a.eval y = .string s) (hw : Region.wanted o (yielded ops a.tmps) = true) :
    YieldsIf Try.prog ops S o (.bool true) a :=
  .inl ⟨hw, fun w _ => by
    unfold execOp
    simp only [ho, hx, hy]
    simp [go_sem]⟩
theorem yield_nes {s : ByteArray} (x y : Operand) (ty : TypeId) (ho : o.op = .binOp .neq 9 x y ty) (hx : a.eval x = .string s) (hy : a.eval y = .string s) (hw : Region.wanted o (yielded ops a.tmps) = true) :
    YieldsIf Try.prog ops S o (.bool false) a :=
  .inl ⟨hw, fun w _ => by
    unfold execOp
    simp only [ho, hx, hy]
    simp [go_sem]⟩
theorem yield_geq {p q : Int} (hb : q ≤ p) (x y : Operand) (t : TypeId) (ho : o.op = .binOp .geq 3 x y t) (hx : a.eval x = .int .i64 p) (hy : a.eval y = .int .i64 q) (hw : Region.wanted o (yielded ops a.tmps) = true) :
    YieldsIf Try.prog ops S o (.bool true) a :=
  .inl ⟨hw, fun w _ => by
    unfold execOp
    simp only [ho, hx, hy]
    simp [go_sem, hb]⟩
theorem yield_leq {p q : Int} (hb : p ≤ q) (x y : Operand) (t : TypeId) (ho : o.op = .binOp .leq 3 x y t) (hx : a.eval x = .int .i64 p) (hy : a.eval y = .int .i64 q) (hw : Region.wanted o (yielded ops a.tmps) = true) :
    YieldsIf Try.prog ops S o (.bool true) a :=
  .inl ⟨hw, fun w _ => by
    unfold execOp
    simp only [ho, hx, hy]
    simp [go_sem, hb]⟩
theorem yield_eqi {p q : Int} (hb : p = q) (x y : Operand) (t : TypeId) (ho : o.op = .binOp .eql 3 x y t) (hx : a.eval x = .int .i64 p) (hy : a.eval y = .int .i64 q) (hw : Region.wanted o (yielded ops a.tmps) = true) :
    YieldsIf Try.prog ops S o (.bool true) a :=
  .inl ⟨hw, fun w _ => by
    subst hb
    unfold execOp
    simp only [ho, hx, hy]
    simp [go_sem]⟩
theorem yield_nei {p q : Int} (hb : p = q) (x y : Operand) (t : TypeId) (ho : o.op = .binOp .neq 3 x y t) (hx : a.eval x = .int .i64 p) (hy : a.eval y = .int .i64 q) (hw : Region.wanted o (yielded ops a.tmps) = true) :
    YieldsIf Try.prog ops S o (.bool false) a :=
  .inl ⟨hw, fun w _ => by
    subst hb
    unfold execOp
    simp only [ho, hx, hy]
    simp [go_sem]⟩
theorem yield_eqt {p q : Int} (hb : p = q) (x y : Operand) (t : TypeId) (ho : o.op = .binOp .eql 39 x y t) (hx : a.eval x = .int .i64 p) (hy : a.eval y = .int .i64 q) (hw : Region.wanted o (yielded ops a.tmps) = true) :
    YieldsIf Try.prog ops S o (.bool true) a :=
  .inl ⟨hw, fun w _ => by
    subst hb
    unfold execOp
    simp only [ho, hx, hy]
    simp [go_sem]⟩
theorem yield_sub {p q z : Int} (hz : IntKind.i64.wrap (p - q) = z) (x y : Operand) (ty : TypeId) (ho : o.op = .binOp .sub 3 x y ty) (hx : a.eval x = .int .i64 p) (hy : a.eval y = .int .i64 q) (hw : Region.wanted o (yielded ops a.tmps) = true) :
    YieldsIf Try.prog ops S o (.int .i64 z) a :=
  .inl ⟨hw, fun w _ => by
    unfold execOp
    simp only [ho, hx, hy]
    simp [go_sem, hz]⟩
end
theorem r_build1 (z : Int) (W : World) : (Instr.build 29 #[(0, .int .i64 z)]).run Try.prog W = .ok (.agg #[.int .i64 z, .int .i64 0, .slice none 0 0]) W := by
  simp [Instr.build, go_sem]
section
variable {w u u' : World} {l : List (Nat × TypeId × List Value)} {ds : List Ent} {rows : List (Option Addr × List UInt8)}
/-- A slice that lay there when the call began. -/
theorem Kf.old (h : Kf w (fun _ => False) l ds rows u) {A : Option Addr} {m : List UInt8} (hb : Bys w A m) : Kf w (fun _ => False) l ds ((A, m) :: rows) u :=
  h.also (hb.below h.mf.bel) fun h0 a ha e he hc => by
    have h1 := (rowLt (x := (A, m)) hb h0 ha).1
    have h2 := (h.cov e he a.block (.inr hc)).resolve_left id
    omega
/-- What a step is handed. -/
theorem Kf.din {F : Nat → Prop} (h : Kf w F l ds rows u) (j : Nat) {r z f f' : Nat} {v : Value} {d : List UInt8} (hj : ds[j]? = some ⟨some r, z, f, v, d⟩) (i i' : Nat) {B : Option Addr} {n cb : Nat} {x : List UInt8} (hi : rows[i]? = some (B, x)) {sA : Option Addr} {k : Nat} {sb : List UInt8} (hi' : rows[i']? = some (sA, sb))
    (hz : z ≤ 1048576) (hd : d.length ≤ z) (hf : f ≤ d.length) (hx : x.length = n) (hn : n ≤ z) (hc : n ≤ cb) (hf' : f' ≤ n) (hs : sb.length = k) (hk : k ≤ 1048576) : Din u r z f f' v d B n cb x sA k sb :=
  ⟨h.dk j hj, hz, hd, hf, hx, hn, hc, hf', h.rowAt i hi, fun h0 a ha => h.free _ (List.mem_of_getElem? hi) h0 a ha _ (List.mem_of_getElem? hj), hs, hk, h.rowAt i' hi', fun h0 a ha => h.free _ (List.mem_of_getElem? hi') h0 a ha _ (List.mem_of_getElem? hj)⟩
end
/-- A crash that leaves all. -/
theorem crash_all (r : Nat) (z f : Nat) (v : Value) (d : List UInt8) (N : Nat) (hN : d.length = N) (hf : f ≤ N) (hn : N ≤ 1048576) (w : World) (h : Dk w r z v f d) :
    Calls Try.prog 16 #[.pointer (some ⟨r, 0, none⟩), .int .i64 16384, .int .i64 0] w fun e w' => e = .returned (.tuple #[]) ∧ ∃ v', Dk w' r z v' (N : Int) d ∧ Mv w w' r v v' := by
  subst hN
  obtain ⟨a, ha⟩ : ∃ a : Int, a = 16384 := ⟨_, rfl⟩
  have e1 : cr f d.length a 0 = d.length := by subst ha; unfold cr; omega
  rw [← ha]
  refine (crash_any r z f v d a 0 hf hn w h).mono fun e w' h1 => ?_
  rw [e1, List.take_length] at h1
  exact h1
/-- Between two steps: the disk at r, and the document's, in block b, are one. -/
structure KS (W : World) (r z b f nb cb : Nat) (d : List UInt8) (v : Value) (B : Option Addr) (u : World) : Prop where
  kf : Kf W (fun _ => False) [(b, 29, [.int .i64 z, .int .i64 f, .slice B nb cb])] [⟨some r, z, f, v, d⟩] [(B, d)] u
  hl : d.length = nb
  hc : nb ≤ cb
  hf : f ≤ nb
  hz : nb ≤ z
end Go.Proofs.Ytglhjfcngpednaa
