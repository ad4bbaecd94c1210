/- What the statements of layer 12 stand on: lists, frames, crashes that lose nothing, a log and its disk in step. -/
import Derived.Test.YtnbhgnkkedainaaDoorWj
namespace Go.Proofs.YtnbhgnkkedainaaDoor
open Go.ChangeShapes Go.WideShapes Go.ChangeAt Go.RowKit

theorem ne_str_want {ops : Array Oper} {rest : List Oper} {o : Oper} {a : Act} {u : World} {Q : Exit → Act → World → Prop} {s t : ByteArray} {b : Bool} (hb : (s.toList == t.toList) = b) (x y : Operand) (ty : TypeId) (ho : o.op = .binOp .neq 9 x y ty) (hx : a.eval x = .string s) (hy : a.eval y = .string t)
    (hw : Region.wanted o (yielded ops a.tmps) = true) (h : wpList Tryd.prog ops Q rest (a.put o.dst (.bool !b)) u) : wpList Tryd.prog ops Q (o :: rest) a u :=
  BigFrame.wpList_want hw fun _ hK => wp_ne_str hb x y ty ho hx hy (hK _ _ h)
section
variable {ops : Array Oper} {S : World → Prop} {a : Act} {o : Oper}
theorem yield_sub {p q z : Int} (hz : IntKind.i64.wrap (p - q) = z) (x y : Operand) (ty : TypeId) (ho : o.op = .binOp .sub 3 x y ty) (hx : a.eval x = .int .i64 p) (hy : a.eval y = .int .i64 q) (hw : Region.wanted o (yielded ops a.tmps) = true) :
    YieldsIf Tryd.prog ops S o (.int .i64 z) a :=
  .inl ⟨hw, fun w _ => by
    unfold execOp
    simp only [ho, hx, hy]
    simp [go_sem, hz]⟩
theorem yield_nei {p q : Int} (hb : p = q) (x y : Operand) (t : TypeId) (ho : o.op = .binOp .neq 3 x y t) (hx : a.eval x = .int .i64 p) (hy : a.eval y = .int .i64 q) (hw : Region.wanted o (yielded ops a.tmps) = true) :
    YieldsIf Tryd.prog ops S o (.bool false) a :=
  .inl ⟨hw, fun w _ => by
    subst hb
    unfold execOp
    simp only [ho, hx, hy]
    simp [go_sem]⟩
end
theorem str_refl (l : List UInt8) : ((⟨l.toArray⟩ : ByteArray).toList == (⟨l.toArray⟩ : ByteArray).toList) = true := by simp
/-- A list that stands on the disk is read as it is. -/
theorem scn_own {M : List (List UInt8)} (hp : ∀ p ∈ M, p.length ≤ 32768) {P : List UInt8} (hP : fls M = P) {N : Nat} (hN : P.length = N) : scn P = M ∧ tkE (P.drop N) = 3 := by
  subst hP; subst hN
  have h1 := scn_fls M [] hp
  rw [List.append_nil, scn_nil, List.append_nil] at h1
  exact ⟨h1, by rw [List.drop_length]; exact tk_nil⟩
/-- A crash where all is safe. -/
theorem crash_safe (r z : Nat) (v : Value) (d : List UInt8) (N : Nat) (hN : d.length = N) (a b : Int) (hn : N ≤ 1048576) (w : World) (h : Dk w r z v (N : Int) d) :
    Calls Tryd.prog 17 #[.pointer (some ⟨r, 0, none⟩), .int .i64 a, .int .i64 b] w fun e w' => e = .returned (.tuple #[]) ∧ ∃ v', Dk w' r z v' (N : Int) d ∧ Mv w w' r v v' := by
  subst hN
  have e1 : cr d.length d.length a b = d.length := by unfold cr; omega
  refine (crash_any r z d.length v d a b (Nat.le_refl _) hn w h).mono fun e w' h1 => ?_
  rw [e1, List.take_length] at h1
  exact h1
/-- A log and its disk, and nothing else; the records are M, the disk's bytes their frames, P, N in number, all safe. -/
structure Sy (w : World) (r rd z : Nat) (v vd : Value) (L : List BPart) (M : List (List UInt8)) (P : List UInt8) (N : Nat) (u : World) : Prop where
  kg : Kg w (fun _ => False) [Th.lo r rd v L, Th.dk rd z N vd P] [] u
  tx : txt L = M
  fp : fls M = P
  pn : P.length = N
theorem fls_bound {M : List (List UInt8)} {q : Nat} (h : ∀ p ∈ M, p.length ≤ q) : (fls M).length ≤ M.length * (8 + q) := by
  induction M with
  | nil => simp [fls]
  | cons p M ih =>
    rw [fls_cons, List.length_append, frm_length, List.length_cons, Nat.add_mul]
    have h1 := h p List.mem_cons_self
    have h2 := ih fun x hx => h x (List.mem_cons_of_mem _ hx)
    omega
theorem mem_take {M : List (List UInt8)} {m q : Nat} (h : ∀ j, j < m → (M.getD j []).length ≤ q) : ∀ p ∈ M.take m, p.length ≤ q := fun p hp => by
  obtain ⟨i, hi⟩ := List.mem_iff_getElem?.1 hp
  rw [List.getElem?_take] at hi
  split at hi
  · rename_i hlt
    have := h i hlt
    rwa [List.getD_eq_getElem?_getD, hi] at this
  · cases hi
theorem take_snoc {M : List (List UInt8)} {m : Nat} (h : m < M.length) : M.take (m + 1) = M.take m ++ [M.getD m []] := by
  rw [List.take_add_one, List.getElem?_eq_getElem h]
  simp [List.getD, h]
theorem getLast_at {L : List BPart} {x : BPart} : (L ++ [x])[L.length]? = some x := by simp
end Go.Proofs.YtnbhgnkkedainaaDoor
