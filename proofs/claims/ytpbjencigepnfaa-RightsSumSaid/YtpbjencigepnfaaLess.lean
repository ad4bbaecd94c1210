/- Contracts of rights.less, slices.Grow and slices.Concat of ints. -/
import Derived.Test.YtpbjencigepnfaaInts
import Derived.Lib.AppendZeros
import Derived.Deep.OwnRows
import Derived.Test.YtpbjencigepnfaaRts
namespace Go.Proofs.Ytpbjencigepnfaa
open Go.ChangeShapes Go.WideShapes Go.ChangeAt Go.RowKit

/-- A number with its sign turned, as 64 bits bear it. -/
def ng (z : Int) : Int := wrap64 (-z)
def negs (zs : List Int) : List Int := zs.map ng
theorem negs_length (zs : List Int) : (negs zs).length = zs.length := by simp [negs]
theorem negs_get {zs : List Int} {k : Nat} (h : k < zs.length) : (negs zs).getD k 0 = ng (zs.getD k 0) := by simp [negs, List.getD, h]

theorem made_zero (n : Nat) : madeCells #[Value.int .i64 0] n = (vals (zer n)).toArray := by
  apply Array.ext
  · simp [madeCells, vals_length, zer_length]
  · intro i h1 h2
    simp only [madeCells, vals, zer]; simp [Nat.mod_one]
/-- A row of n zeros, made. -/
theorem make_ints {ops : Array Oper} {rest : List Oper} {o : Oper} {a : Act} {w u : World} {l : List (Nat × TypeId × List Int)} {Q : Exit → Act → World → Prop} (hk : KeepR w l u) (n : Nat) (hn : n ≤ 1048576)
    (hgd : o.guard = none) (x y : Operand) (ho : o.op = .makeSlice 51 x y) (hx : a.eval x = .int .i64 (n : Int)) (hy : a.eval y = .int .i64 (n : Int))
    (h : ∀ b u', KeepR w ((b, 3, zer n) :: l) u' → wpList Try.prog ops Q rest (a.put o.dst (.slice (some ⟨b, 0, none⟩) n n)) u') : wpList Try.prog ops Q (o :: rest) a u :=
  wpList_plain hgd fun K hK => by
    have e := run_make_row' (P := Try.prog) 51 3 (.int .i64 0) 8 Try.underlying51 int_info rfl .i64 .i64 n (by omega) (by omega) u
    rw [made_zero] at e
    unfold Oper.wp execOp
    simp only [ho, hx, hy, Sem.run_bind, Sem.run_pure, Result.andThen_ok, e]
    exact hK _ _ (h _ _ (hk.new rfl))

theorem less_any (b0 off cap len : Nat) (zs : List Int) (hlen : len ≤ 1000) (w : World) (hr : Reads w (some ⟨b0, off, none⟩) len zs) (h0 : 0 < len) :
    Calls Try.prog 32 #[.slice (some ⟨b0, off, none⟩) len cap] w fun e w' => ∃ b, e = .returned (.slice (some ⟨b, 0, none⟩) len len) ∧ KeepR w [(b, 3, negs zs)] w' := by
  obtain ⟨hl, hm, hx⟩ := hr
  have hc : ∀ i, i < len → w.cell? ⟨b0, off + i, none⟩ = some (.int .i64 (zs.getD i 0)) := by
    rcases hx with h | ⟨b, o, h, hc⟩
    · omega
    · injection h with h; injection h with h1 h2; subst h1; subst h2; exact hc
  clear hx hm
  have HL := Lib.hid hl; clear hl
  have HC := Lib.hid hc; clear hc
  have HK := Lib.hid (KeepR.start w)
  go_enter Try.func32, Try.ntmps32
  go_wp2_with (first
    | (with_reducible refine make_ints HK.out len (by omega) rfl _ _ rfl rfl rfl ?_; intro b u hk; clear HK; have HK := Lib.hid hk; clear hk))
  go_loopw [11] (fun i wr => ∃ k : Nat, k ≤ len ∧ i = .int .i64 k ∧ KeepR w [(b, 3, mix k (negs zs) (zer len))] wr) (fun i _ => len - (intOf i).toNat)
  case atStart => exact ⟨0, by omega, rfl, (mix_zero _ _).symm ▸ HK.out⟩
  case round =>
    obtain ⟨k, hk, rfl, hM⟩ := hrel
    clear HK
    have HM := Lib.hid hM
    clear hM
    have hml : (negs zs).length = (zer len).length := by rw [negs_length, zer_length, HL.out]
    by_cases hlt : k < len
    · have c0 := HC.out k hlt
      have hcell : wr.cell? ⟨b0, off + k, none⟩ = some (.int .i64 (zs.getD k 0)) := by rw [HM.out.bel.cell (cell_lt c0)]; exact c0
      have c1 := (HM.out.get 0 rfl).cell (k := k) (by rw [mix_length hml, zer_length]; omega)
      have f1 := (HM.out.get 0 rfl).frozen k
      have hm := mix_set (k := k) hml (by rw [zer_length]; omega)
      rw [negs_get (by rw [HL.out]; omega)] at hm
      generalize hz : zs.getD k 0 = z at hcell hm
      clear hz c0
      have Hm := Lib.hid hm; clear hm
      have i1 : (0 : Int) ≤ (k : Int) := by omega
      have i2 : (k : Int) < (len : Int) := by omega
      go_wp2
      go_roundw
      case rel =>
        refine ⟨k + 1, by omega, by go_num, ?_⟩
        have := HM.out.put 0 rfl ((HM.out.get 0 rfl).setCell k (ng z)) (fun j hj => heap_setCell_other wr ⟨b, k, none⟩ j _ hj) (HM.out.bel.setCell (p := ⟨b, k, none⟩) (HM.out.blk _ (List.mem_singleton_self _)).1 _)
        rw [Hm.out] at this
        exact this
      case measure => simp [intOf]; omega
    · have hM := HM.out
      rw [mix_all hml (by rw [zer_length]; omega)] at hM
      have HN := Lib.hid hM; clear hM HM
      go_wp2
      go_ret
      exact ⟨b, rfl, HN.out⟩
end Go.Proofs.Ytpbjencigepnfaa
