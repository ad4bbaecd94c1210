/- Several vectors that are kept, each in a block of its own, while calls make memory; and what joining, and being over, hang on. -/
import Derived.Test.YtpbjencigepnfaaCalm
namespace Go.Proofs.Ytpbjencigepnfaa
open Go.ChangeShapes Go.WideShapes Go.ChangeAt Go.RowKit

/-- Below w's end all is as it was; in each of these blocks lies this vector. -/
def Keep (w : World) (l : List (Nat × List Int)) (u : World) : Prop := Below w.heap.size w u ∧ ∀ x ∈ l, Blk u x.1 23 x.2 ∧ x.2.length = 16

theorem Keep.call {w u u' : World} {l : List (Nat × List Int)} (h : Keep w l u) (hb : Below u.heap.size u u') : Keep w l u' :=
  ⟨h.1.trans (hb.mono h.1.size), fun x hx => ⟨(h.2 x hx).1.below hb (h.2 x hx).1.lt, (h.2 x hx).2⟩⟩
theorem Keep.drew {w u : World} {l : List (Nat × List Int)} (h : Keep w l u) : Keep w l u.drew := ⟨h.1.drew, h.2⟩
theorem Keep.drewN {w u : World} {l : List (Nat × List Int)} (h : Keep w l u) (n : Nat) : Keep w l (u.drewN n) := ⟨below_drewN h.1 n, h.2⟩
theorem Keep.get {w u : World} {l : List (Nat × List Int)} (h : Keep w l u) (i : Nat) {b : Nat} {zs : List Int} (hi : l[i]? = some (b, zs)) : Blk u b 23 zs := (h.2 _ (List.mem_of_getElem? hi)).1
theorem Keep.len {w u : World} {l : List (Nat × List Int)} (h : Keep w l u) (i : Nat) {b : Nat} {zs : List Int} (hi : l[i]? = some (b, zs)) : zs.length = 16 := (h.2 _ (List.mem_of_getElem? hi)).2
theorem Keep.cons {w u : World} {l : List (Nat × List Int)} (h : Keep w l u) {b : Nat} {zs : List Int} (hb : Blk u b 23 zs) (hl : zs.length = 16) : Keep w ((b, zs) :: l) u :=
  ⟨h.1, fun x hx => by
    rcases List.mem_cons.1 hx with rfl | hx
    · exact ⟨hb, hl⟩
    · exact h.2 x hx⟩
theorem Keep.refl (w : World) : Keep w [] w := ⟨Below.refl _ _, by simp⟩
theorem Keep.new {w u : World} {l : List (Nat × List Int)} (h : Keep w l u) {zs : List Int} (hl : zs.length = 16) {n : Nat} (hn : u.heap.size = n) : Keep w ((n, zs) :: l) (u.alloc (.cells (vals zs).toArray 23)) := by
  subst hn
  exact (h.call (box u _ zs).2).cons (box u _ zs).1 hl

theorem keep1 (w : World) {xs : List Int} (hx : xs.length = 16) : Keep w [(w.heap.size, xs)] (w.alloc (.cells (vals xs).toArray 23)) := (Keep.refl w).new hx rfl
theorem keep2 (w : World) {xs ys : List Int} (hx : xs.length = 16) (hy : ys.length = 16) : Keep w [(w.heap.size + 1, ys), (w.heap.size, xs)] ((w.alloc (.cells (vals xs).toArray 23)).alloc (.cells (vals ys).toArray 23)) :=
  (keep1 w hx).new hy (by simp)
theorem keep3 (w : World) {xs ys zs : List Int} (hx : xs.length = 16) (hy : ys.length = 16) (hz : zs.length = 16) :
    Keep w [(w.heap.size + 1 + 1, zs), (w.heap.size + 1, ys), (w.heap.size, xs)] (((w.alloc (.cells (vals xs).toArray 23)).alloc (.cells (vals ys).toArray 23)).alloc (.cells (vals zs).toArray 23)) :=
  (keep2 w hx hy).new hz (by simp)

theorem Keep.calls {w : World} {l : List (Nat × List Int)} {f : FuncId} {args : Array Value} {s : Kept fun u => Keep w l u} {v : Value}
    (h : Calls Try.prog f args s.u fun e w' => e = .returned v ∧ Below s.u.heap.size s.u w') : Calls Try.prog f args s.u fun e w' => e = .returned v ∧ ∃ s' : Kept fun u => Keep w l u, w' = s'.u :=
  calls_calm (fun h hb => Keep.call h hb) h

theorem wpList_load_keep {ops : Array Oper} {rest : List Oper} {o : Oper} {a : Act} {w u : World} {l : List (Nat × List Int)} {Q : Exit → Act → World → Prop} (hk : Keep w l u) (i : Nat) (hgd : o.guard = none) (x : Operand) (ho : o.op = .load 23 x)
    {b : Nat} {zs : List Int} (hi : l[i]? = some (b, zs)) (hx : a.eval x = .pointer (some ⟨b, 0, none⟩)) (h : wpList Try.prog ops Q rest (a.put o.dst (.agg (vals zs).toArray)) u) : wpList Try.prog ops Q (o :: rest) a u :=
  wpList_load_vec hgd x ho b hx zs (hk.get i hi) (hk.len i hi) h
theorem wpList_want_keep {ops : Array Oper} {rest : List Oper} {o : Oper} {a : Act} {w u : World} {l : List (Nat × List Int)} {Q : Exit → Act → World → Prop} (hk : Keep w l u) (i : Nat) (x : Operand) (ho : o.op = .load 23 x)
    {b : Nat} {zs : List Int} (hi : l[i]? = some (b, zs)) (hx : a.eval x = .pointer (some ⟨b, 0, none⟩)) (hw : Region.wanted o (yielded ops a.tmps) = true) (h : wpList Try.prog ops Q rest (a.put o.dst (.agg (vals zs).toArray)) u) : wpList Try.prog ops Q (o :: rest) a u :=
  wpList_load_want x ho hw b hx zs (hk.get i hi) (hk.len i hi) h
theorem quiet_load_keep {o : Oper} {a : Act} {w : World} {l : List (Nat × List Int)} {K : Act → Prop} (i : Nat) (x : Operand) (ho : o.op = .load 23 x) {b : Nat} {zs : List Int} (hi : l[i]? = some (b, zs)) (hl : zs.length = 16)
    (hx : a.eval x = .pointer (some ⟨b, 0, none⟩)) (hk : K (a.put o.dst (.agg (vals zs).toArray))) : o.quiet Try.prog a (fun w' => ∃ s : Kept fun u => Keep w l u, w' = s.u) K :=
  quiet_load_vec x ho b hx zs (fun _ ⟨s, hs⟩ => hs ▸ (s.ok.get i hi).range) hl hk

/-! ### Joining, and being over. -/
theorem joinL_comm {xs ys : List Int} (hx : xs.length = 16) (hy : ys.length = 16) : joinL ys xs = joinL xs ys :=
  ext_get (by rw [joinL_length hx hy, joinL_length hy hx]) fun k hk => by
    rw [joinL_length hy hx] at hk
    rw [joinL_get (by omega) (by omega), joinL_get (by omega) (by omega)]; omega
theorem joinL_assoc {xs ys zs : List Int} (hx : xs.length = 16) (hy : ys.length = 16) (hz : zs.length = 16) : joinL xs (joinL ys zs) = joinL (joinL xs ys) zs := by
  have h1 := joinL_length hx hy
  have h2 := joinL_length hy hz
  refine ext_get (by rw [joinL_length hx h2, joinL_length h1 hz]) fun k hk => ?_
  rw [joinL_length hx h2] at hk
  rw [joinL_get (by omega) (by omega), joinL_get (by omega) (by omega), joinL_get (by omega) (by omega), joinL_get (by omega) (by omega)]; omega
theorem joinL_self {xs : List Int} (hx : xs.length = 16) : joinL xs xs = xs :=
  ext_get (by rw [joinL_length hx hx, hx]) fun k hk => by
    rw [joinL_length hx hx] at hk
    rw [joinL_get (by omega) (by omega)]; omega
theorem over_self {xs : List Int} (hx : xs.length = 16) : overB xs xs = true := (overB_iff hx hx).2 fun _ _ => Int.le_refl _
theorem over_l {xs ys : List Int} (hx : xs.length = 16) (hy : ys.length = 16) : overB (joinL xs ys) xs = true := (overB_iff (joinL_length hx hy) hx).2 fun k hk => by rw [joinL_get (by omega) (by omega)]; omega
theorem over_r {xs ys : List Int} (hx : xs.length = 16) (hy : ys.length = 16) : overB (joinL xs ys) ys = true := (overB_iff (joinL_length hx hy) hy).2 fun k hk => by rw [joinL_get (by omega) (by omega)]; omega
theorem over_least {xs ys zs : List Int} (hx : xs.length = 16) (hy : ys.length = 16) (hz : zs.length = 16) (h1 : overB zs xs = true) (h2 : overB zs ys = true) : overB zs (joinL xs ys) = true :=
  (overB_iff hz (joinL_length hx hy)).2 fun k hk => by
    rw [joinL_get (by omega) (by omega)]
    have := (overB_iff hz hx).1 h1 k hk
    have := (overB_iff hz hy).1 h2 k hk
    omega
theorem over_through {xs ys zs : List Int} (hx : xs.length = 16) (hy : ys.length = 16) (hz : zs.length = 16) (h1 : overB xs ys = true) (h2 : overB ys zs = true) : overB xs zs = true :=
  (overB_iff hx hz).2 fun k hk => by
    have := (overB_iff hx hy).1 h1 k hk
    have := (overB_iff hy hz).1 h2 k hk
    omega
theorem over_one {xs ys : List Int} (hx : xs.length = 16) (hy : ys.length = 16) (h1 : overB xs ys = true) (h2 : overB ys xs = true) : xs = ys :=
  ext_get (by omega) fun k hk => by
    have := (overB_iff hx hy).1 h1 k (by omega)
    have := (overB_iff hy hx).1 h2 k (by omega)
    omega
end Go.Proofs.Ytpbjencigepnfaa
