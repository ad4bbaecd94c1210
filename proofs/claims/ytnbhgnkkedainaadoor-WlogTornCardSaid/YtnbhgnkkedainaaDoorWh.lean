/- Contracts of the document's Append and Compact. -/
import Derived.Test.YtnbhgnkkedainaaDoorWg
namespace Go.Proofs.YtnbhgnkkedainaaDoor
open Go.ChangeShapes Go.WideShapes Go.ChangeAt Go.RowKit

theorem rbytes_n (A : Option Addr) (n c : Nat) (L : List BPart) (M : List (List UInt8)) (hLM : txt L = M) (s : Nat) (hs : (fls M).length = s) (hp : ∀ p ∈ M, p.length ≤ 32768) (hf : s ≤ 1000000) (w : World) (hL : LL w A n L) :
    Calls Tryd.prog 23 #[.slice A n c] w fun e w' => ∃ A' c', (e = .returned (.slice A' s c') ∧ s ≤ c') ∧ KO w (.slice A' s c') (fls M) w' := by
  subst hs
  exact rbytes_any A n c L M hLM hp hf w hL
/-- A record for which there is no room: nothing changes. -/
theorem radd_full (z : Nat) (hz : z ≤ 1048576) (A : Option Addr) (n c : Nat) (L : List BPart) (M : List (List UInt8)) (hLM : txt L = M) (hp : ∀ p ∈ M, p.length ≤ 32768) (s : Nat) (hs0 : (fls M).length = s) (hs : s ≤ 1000000) (B : Option Addr) (k cb : Nat) (hk : k ≤ 32768) (hroom : z < s + k + 8) (w : World) (hL : LL w A n L) :
    Calls Tryd.prog 13 #[.agg #[.int .i64 (z : Int), .slice A n c], .slice B k cb] w fun e w' => e = .returned (.tuple #[.agg #[.int .i64 (z : Int), .slice A n c], .int .i64 7]) ∧ Below w.heap.size w w' := by
  have HTX := Lib.hid hLM; have HMP := Lib.hid hp; have HS1 := Lib.hid hs0; have HLL := Lib.hid hL
  clear hLM hp hs0 hL
  have HK := Lib.hid (Kg.start w)
  have i1 : ¬ (32768 : Int) < (k : Int) := by omega
  have HW1 := Lib.hid (show IntKind.i64.wrap ((s : Int) + (k : Int)) = ((s + k : Nat) : Int) by rw [IntKind.wrap_i64]; omega)
  have HW2 := Lib.hid (show IntKind.i64.wrap (((s + k : Nat) : Int) + 8) = ((s + k + 8 : Nat) : Int) by rw [IntKind.wrap_i64]; omega)
  have HG := Lib.hid (show decide ((z : Int) < ((s + k + 8 : Nat) : Int)) = true by simp; omega)
  clear hroom
  generalize s + k + 8 = s2 at *
  generalize s + k = s1 at *
  go_enter Tryd.func13, Tryd.ntmps13
  go_wp2_with (first
    | ((with_reducible refine box_k (cs := [.int .i64 z, .slice A n c]) HK.out rfl _ rfl rfl ?_); intro b2 u hk; clear HK; have HK := Lib.hid hk; clear hk)
    | ((with_reducible refine alloc_k HK.out g_zero rfl rfl ?_); intro b4 u hk; clear HK; have HK := Lib.hid hk; clear hk))
  refine Draws.start (S := fun u' : World => Kg w (fun _ => False) [Th.cel b4 33 [.int .i64 0, .slice none 0 0], Th.cel b2 33 [.int .i64 (z : Int), .slice A n c]] [] u') (n := 11) 11 rfl (by kernel_rfl) ?_
  have HS := Lib.hid (show (fun u' : World => Kg w (fun _ => False) [Th.cel b4 33 [.int .i64 0, .slice none 0 0], Th.cel b2 33 [.int .i64 (z : Int), .slice A n c]] [] u') (World.drew _) from HK.out.drew)
  clear HK
  refine Draws.take 0 (v := ?v1) HS.out rfl (by kernel_rfl) (fun _ _ _ h => h) (Or.inl ⟨rfl, ?h1⟩) ?r1
  case h1 => intro w' hw'; go_simp; (try with_reducible rfl)
  (try simp only [Act.put, List.setIfInBounds_toArray, List.set_cons_zero, List.set_cons_succ])
  refine Draws.take 1 HS.out rfl (by kernel_rfl) (fun _ _ _ h => h) (yield_t rfl (fun _ h => (h.celAt 1 rfl).cell rfl) _ rfl rfl rfl) ?_
  (try simp only [Act.put, List.setIfInBounds_toArray, List.set_cons_zero, List.set_cons_succ])
  refine Draws.take 4 (v := ?v2) HS.out rfl (by kernel_rfl) (fun _ _ _ h => h) (Or.inl ⟨rfl, ?h2⟩) ?r2
  case h2 => intro w' hw'; go_simp; (try with_reducible rfl)
  (try simp only [Act.put, List.setIfInBounds_toArray, List.set_cons_zero, List.set_cons_succ])
  refine Draws.take 5 (v := ?v3) HS.out rfl (by kernel_rfl) (fun _ _ _ h => h) (Or.inl ⟨rfl, ?h3⟩) ?r3
  case h3 => intro w' hw'; go_simp; (try with_reducible rfl)
  (try simp only [Act.put, List.setIfInBounds_toArray, List.set_cons_zero, List.set_cons_succ])
  refine Draws.take 8 (v := ?v4) HS.out rfl (by kernel_rfl) (fun _ _ _ h => h) (Or.inl ⟨rfl, ?h4⟩) ?r4
  case h4 => intro w' hw'; go_simp; (try with_reducible rfl)
  (try simp only [Act.put, List.setIfInBounds_toArray, List.set_cons_zero, List.set_cons_succ])
  refine Draws.take 9 HS.out rfl (by kernel_rfl) (fun _ _ _ h => h) (yield_t rfl (fun _ h => (h.celAt 1 rfl).cell rfl) _ rfl rfl rfl) ?_
  (try simp only [Act.put, List.setIfInBounds_toArray, List.set_cons_zero, List.set_cons_succ])
  refine Draws.does 2 rfl (by kernel_rfl) rfl (fun K' hK => ?_)
  go_simp
  go_at_call 23
  refine (rbytes_n A n c L M HTX.out s HS1.out HMP.out hs _ (HLL.out.below HS.out.mf.bel)).mono ?_
  rintro e u ⟨A7, c7, ⟨rfl, _⟩, hk⟩
  (try dsimp only)
  refine hK.out _ _ (fun _ => HS.out.call hk.bel) ?_
  clear hK K'
  have hs := HS.out.call hk.bel
  clear HS hk
  have HS := Lib.hid hs; clear hs
  (try simp only [Act.put, List.setIfInBounds_toArray, List.set_cons_zero, List.set_cons_succ])
  refine Draws.take 3 (v := ?v5) HS.out rfl (by kernel_rfl) (fun _ _ _ h => h) (Or.inl ⟨rfl, ?h5⟩) ?r5
  case h5 => intro w' hw'; go_simp; (try with_reducible rfl)
  (try simp only [Act.put, List.setIfInBounds_toArray, List.set_cons_zero, List.set_cons_succ])
  refine Draws.take 6 HS.out rfl (by kernel_rfl) (fun _ _ _ h => h) (yield_add HW1.out _ _ _ rfl rfl rfl rfl) ?_
  (try simp only [Act.put, List.setIfInBounds_toArray, List.set_cons_zero, List.set_cons_succ])
  refine Draws.take 7 HS.out rfl (by kernel_rfl) (fun _ _ _ h => h) (yield_add HW2.out _ _ _ rfl rfl rfl rfl) ?_
  (try simp only [Act.put, List.setIfInBounds_toArray, List.set_cons_zero, List.set_cons_succ])
  refine Draws.take 10 HS.out rfl (by kernel_rfl) (fun _ _ _ h => h) (yield_gtr HG.out _ _ _ rfl rfl rfl rfl) ?_
  (try simp only [Act.put, List.setIfInBounds_toArray, List.set_cons_zero, List.set_cons_succ])
  refine Draws.done (by kernel_rfl) ?_
  have HK := Lib.hid HS.out
  clear HS
  go_wp2_with (first
    | (with_reducible refine load_kr HK.out 1 Tryd.underlying33 rfl g_info _ rfl rfl rfl rfl rfl ?_)
    | ((with_reducible refine store_kr (xs := [.int .i64 z, .slice A n c]) HK.out 0 g_info rfl rfl _ _ rfl rfl rfl rfl (by simp) (by simp) (by simp [Value.oneCell']) ?_); intro u hk; simp only [List.set_cons_zero] at hk; clear HK; have HK := Lib.hid hk; clear hk))
  refine bodyPost_ret (results_k2 rfl Tryd.underlying33 rfl g_info _ HK.out 0 _ rfl rfl rfl rfl) rfl ?_
  exact ⟨rfl, HK.out.mf.bel⟩
/-- What a record more leaves. -/
def Adds (w : World) (z : Int) (_A : Option Addr) (n : Nat) (L : List BPart) (x : BPart) (e : Ending) (w' : World) : Prop :=
  ∃ A' c', e = .returned (.tuple #[.agg #[.int .i64 z, .slice A' (n + 1) c'], .int .i64 0]) ∧ n + 1 ≤ c' ∧ Below w.heap.size w w' ∧ LL w' A' (n + 1) (L ++ [x]) ∧ ∀ a, A' = some a → w.heap.size ≤ a.block
theorem LL.part {w : World} {A : Option Addr} {n : Nat} {L : List BPart} (h : LL w A n L) {x : BPart} (hx : x ∈ L) : Bys w x.1 x.2.2 := by
  obtain ⟨i, hi⟩ := List.mem_iff_getElem?.1 hx
  obtain ⟨h1, h2⟩ := h
  rcases h2 with h2 | ⟨b, off, _, h3⟩
  · have := (List.getElem?_eq_some_iff.1 hi).1; omega
  · exact (h3 i x hi).2
theorem adds_of {w u : World} {own ro : List Th} {z : Int} {A A5 : Option Addr} {n c5 : Nat} {L : List BPart} {x : BPart} (h : Kg w (fun _ => False) (Th.rl (.slice A5 (n + 1) c5) (L ++ [x]) :: own) ro u) (hL : LL w A n L) (hB : Bys w x.1 x.2.2) (hc : n + 1 ≤ c5) :
    Adds w z A n L x (.returned (.tuple #[.agg #[.int .i64 z, .slice A5 (n + 1) c5], .int .i64 0])) u := by
  have ho : u.ownsRow 0 34 1 (.slice A5 (n + 1) c5) (L ++ [x]).length (prts (L ++ [x])) := h.get 0 rfl
  have hb := h.mf.bel
  refine ⟨A5, c5, rfl, hc, hb, ⟨by rw [List.length_append, hL.1]; rfl, ?_⟩, fun a ha => ?_⟩
  · rcases ho.2 with ⟨_, h0⟩ | ⟨g, cap, cur, h1, _⟩
    · rw [List.length_append] at h0; simp at h0
    · injection h1 with e1 e2 e3
      subst e1
      refine .inr ⟨g, 0, rfl, fun i y hy => ⟨?_, ?_⟩⟩
      · have hpx : (prts (L ++ [x]))[i]? = some (prt y) := by simp only [prts, List.getElem?_map, hy, Option.map_some]
        have := ho.cells (g := g) rfl i _ hpx
        rwa [Go.WideShapes.add_plain] at this
      · rcases List.mem_append.1 (List.mem_of_getElem? hy) with hy | hy
        · exact (hL.part hy).below hb
        · obtain rfl := List.mem_singleton.1 hy
          exact hB.below hb
  · exact (h.cov (Th.rl (.slice A5 (n + 1) c5) (L ++ [x])) (by simp) a.block (by subst ha; rfl)).resolve_left id
set_option maxRecDepth 100000 in
theorem radd_any (z : Nat) (hz : z ≤ 1048576) (A : Option Addr) (n c : Nat) (L : List BPart) (M : List (List UInt8)) (hLM : txt L = M) (hp : ∀ p ∈ M, p.length ≤ 32768) (s : Nat) (hs0 : (fls M).length = s) (hs : s ≤ 1000000) (B : Option Addr) (k cb : Nat) (p : List UInt8) (hpk : p.length = k) (hk : k ≤ 32768) (hroom : s + k + 8 ≤ z) (w : World) (hL : LL w A n L) (hB : Bys w B p) :
    Calls Tryd.prog 13 #[.agg #[.int .i64 (z : Int), .slice A n c], .slice B k cb] w (Adds w z A n L (B, cb, p)) := by
  have hn : L.length = n := hL.1
  have hnx : n ≤ 1000000 := by have := fls_le M; rw [← hLM, txt_length, hn, hLM] at this; omega
  have HB := Lib.hid hB; have HPK := Lib.hid hpk
  clear hB hpk
  have HTX := Lib.hid hLM; have HMP := Lib.hid hp; have HS1 := Lib.hid hs0; have HLL := Lib.hid hL
  clear hLM hp hs0 hL
  have HK := Lib.hid (Kg.start w)
  have i1 : ¬ (32768 : Int) < (k : Int) := by omega
  have HW1 := Lib.hid (show IntKind.i64.wrap ((s : Int) + (k : Int)) = ((s + k : Nat) : Int) by rw [IntKind.wrap_i64]; omega)
  have HW2 := Lib.hid (show IntKind.i64.wrap (((s + k : Nat) : Int) + 8) = ((s + k + 8 : Nat) : Int) by rw [IntKind.wrap_i64]; omega)
  have HG := Lib.hid (show decide ((z : Int) < ((s + k + 8 : Nat) : Int)) = false by simp; omega)
  clear hroom
  generalize s + k + 8 = s2 at *
  generalize s + k = s1 at *
  have T1 := True.intro
  go_enter Tryd.func13, Tryd.ntmps13
  go_wp2_with (first
    | ((with_reducible refine box_k (cs := [.int .i64 z, .slice A n c]) HK.out rfl _ rfl rfl ?_); intro b2 u hk; clear HK; have HK := Lib.hid hk; clear hk)
    | ((with_reducible refine alloc_k HK.out g_zero rfl rfl ?_); intro b4 u hk; clear HK; have HK := Lib.hid hk; clear hk))
  refine Draws.start (S := fun u' : World => Kg w (fun _ => False) [Th.cel b4 33 [.int .i64 0, .slice none 0 0], Th.cel b2 33 [.int .i64 (z : Int), .slice A n c]] [] u') (n := 11) 11 rfl (by kernel_rfl) ?_
  have HS := Lib.hid (show (fun u' : World => Kg w (fun _ => False) [Th.cel b4 33 [.int .i64 0, .slice none 0 0], Th.cel b2 33 [.int .i64 (z : Int), .slice A n c]] [] u') (World.drew _) from HK.out.drew)
  clear HK
  refine Draws.take 0 (v := ?v6) HS.out rfl (by kernel_rfl) (fun _ _ _ h => h) (Or.inl ⟨rfl, ?h6⟩) ?r6
  case h6 => intro w' hw'; go_simp; (try with_reducible rfl)
  (try simp only [Act.put, List.setIfInBounds_toArray, List.set_cons_zero, List.set_cons_succ])
  refine Draws.take 1 HS.out rfl (by kernel_rfl) (fun _ _ _ h => h) (yield_t rfl (fun _ h => (h.celAt 1 rfl).cell rfl) _ rfl rfl rfl) ?_
  (try simp only [Act.put, List.setIfInBounds_toArray, List.set_cons_zero, List.set_cons_succ])
  refine Draws.take 4 (v := ?v7) HS.out rfl (by kernel_rfl) (fun _ _ _ h => h) (Or.inl ⟨rfl, ?h7⟩) ?r7
  case h7 => intro w' hw'; go_simp; (try with_reducible rfl)
  (try simp only [Act.put, List.setIfInBounds_toArray, List.set_cons_zero, List.set_cons_succ])
  refine Draws.take 5 (v := ?v8) HS.out rfl (by kernel_rfl) (fun _ _ _ h => h) (Or.inl ⟨rfl, ?h8⟩) ?r8
  case h8 => intro w' hw'; go_simp; (try with_reducible rfl)
  (try simp only [Act.put, List.setIfInBounds_toArray, List.set_cons_zero, List.set_cons_succ])
  refine Draws.take 8 (v := ?v9) HS.out rfl (by kernel_rfl) (fun _ _ _ h => h) (Or.inl ⟨rfl, ?h9⟩) ?r9
  case h9 => intro w' hw'; go_simp; (try with_reducible rfl)
  (try simp only [Act.put, List.setIfInBounds_toArray, List.set_cons_zero, List.set_cons_succ])
  refine Draws.take 9 HS.out rfl (by kernel_rfl) (fun _ _ _ h => h) (yield_t rfl (fun _ h => (h.celAt 1 rfl).cell rfl) _ rfl rfl rfl) ?_
  (try simp only [Act.put, List.setIfInBounds_toArray, List.set_cons_zero, List.set_cons_succ])
  refine Draws.does 2 rfl (by kernel_rfl) rfl (fun K' hK => ?_)
  go_simp
  go_at_call 23
  refine (rbytes_n A n c L M HTX.out s HS1.out HMP.out hs _ (HLL.out.below HS.out.mf.bel)).mono ?_
  rintro e u ⟨A7, c7, ⟨rfl, _⟩, hk⟩
  (try dsimp only)
  refine hK.out _ _ (fun _ => HS.out.call hk.bel) ?_
  clear hK K'
  have hs := HS.out.call hk.bel
  clear HS hk
  have HS := Lib.hid hs; clear hs
  (try simp only [Act.put, List.setIfInBounds_toArray, List.set_cons_zero, List.set_cons_succ])
  refine Draws.take 3 (v := ?v10) HS.out rfl (by kernel_rfl) (fun _ _ _ h => h) (Or.inl ⟨rfl, ?h10⟩) ?r10
  case h10 => intro w' hw'; go_simp; (try with_reducible rfl)
  (try simp only [Act.put, List.setIfInBounds_toArray, List.set_cons_zero, List.set_cons_succ])
  refine Draws.take 6 HS.out rfl (by kernel_rfl) (fun _ _ _ h => h) (yield_add HW1.out _ _ _ rfl rfl rfl rfl) ?_
  (try simp only [Act.put, List.setIfInBounds_toArray, List.set_cons_zero, List.set_cons_succ])
  refine Draws.take 7 HS.out rfl (by kernel_rfl) (fun _ _ _ h => h) (yield_add HW2.out _ _ _ rfl rfl rfl rfl) ?_
  (try simp only [Act.put, List.setIfInBounds_toArray, List.set_cons_zero, List.set_cons_succ])
  refine Draws.take 10 HS.out rfl (by kernel_rfl) (fun _ _ _ h => h) (yield_gtr HG.out _ _ _ rfl rfl rfl rfl) ?_
  (try simp only [Act.put, List.setIfInBounds_toArray, List.set_cons_zero, List.set_cons_succ])
  refine Draws.done (by kernel_rfl) ?_
  have HK := Lib.hid HS.out
  clear HS
  go_wp2_with (first
    | ((with_reducible refine buildL_k HK.out rfl rfl ?_); intro v0 u hk; clear HK; have HK := Lib.hid hk; clear hk)
    | (with_reducible refine load_k1 HK.out 2 rfl _ rfl rfl rfl rfl rfl ?_)
    | (clear T1; (refine appL_k HK.out 0 rfl (HLL.out.below HK.out.mf.bel) rfl _ _ rfl rfl rfl (by simp; omega) ?_); intro v1 u hk; simp only [List.set_cons_zero, List.nil_append] at hk; clear HK; have HK := Lib.hid hk; clear hk)
    | ((refine appL_k (HK.out.call (below_new _ _)) 0 rfl (ll_one _ HPK.out (HB.out.below HK.out.mf.bel)) rfl _ _ rfl rfl rfl (by omega) ?_); intro v2 u hk; obtain ⟨A5, c5, rfl, hc5⟩ := row_slice (hk.get 0 rfl); rw [List.length_append, List.length_singleton, hn] at hk hc5; simp only [List.set_cons_zero] at hk; clear HK; have HK := Lib.hid hk; have HC5 := Lib.hid hc5; clear hk hc5)
    | ((with_reducible refine store_k1 (v := .slice A5 (n + 1) c5) (es := [.int .i64 (z : Int), .slice A5 (n + 1) c5]) HK.out 2 rfl rfl rfl _ _ rfl rfl rfl rfl rfl (by simp) rfl ?_); intro u hk; simp only [List.set_cons_zero, List.set_cons_succ] at hk; clear HK; have HK := Lib.hid hk; clear hk)
    | (with_reducible refine load_kr HK.out 2 Tryd.underlying33 rfl g_info _ rfl rfl rfl rfl rfl ?_)
    | ((with_reducible refine store_kr (xs := [.int .i64 (z : Int), .slice A5 (n + 1) c5]) HK.out 1 g_info rfl rfl _ _ rfl rfl rfl rfl (by simp) (by simp) (by simp [Value.oneCell']) ?_); intro u hk; simp only [List.set_cons_zero, List.set_cons_succ] at hk; clear HK; have HK := Lib.hid hk; clear hk))
  refine bodyPost_ret (results_k2 rfl Tryd.underlying33 rfl g_info _ HK.out 1 _ rfl rfl rfl rfl) rfl ?_
  exact adds_of HK.out HLL.out HB.out HC5.out
theorem lowL (a : Option Addr) (len cap K : Nat) (h : K ≤ len) (h2 : len ≤ cap) (W : World) : (Instr.slice 31 (.slice a len cap) (some (.int .i64 (K : Int))) none none).run Tryd.prog W = .ok (.slice (lowA a cap K) (len - K) (cap - K)) W := by
  obtain ⟨i0, hi0, hz0, hz1, hz2⟩ := info_parts s_info
  simp [Instr.slice, run_underlying Tryd.underlying31, Instr.sliceBounds, Instr.sliceBound, asIntOf, sizeOf, typeInfo, hi0, h, lowA, hz1]
  by_cases h3 : cap = K
  · simp [h3]
  · rw [if_neg h3, if_neg (by omega)]
theorem low_sliceL {w : World} {ops : Array Oper} {rest : List Oper} {o : Oper} {a : Act} {Q : Exit → Act → World → Prop} {A : Option Addr} {n c K : Nat} (hK : K ≤ n) (hn : n ≤ c) (hgd : o.guard = none) (x y : Operand) (ho : o.op = .slice 31 x (some y) none none) (hx : a.eval x = .slice A n c) (hy : a.eval y = .int .i64 (K : Int))
    (h : wpList Tryd.prog ops Q rest (a.put o.dst (.slice (lowA A c K) (n - K) (c - K))) w) : wpList Tryd.prog ops Q (o :: rest) a w :=
  wpList_plain hgd fun _ hQ => by
    have e := lowL A n c K hK hn w
    unfold Oper.wp execOp
    simp only [ho, hx, Option.map_some, Option.map_none, hy, Sem.run_bind]
    simp [Instr.sliceAt, e]
    exact hQ _ _ h
theorem LL.low {w : World} {A : Option Addr} {n c : Nat} {L : List BPart} (h : LL w A n L) (hc : n ≤ c) {K : Nat} (hK : K ≤ n) : LL w (lowA A c K) (n - K) (L.drop K) := by
  obtain ⟨h1, h2⟩ := h
  refine ⟨by rw [List.length_drop, h1], ?_⟩
  by_cases hnk : n - K = 0
  · exact .inl hnk
  · right
    rcases h2 with h2 | ⟨b, off, rfl, h3⟩
    · omega
    · refine ⟨b, off + K, ?_, fun i x hx => ?_⟩
      · unfold lowA
        rw [if_neg (by omega)]
        simp [Go.WideShapes.add_plain]
      · rw [List.getElem?_drop] at hx
        have := h3 (K + i) x hx
        rwa [← Nat.add_assoc] at this
/-- The last record alone, if there is one. -/
theorem rshort_any (z : Int) (A : Option Addr) (n c : Nat) (hc : n + 1 ≤ c) (hn : n ≤ 1000000) (w : World) :
    Calls Tryd.prog 15 #[.agg #[.int .i64 z, .slice A (n + 1) c]] w fun e w' => e = .returned (.agg #[.int .i64 z, .slice (lowA A c n) 1 (c - n)]) ∧ Below w.heap.size w w' := by
  have HK := Lib.hid (Kg.start w)
  have i1 : IntKind.i64.wrap (((n + 1 : Nat) : Int) - 1) = (n : Int) := by rw [IntKind.wrap_i64]; omega
  have i2 : (0 : Int) < ((n + 1 : Nat) : Int) := by omega
  have e1 : n + 1 - n = 1 := by omega
  go_enter Tryd.func15, Tryd.ntmps15
  go_wp2_with (first
    | ((with_reducible refine box_k (cs := [.int .i64 z, .slice A (n + 1) c]) HK.out rfl _ rfl rfl ?_); intro b1 u hk; clear HK; have HK := Lib.hid hk; clear hk)
    | ((with_reducible refine alloc_k HK.out g_zero rfl rfl ?_); intro b2 u hk; clear HK; have HK := Lib.hid hk; clear hk)
    | (with_reducible refine load_k1 HK.out 1 rfl _ rfl rfl rfl rfl rfl ?_)
    | (refine low_sliceL (K := n) (n := n + 1) (by omega) hc rfl _ _ rfl rfl rfl ?_; rw [e1])
    | ((with_reducible refine store_k1 (v := .slice (lowA A c n) 1 (c - n)) (es := [.int .i64 z, .slice (lowA A c n) 1 (c - n)]) HK.out 1 rfl rfl rfl _ _ rfl rfl rfl rfl rfl (by simp) rfl ?_); intro u hk; simp only [List.set_cons_zero, List.set_cons_succ] at hk; clear HK; have HK := Lib.hid hk; clear hk)
    | (with_reducible refine load_kr HK.out 1 Tryd.underlying33 rfl g_info _ rfl rfl rfl rfl rfl ?_)
    | ((with_reducible refine store_kr (xs := [.int .i64 z, .slice (lowA A c n) 1 (c - n)]) HK.out 0 g_info rfl rfl _ _ rfl rfl rfl rfl (by simp) (by simp) (by simp [Value.oneCell']) ?_); intro u hk; simp only [List.set_cons_zero] at hk; clear HK; have HK := Lib.hid hk; clear hk))
  refine bodyPost_ret (results_k1 rfl Tryd.underlying33 rfl g_info _ HK.out 0 rfl rfl rfl) rfl ?_
  exact ⟨rfl, HK.out.mf.bel⟩
theorem rshort_none (z : Int) (A : Option Addr) (c : Nat) (w : World) :
    Calls Tryd.prog 15 #[.agg #[.int .i64 z, .slice A 0 c]] w fun e w' => e = .returned (.agg #[.int .i64 z, .slice A 0 c]) ∧ Below w.heap.size w w' := by
  have HK := Lib.hid (Kg.start w)
  go_enter Tryd.func15, Tryd.ntmps15
  go_wp2_with (first
    | ((with_reducible refine box_k (cs := [.int .i64 z, .slice A 0 c]) HK.out rfl _ rfl rfl ?_); intro b1 u hk; clear HK; have HK := Lib.hid hk; clear hk)
    | ((with_reducible refine alloc_k HK.out g_zero rfl rfl ?_); intro b2 u hk; clear HK; have HK := Lib.hid hk; clear hk)
    | (with_reducible refine load_k1 HK.out 1 rfl _ rfl rfl rfl rfl rfl ?_)
    | (with_reducible refine load_kr HK.out 1 Tryd.underlying33 rfl g_info _ rfl rfl rfl rfl rfl ?_)
    | ((with_reducible refine store_kr (xs := [.int .i64 z, .slice A 0 c]) HK.out 0 g_info rfl rfl _ _ rfl rfl rfl rfl (by simp) (by simp) (by simp [Value.oneCell']) ?_); intro u hk; simp only [List.set_cons_zero] at hk; clear HK; have HK := Lib.hid hk; clear hk))
  refine bodyPost_ret (results_k1 rfl Tryd.underlying33 rfl g_info _ HK.out 0 rfl rfl rfl) rfl ?_
  exact ⟨rfl, HK.out.mf.bel⟩
end Go.Proofs.YtnbhgnkkedainaaDoor
