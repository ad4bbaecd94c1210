/- num's sum of a list is that of its parts, and of its numbers in another order: NumSplits returns true for every slice of ints and every byte. No condition. -/
import Derived.Test.YtkekjjlialoalaaAppend
import Derived.WalkKit
import Derived.ProofKit
import Derived.OpenShut
import Derived.ShutString
import Derived.ChangeOld
import Derived.Below
namespace Go.Proofs.Ytkekjjlialoalaa.numSplits
open Go.ChangeShapes Go.WideShapes Go.ChangeAt Go.RowKit
open Go.ChangeMaps (open_string shut_string)
set_option linter.unusedVariables false

theorem own : ownKnob Try.prog.godebug = none := by kernel_rfl
theorem laidOut : laidOutB Try.prog = true := by kernel_rfl

/-- WHAT THE WALK IS TOLD OF A SLICE OF INTEGERS THAT CAME IN: it is nil; or it leads to a row of 'cap' cells, the numbers 'zs' (the first 'len' are its elements, the rest its spare room), each fitting its kind. -/
def IsRow (k : IntKind) (w : World) (a : Option Addr) (len cap : Nat) (zs : List Int) : Prop :=
  (a = none ∧ len = 0 ∧ cap = 0 ∧ zs = []) ∨
  ∃ x, a = some x ∧ len ≤ cap ∧ cap ≤ maxLen ∧ zs.length = cap ∧ (∀ i, i < zs.length → w.cell? (x.add i) = some (.int k (zs.getD i 0))) ∧ ∀ n ∈ zs, (Lit.int k n).wf = true

theorem row_reads {w : World} {a : Option Addr} {len cap : Nat} {zs : List Int} (h : IsRow .i64 w a len cap zs) : Reads w a len (zs.take len) := by
  rcases h with ⟨rfl, rfl, rfl, rfl⟩ | ⟨x, rfl, h1, h2, h3, hc, _⟩
  · exact ⟨rfl, by simp [maxLen], .inl rfl⟩
  · refine ⟨by simp; omega, Nat.le_trans h1 h2, ?_⟩
    rcases Nat.eq_zero_or_pos len with h0 | h0
    · exact .inl h0
    · obtain ⟨b, off, rfl, hc'⟩ := ints_at hc (by omega)
      refine .inr ⟨b, off, rfl, fun i hi => ?_⟩
      rw [hc' i (by omega)]
      simp [List.getD, List.getElem?_take, hi]

theorem reads_take {w : World} {a : Option Addr} {len cap K : Nat} {zs : List Int} (h : Reads w a len zs) (hk : K ≤ len) : Reads w (if cap = 0 then a else a.map (·.add 0)) K (zs.take K) := by
  obtain ⟨h1, h2, h3⟩ := h
  have e : (if cap = 0 then a else a.map (·.add 0)) = a := by
    split
    · rfl
    · cases a <;> simp [Addr.add]
  rw [e]
  refine ⟨by simp; omega, by omega, ?_⟩
  rcases h3 with h0 | ⟨b, off, rfl, hc⟩
  · exact .inl (by omega)
  · refine .inr ⟨b, off, rfl, fun i hi => ?_⟩
    rw [hc i (by omega)]
    simp [List.getD, List.getElem?_take, hi]
theorem reads_drop {w : World} {a : Option Addr} {len cap K : Nat} {zs : List Int} (h : Reads w a len zs) (hk : K ≤ len) (hc : len ≤ cap) : Reads w (if cap = K then a else a.map (·.add K)) (len - K) (zs.drop K) := by
  obtain ⟨h1, h2, h3⟩ := h
  refine ⟨by simp; omega, by omega, ?_⟩
  rcases h3 with h0 | ⟨b, off, rfl, hcell⟩
  · exact .inl (by omega)
  · by_cases hK : len = K
    · exact .inl (by omega)
    · rw [if_neg (by omega)]
      refine .inr ⟨b, off + K, by simp only [Option.map_some, Go.WideShapes.add_plain], fun i hi => ?_⟩
      rw [Nat.add_assoc, hcell (K + i) (by omega)]
      simp [List.getD, List.getElem?_drop]
theorem slice_high (a : Option Addr) (len cap K : Nat) (h : K ≤ cap) (W : World) : (Instr.slice 28 (.slice a len cap) none (some (.int .i64 (K : Int))) none).run Try.prog W = .ok (.slice (if cap = 0 then a else a.map (·.add 0)) K cap) W := by
  obtain ⟨i0, hi0, hz0, hz1, hz2⟩ := info_parts int_info
  simp [Instr.slice, run_underlying Try.underlying28, Instr.sliceBounds, Instr.sliceBound, asIntOf, sizeOf, typeInfo, hi0, hz1, h]
theorem slice_low (a : Option Addr) (len cap K : Nat) (h : K ≤ len) (W : World) : (Instr.slice 28 (.slice a len cap) (some (.int .i64 (K : Int))) none none).run Try.prog W = .ok (.slice (if cap = K then a else a.map (·.add K)) (len - K) (cap - K)) W := by
  obtain ⟨i0, hi0, hz0, hz1, hz2⟩ := info_parts int_info
  simp [Instr.slice, run_underlying Try.underlying28, Instr.sliceBounds, Instr.sliceBound, asIntOf, sizeOf, typeInfo, hi0, hz1, h]
theorem row_cap {w : World} {a : Option Addr} {len cap : Nat} {zs : List Int} (h : IsRow .i64 w a len cap zs) : len ≤ cap := by
  rcases h with ⟨rfl, rfl, rfl, rfl⟩ | ⟨x, rfl, h1, _⟩
  · exact Nat.le_refl _
  · exact h1
theorem sum_is {zs : List Int} {x y : Int} (h : sumN zs = x ∧ sumE zs = y) {a : Option Addr} {len cap : Nat} {w : World} (hr : Reads w a len zs) :
    Calls Try.prog 18 #[.slice a len cap] w fun e w' => e = .returned (.tuple #[.int .i64 x, .int .i64 y]) ∧ Below w.heap.size w w' := by
  have := sum_any a len cap zs w hr
  rw [h.1, h.2] at this
  exact this

theorem add_fit {a b r : Int} (h : a + b = r) (a0 : 0 ≤ a) (b0 : 0 ≤ b) (a1 : a ≤ 1099511627776) (b1 : b ≤ 1099511627776) (hr : r ≤ 1099511627776) (w : World) :
    Calls Try.prog 9 #[.int .i64 a, .int .i64 b] w fun e w' => e = .returned (.tuple #[.int .i64 r, .int .i64 0]) ∧ w = w' := by
  have k : okB a b (a + b) = true := okB_iff.2 ⟨isB_iff.2 (by omega), isB_iff.2 (by omega), isB_iff.2 (by omega)⟩
  have := add_any a b w
  rw [(addE_ok k).1, (addE_ok k).2, h] at this
  exact this
theorem add_over {a b : Int} (h : 1099511627776 < a + b) (w : World) :
    Calls Try.prog 9 #[.int .i64 a, .int .i64 b] w fun e w' => e = .returned (.tuple #[.int .i64 0, .int .i64 2]) ∧ w = w' := by
  have k : okB a b (a + b) = false := okB_r (isB_not.2 (by omega))
  have := add_any a b w
  rw [(addE_no k).1, (addE_no k).2] at this
  exact this

/-- What the loop has made of 'back' by its round k. -/
def BackRel (w : World) (zs : List Int) (len : Nat) (t i : Value) (wr : World) : Prop :=
  ∃ (k : Nat) (A : Option Addr) (c : Nat), k ≤ len ∧ i = .int .i64 k ∧ t = .slice A k c ∧ Reads wr A k (zs.take k).reverse ∧ (∀ z ∈ zs.take k, 0 ≤ z) ∧ Below w.heap.size w wr

set_option maxRecDepth 100000 in
set_option maxHeartbeats 4000000 in
theorem walk (a0 : Option Addr) (len0 cap0 : Nat) (z0 : List Int) (a1 : Int) (w : World) (w0 : IsRow .i64 w a0 len0 cap0 z0) (w1 : (Lit.int .u8 a1).wf = true) :
    Calls Try.prog 7 #[.slice a0 len0 cap0, .int .u8 a1] w fun e w' => e = .returned (.bool true) ∧ Below w.heap.size w w' := by
  have hr := row_reads w0
  have hcap := row_cap w0
  have hlm : len0 ≤ maxLen := hr.2.1
  unfold maxLen at hlm
  generalize hz : z0.take len0 = zs at hr
  clear hz w0
  have HR := Lib.hid hr; clear hr
  by_cases hlen : 40 < len0
  · go_enter Try.func7, Try.ntmps7
    go_wp2_with ((go_at_call 17; (with_reducible refine (awake_any _).mono ?_); rintro e w' ⟨rfl, hb⟩; have HB3 := Lib.hid hb; clear hb))
    go_ret
    exact ⟨rfl, HB3.out⟩
  · have HL := Lib.hid HR.out.1
    obtain ⟨b1, b2⟩ := bounds_u8 w1
    go_enter Try.func7, Try.ntmps7
    go_wp2
    go_loopw [5, 25] (fun t i wr => BackRel w zs len0 t i wr) (fun _ i _ => len0 - (intOf i).toNat)
    case atStart => exact ⟨0, none, 0, Nat.zero_le _, rfl, rfl, ⟨rfl, by simp [maxLen], .inl rfl⟩, by simp, Below.refl _ _⟩
    case round =>
      obtain ⟨k, A, c, hk, rfl, rfl, hra, hnn, hbw⟩ := hrel
      have HRA := Lib.hid hra; clear hra
      have HNN := Lib.hid hnn; clear hnn
      have HBW := Lib.hid hbw; clear hbw
      by_cases hlt : k < len0
      · have hx := HR.out.2.2
        rcases hx with h0 | ⟨b, off, rfl, hc⟩
        · omega
        · have hcell : wr.cell? ⟨b, off + k, none⟩ = some (.int .i64 (zs.getD k 0)) := by rw [HBW.out.cell (cell_lt (hc k hlt))]; exact hc k hlt
          clear hc
          have HS := Lib.hid (back_snoc (xs := zs) (k := k) (by have := HL.out; omega))
          have HT := Lib.hid (take_snoc (xs := zs) (k := k) (by have := HL.out; omega))
          generalize zs.getD k 0 = z at hcell HS HT
          by_cases hneg : z < 0
          · go_wp2_with ((go_at_call 17; (with_reducible refine (awake_any _).mono ?_); rintro e w3 ⟨rfl, hb⟩; have HB3 := Lib.hid hb; clear hb))
            go_ret
            exact ⟨rfl, HBW.out.trans (HB3.out.mono HBW.out.size)⟩
          · have hz0 : 0 ≤ z := by omega
            have hb0 : Below wr.heap.size wr (wr.alloc (.cells #[.int .i64 z] 3)) := (Below.refl _ _).alloc (Nat.le_refl _) _
            have ho0 : (wr.alloc (.cells #[.int .i64 z] 3)).ownsRow wr.heap.size 3 1 (.slice (some ⟨wr.heap.size, 0, none⟩) 1 1) 1 (vals [z]) := World.ownsRow_lit wr #[.int .i64 z] 1 (Nat.le_refl _) (by simp [maxLen]) (by simp)
            have HB0 := Lib.hid hb0; clear hb0
            have HO0 := Lib.hid ho0; clear ho0
            go_wp2_with (first
              | (at_builtin
                 (with_reducible refine wpList_append_ints rfl (.tmp 33) (.tmp 34) rfl wr.heap.size (.slice (some ⟨wr.heap.size, 0, none⟩) 1 1) 1 [z] rfl HO0.out A k c _ rfl (reads_below HB0.out HRA.out) (by omega) (by simp) ?_)
                 intro v1 w1 hown hg hat
                 rw [← HS.out, Nat.add_comm 1 k] at hown
                 obtain ⟨A', c', rfl⟩ := own_slice hown
                 have HR1 := Lib.hid (own_reads hown (by omega)).1
                 have HB1 := Lib.hid (HBW.out.trans ((HB0.out.grown hg (by simp) (fun k hk => by simp [Value.ownBlock] at hk; omega)).mono HBW.out.size))
                 clear hown hg hat))
            go_roundw
            case rel => exact ⟨k + 1, A', c', by omega, by go_num, rfl, HR1.out, (by rw [HT.out]; intro y hy; rcases List.mem_append.1 hy with h | h; exact HNN.out y h; simp at h; omega), HB1.out⟩
            case measure => simp [intOf]; omega
      · obtain rfl : k = len0 := by omega
        have hall : zs.take k = zs := List.take_of_length_le (by have := HL.out; omega)
        rw [hall] at HRA HNN
        clear hall
        obtain ⟨K, hK, hKl⟩ : ∃ K : Nat, a1 % ((k : Int) + 1) = (K : Int) ∧ K ≤ k := ⟨(a1 % ((k : Int) + 1)).toNat, (Int.toNat_of_nonneg (Int.emod_nonneg _ (by omega))).symm, by have := Int.emod_lt_of_pos a1 (show (0 : Int) < (k : Int) + 1 by omega); have := Int.emod_nonneg a1 (show (k : Int) + 1 ≠ 0 by omega); omega⟩
        have HRT := Lib.hid (reads_take (cap := cap0) HR.out hKl)
        have HRD := Lib.hid (reads_drop (cap := cap0) HR.out hKl hcap)
        have hsh := slice_high a0 k cap0 K (by omega)
        have hsl := slice_low a0 k cap0 K hKl
        generalize (if cap0 = 0 then a0 else a0.map (·.add 0)) = A1 at hsh HRT
        generalize (if cap0 = K then a0 else a0.map (·.add K)) = A2 at hsl HRD
        have hna : ∀ z ∈ zs.take K, 0 ≤ z := fun z hz => HNN.out z (List.mem_of_mem_take hz)
        have hnb : ∀ z ∈ zs.drop K, 0 ≤ z := fun z hz => HNN.out z (List.mem_of_mem_drop hz)
        have hnr : ∀ z ∈ zs.reverse, 0 ≤ z := fun z hz => HNN.out z (by simpa using hz)
        have hT := tot_parts zs K
        have hT1 := tot_nonneg hna
        have hT2 := tot_nonneg hnb
        have hrt := tot_reverse zs
        by_cases c1 : tot zs ≤ 1099511627776
        · have S1 := Lib.hid (sum_fits HNN.out c1)
          have s2 := sum_fits hnr (by omega)
          rw [hrt] at s2
          have S2 := Lib.hid s2
          have S3 := Lib.hid (sum_fits hna (by omega))
          have S4 := Lib.hid (sum_fits hnb (by omega))
          have PA := Lib.hid (add_fit (a := tot (zs.take K)) (b := tot (zs.drop K)) (r := tot zs) hT (by omega) (by omega) (by omega) (by omega) (by omega))
          clear s2 hrt hna hnb hnr hT HNN
          generalize tot zs = T at S1 S2 PA c1
          generalize tot (zs.take K) = TA at S3 PA hT1
          generalize tot (zs.drop K) = TB at S4 PA hT2
          go_wp2_with (first
            | (go_at_call 18; (with_reducible refine (sum_is S1.out (a := a0) (len := k) (cap := cap0) (reads_below HBW.out HR.out)).mono ?_); rintro e w1 ⟨rfl, hb⟩; have H1 := Lib.hid hb; clear hb)
            | (go_at_call 18; (with_reducible refine (sum_is S2.out (a := A) (len := k) (cap := c) (reads_below H1.out HRA.out)).mono ?_); rintro e w2 ⟨rfl, hb⟩; have H2 := Lib.hid (H1.out.trans (hb.mono H1.out.size)); clear hb)
            | (go_at_call 18; (with_reducible refine (sum_is S3.out (a := A1) (len := K) (cap := cap0) (reads_below (HBW.out.trans (H2.out.mono HBW.out.size)) HRT.out)).mono ?_); rintro e w3 ⟨rfl, hb⟩; have H3 := Lib.hid (H2.out.trans (hb.mono H2.out.size)); clear hb)
            | (go_at_call 18; (with_reducible refine (sum_is S4.out (a := A2) (len := k - K) (cap := cap0 - K) (reads_below (HBW.out.trans (H3.out.mono HBW.out.size)) HRD.out)).mono ?_); rintro e w4 ⟨rfl, hb⟩; have H4 := Lib.hid (H3.out.trans (hb.mono H3.out.size)); clear hb)
            | (go_at_call 9; (with_reducible refine (PA.out _).mono ?_); rintro e w' ⟨rfl, rfl⟩)
            | (go_at_call 17; (with_reducible refine (awake_any _).mono ?_); rintro e w5 ⟨rfl, hb⟩; have H5 := Lib.hid (H4.out.trans (hb.mono H4.out.size)); clear hb))
          go_ret
          exact ⟨rfl, HBW.out.trans (H5.out.mono HBW.out.size)⟩
        · have S1 := Lib.hid (sum_over HNN.out (by omega))
          have S2 := Lib.hid (sum_over hnr (by omega))
          by_cases c2 : tot (zs.take K) ≤ 1099511627776
          · have S3 := Lib.hid (sum_fits hna c2)
            by_cases c3 : tot (zs.drop K) ≤ 1099511627776
            · have S4 := Lib.hid (sum_fits hnb c3)
              have PA := Lib.hid (add_over (a := tot (zs.take K)) (b := tot (zs.drop K)) (by omega))
              clear hrt hna hnb hnr hT HNN c1
              generalize tot (zs.take K) = TA at S3 PA hT1 c2
              generalize tot (zs.drop K) = TB at S4 PA hT2 c3
              go_wp2_with (first
                | (go_at_call 18; (with_reducible refine (sum_is S1.out (a := a0) (len := k) (cap := cap0) (reads_below HBW.out HR.out)).mono ?_); rintro e w1 ⟨rfl, hb⟩; have H1 := Lib.hid hb; clear hb)
                | (go_at_call 18; (with_reducible refine (sum_is S2.out (a := A) (len := k) (cap := c) (reads_below H1.out HRA.out)).mono ?_); rintro e w2 ⟨rfl, hb⟩; have H2 := Lib.hid (H1.out.trans (hb.mono H1.out.size)); clear hb)
                | (go_at_call 18; (with_reducible refine (sum_is S3.out (a := A1) (len := K) (cap := cap0) (reads_below (HBW.out.trans (H2.out.mono HBW.out.size)) HRT.out)).mono ?_); rintro e w3 ⟨rfl, hb⟩; have H3 := Lib.hid (H2.out.trans (hb.mono H2.out.size)); clear hb)
                | (go_at_call 18; (with_reducible refine (sum_is S4.out (a := A2) (len := k - K) (cap := cap0 - K) (reads_below (HBW.out.trans (H3.out.mono HBW.out.size)) HRD.out)).mono ?_); rintro e w4 ⟨rfl, hb⟩; have H4 := Lib.hid (H3.out.trans (hb.mono H3.out.size)); clear hb)
                | (go_at_call 9; (with_reducible refine (PA.out _).mono ?_); rintro e w' ⟨rfl, rfl⟩)
                | (go_at_call 17; (with_reducible refine (awake_any _).mono ?_); rintro e w5 ⟨rfl, hb⟩; have H5 := Lib.hid (H4.out.trans (hb.mono H4.out.size)); clear hb))
              go_ret
              exact ⟨rfl, HBW.out.trans (H5.out.mono HBW.out.size)⟩
            · have S4 := Lib.hid (sum_over hnb (by omega))
              clear hrt hna hnb hnr hT HNN c1 hT2 c3
              generalize tot (zs.take K) = TA at S3 hT1 c2
              go_wp2_with (first
                | (go_at_call 18; (with_reducible refine (sum_is S1.out (a := a0) (len := k) (cap := cap0) (reads_below HBW.out HR.out)).mono ?_); rintro e w1 ⟨rfl, hb⟩; have H1 := Lib.hid hb; clear hb)
                | (go_at_call 18; (with_reducible refine (sum_is S2.out (a := A) (len := k) (cap := c) (reads_below H1.out HRA.out)).mono ?_); rintro e w2 ⟨rfl, hb⟩; have H2 := Lib.hid (H1.out.trans (hb.mono H1.out.size)); clear hb)
                | (go_at_call 18; (with_reducible refine (sum_is S3.out (a := A1) (len := K) (cap := cap0) (reads_below (HBW.out.trans (H2.out.mono HBW.out.size)) HRT.out)).mono ?_); rintro e w3 ⟨rfl, hb⟩; have H3 := Lib.hid (H2.out.trans (hb.mono H2.out.size)); clear hb)
                | (go_at_call 18; (with_reducible refine (sum_is S4.out (a := A2) (len := k - K) (cap := cap0 - K) (reads_below (HBW.out.trans (H3.out.mono HBW.out.size)) HRD.out)).mono ?_); rintro e w4 ⟨rfl, hb⟩; have H4 := Lib.hid (H3.out.trans (hb.mono H3.out.size)); clear hb)
                | (go_at_call 17; (with_reducible refine (awake_any _).mono ?_); rintro e w5 ⟨rfl, hb⟩; have H5 := Lib.hid (H4.out.trans (hb.mono H4.out.size)); clear hb))
              go_ret
              exact ⟨rfl, HBW.out.trans (H5.out.mono HBW.out.size)⟩
          · have S3 := Lib.hid (sum_over hna (by omega))
            obtain ⟨XN, XE, s4⟩ : ∃ x y, sumN (zs.drop K) = x ∧ sumE (zs.drop K) = y := ⟨_, _, rfl, rfl⟩
            have S4 := Lib.hid s4
            clear hrt hna hnb hnr hT HNN c1 hT2 c2 hT1 s4
            go_wp2_with (first
              | (go_at_call 18; (with_reducible refine (sum_is S1.out (a := a0) (len := k) (cap := cap0) (reads_below HBW.out HR.out)).mono ?_); rintro e w1 ⟨rfl, hb⟩; have H1 := Lib.hid hb; clear hb)
              | (go_at_call 18; (with_reducible refine (sum_is S2.out (a := A) (len := k) (cap := c) (reads_below H1.out HRA.out)).mono ?_); rintro e w2 ⟨rfl, hb⟩; have H2 := Lib.hid (H1.out.trans (hb.mono H1.out.size)); clear hb)
              | (go_at_call 18; (with_reducible refine (sum_is S3.out (a := A1) (len := K) (cap := cap0) (reads_below (HBW.out.trans (H2.out.mono HBW.out.size)) HRT.out)).mono ?_); rintro e w3 ⟨rfl, hb⟩; have H3 := Lib.hid (H2.out.trans (hb.mono H2.out.size)); clear hb)
              | (go_at_call 18; (with_reducible refine (sum_is S4.out (a := A2) (len := k - K) (cap := cap0 - K) (reads_below (HBW.out.trans (H3.out.mono HBW.out.size)) HRD.out)).mono ?_); rintro e w4 ⟨rfl, hb⟩; have H4 := Lib.hid (H3.out.trans (hb.mono H3.out.size)); clear hb)
              | (go_at_call 17; (with_reducible refine (awake_any _).mono ?_); rintro e w5 ⟨rfl, hb⟩; have H5 := Lib.hid (H4.out.trans (hb.mono H4.out.size)); clear hb))
            go_ret
            exact ⟨rfl, HBW.out.trans (H5.out.mono HBW.out.size)⟩

set_option maxRecDepth 100000 in
theorem lifted (os : Os) (started : os.Started) (H : Type) (enc : TypeId × Value → H) :
    ReturnsInHanded {} Try.checked os 7 .any (Rows.numSplitsSpec.pre6 enc Try.prog Try.f7 Rows.numSplitsRow.domain false) (Rows.numSplitsSpec.post enc Try.prog Try.f7 false true false false) := by
  refine returnsInHanded_of_change (C := Try.checked) own started (by kernel_rfl) Try.func7
    (ChangeSpec.witness6 (enc := enc) (C := Try.checked) false ⟨#[], #[.slice none 0 0, .int .u8 0], []⟩ 8 (by kernel_rfl) (by kernel_rfl) (by kernel_rfl) (by kernel_rfl)) ?_
  intro W base args ds gs before hval0 hW hcnd _
  have hval : ∀ (j : Nat) t v, Try.f7.params[j]? = some t → args[j]? = some v → Value.okWide Try.prog W .any base t v := hval0
  have hW' := hW
  obtain ⟨p, q, hA0, hV, rfl, hfz, hnd⟩ := hW
  have hA : DataW.TrodAll enc Try.prog W 0 (fun _ => true) true Try.f7.params.toList args.toList ds p := hA0
  rw [Try.params7] at hA hval
  obtain ⟨v0, vs0, d0, ds0, p0, q0, hargs, rfl, rfl, h0, r0⟩ := trodAll_cons hA
  obtain ⟨v1, vs1, d1, ds1, p1, q1, rfl, rfl, rfl, h1, r1⟩ := trodAll_cons r0
  obtain ⟨rfl, rfl, rfl⟩ := trodAll_nil r1
  obtain rfl : args = #[v0, v1] := by cases args; simp_all
  obtain ⟨rfl, rfl⟩ := trodVars_none hV
  obtain ⟨a0, len0, cap0, rfl⟩ := okWide_slice Try.underlying28 (hval 0 28 v0 rfl rfl)
  have k0 := h0
  have lt0 : ∀ x ∈ p0, x.block < W.heap.size := by obtain ⟨m, hm⟩ := k0; exact DataW.trod_lt m _ _ _ hm
  obtain ⟨z0, w0⟩ : ∃ zs, IsRow .i64 W a0 len0 cap0 zs := by
    obtain ⟨fuel, hf⟩ := h0
    rcases open_ints Try.underlying28 Try.underlying3 (by kernel_rfl) hf with ⟨hcs, _⟩ | ⟨x, l, c, zs, hcs, _, hl, hm, hz, _, hcell, hwz⟩
    · simp [Value.cells] at hcs
      obtain ⟨rfl, rfl, rfl⟩ := hcs
      exact ⟨[], .inl ⟨rfl, rfl, rfl, rfl⟩⟩
    · simp [Value.cells] at hcs
      obtain ⟨rfl, rfl, rfl⟩ := hcs
      exact ⟨zs, .inr ⟨_, rfl, hl, hm, by simpa using hz, hcell, hwz⟩⟩
  obtain ⟨a1, rfl, rfl, rfl, w1⟩ := open_int Try.underlying5 (hval 1 5 v1 rfl rfl) h1
  clear hA0 hval0
  refine (walk a0 len0 cap0 z0 a1 W w0 w1).mono fun e W' ⟨he, bel⟩ => ?_
  subst he
  exact ⟨_, rfl, _, _, _, [], _, [], hW', trodAll_mk1 (shut_bool Try.underlying4 _), (trodAll_cons_mk (Below.trod laidOut (by kernel_rfl) (of_decide_eq_true (by kernel_rfl)) k0 bel lt0) (trodAll_cons_mk (shut_int Try.underlying5 w1) trodAll_mk0)), rfl, bel.frame _, fun h => by cases h⟩

theorem over : Rows.numSplitsRow.holds Try.pinned (OpenSpec.ofChange Rows.numSplitsSpec) :=
  OpenClaim.holds_of_wide 7 Try.f7 rfl rfl rfl rfl rfl rfl rfl ⟨rfl, rfl, rfl, rfl, rfl⟩ rfl rfl rfl rfl rfl (by kernel_rfl) Try.func7 (by kernel_rfl)
    (of_decide_eq_true (by kernel_rfl)) (by unfold Func.isWrapper; first | (rw [if_pos (by decide +kernel)]; kernel_rfl) | (rw [if_neg (by decide +kernel)]; exact ⟨rfl, rfl⟩))
    (fun os started H enc _ => lifted os started H enc)

theorem proved : Rows.NumSplitsSaid := over
#print axioms proved
end Go.Proofs.Ytkekjjlialoalaa.numSplits
