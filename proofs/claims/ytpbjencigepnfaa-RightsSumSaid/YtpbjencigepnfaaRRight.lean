/- A contract of the document's Right. -/
import Derived.Test.YtpbjencigepnfaaRight
namespace Go.Proofs.Ytpbjencigepnfaa
open Go.ChangeShapes Go.WideShapes Go.ChangeAt Go.RowKit

/-- A part of a kept block is loaded, behind a guard that lets it be. -/
theorem load_want {ops : Array Oper} {rest : List Oper} {o : Oper} {a : Act} {w u : World} {l : List (Nat × TypeId × List Int)} {Q : Exit → Act → World → Prop} (hk : KeepR w l u) (i : Nat) (n : Nat) {ty : TypeId} {d : TypeDesc} (hu : Try.prog.underlying ty = some d) (hd : d.isRow = true) (hs : (Try.prog.info? ty).map (·.size) = some n)
    (x : Operand) (ho : o.op = .load ty x) {b off : Nat} {t : TypeId} {R : List Int} (hi : l[i]? = some (b, t, R)) (hx : a.eval x = .pointer (some ⟨b, off, none⟩)) (hw : Region.wanted o (yielded ops a.tmps) = true) (hr : off + n ≤ R.length)
    (h : wpList Try.prog ops Q rest (a.put o.dst (.agg (vals (seg R off n)).toArray)) u) : wpList Try.prog ops Q (o :: rest) a u :=
  BigFrame.wpList_want hw fun _ hK => wp_load_mid ty x ho b off hx _ d ((hk.get i hi).seg hr) hu hd (by rw [vals_length, seg_length hr]; exact hs) (hK _ _ h)
theorem load_all_want {ops : Array Oper} {rest : List Oper} {o : Oper} {a : Act} {w u : World} {l : List (Nat × TypeId × List Int)} {Q : Exit → Act → World → Prop} (hk : KeepR w l u) (i : Nat) (n : Nat) {ty : TypeId} {d : TypeDesc} (hu : Try.prog.underlying ty = some d) (hd : d.isRow = true) (hs : (Try.prog.info? ty).map (·.size) = some n)
    (x : Operand) (ho : o.op = .load ty x) {b : Nat} {t : TypeId} {R : List Int} (hi : l[i]? = some (b, t, R)) (hx : a.eval x = .pointer (some ⟨b, 0, none⟩)) (hw : Region.wanted o (yielded ops a.tmps) = true) (hr : R.length = n)
    (h : wpList Try.prog ops Q rest (a.put o.dst (.agg (vals R).toArray)) u) : wpList Try.prog ops Q (o :: rest) a u :=
  load_want hk i n hu hd hs x ho hi hx hw (by omega) (by rw [seg_all hr]; exact h)

def okR (R : List Int) (k : Nat) : Bool := (rightB (seg R 0 16) && rightB (seg R 16 16)) && ((List.range k).all fun j => rightB (seg R (32 + j * 16) 16) && (R.getD (32 + j * 16 + j) 0 == 0))
theorem okR_succ (R : List Int) (k : Nat) : okR R (k + 1) = (okR R k && (rightB (seg R (32 + k * 16) 16) && (R.getD (32 + k * 16 + k) 0 == 0))) := by
  simp only [okR, List.range_succ, List.all_append, List.all_cons, List.all_nil, Bool.and_true, Bool.and_assoc]
theorem okR_all (R : List Int) : okR R 16 = rightsB R := by
  rw [Bool.eq_iff_iff, rightsB_iff]
  simp only [okR, Bool.and_eq_true, List.all_eq_true, List.mem_range, beq_iff_eq]
  constructor
  · rintro ⟨⟨h1, h2⟩, h3⟩
    refine ⟨fun j hj => ?_, fun j hj => (h3 j hj).2⟩
    match j, hj with
    | 0, _ => simpa using h1
    | 1, _ => simpa using h2
    | j + 2, hj =>
      have := (h3 j (by omega)).1
      rwa [show 32 + j * 16 = (j + 2) * 16 by omega] at this
  · rintro ⟨h1, h2⟩
    refine ⟨⟨by simpa using h1 0 (by omega), by simpa using h1 1 (by omega)⟩, fun j hj => ⟨?_, h2 j hj⟩⟩
    have := h1 (j + 2) (by omega)
    rwa [show (j + 2) * 16 = 32 + j * 16 by omega] at this

theorem rright_r (R : List Int) (hR : R.length = 288) (w : World) :
    Calls Try.prog 16 #[.agg (vals R).toArray] w fun e w' => e = .returned (.bool (rightsB R)) ∧ Below w.heap.size w w' := by
  have HS0 := Lib.hid (seg_length (R := R) (o := 0) (n := 16) (by omega))
  have HS1 := Lib.hid (seg_length (R := R) (o := 16) (n := 16) (by omega))
  have HR := Lib.hid hR; clear hR
  have HK := Lib.hid (KeepR.start w)
  have HOK := Lib.hid (okR_all R)
  have h00 : okR R 0 = (rightB (seg R 0 16) && rightB (seg R 16 16)) := by simp [okR]
  have c0 := rright_any (seg R 0 16) HS0.out
  have c1 := rright_any (seg R 16 16) HS1.out
  cases h0 : rightB (seg R 0 16) with
  | false =>
    rw [h0] at c0 h00
    have H00 := Lib.hid h00; clear h00 h0 c1
    rw [Bool.false_and] at H00
    go_enter Try.func16, Try.ntmps16
    go_wp2_with (first
      | (with_reducible refine box_new HK.out rfl _ rfl rfl ?_; intro b u hk hb; clear hb; clear HK; have HK := Lib.hid hk; clear hk)
      | (with_reducible refine load_part HK.out 0 16 Try.underlying23 rfl vec_info rfl _ rfl rfl rfl (by have := HR.out; omega) ?_)
      | (go_at_call 36; (with_reducible refine (c0 _).mono ?_); rintro e u ⟨rfl, hb⟩; have hk := HK.out.call hb; clear hb; clear HK; have HK := Lib.hid hk; clear hk))
    go_loopw [3, 4] (fun ok i wr => ∃ k : Nat, k ≤ 16 ∧ i = .int .i64 k ∧ ok = .bool (okR R k) ∧ KeepR w [(b, 26, R)] wr) (fun _ i _ => 16 - (intOf i).toNat)
    case atStart => exact ⟨0, by omega, rfl, by rw [H00.out], HK.out⟩
    case round =>
      obtain ⟨k, hk0, rfl, rfl, hk⟩ := hrel
      clear HK
      have HK := Lib.hid hk
      clear hk
      by_cases hlt : k < 16
      · have HO := Lib.hid (okR_succ R k)
        have hc1 := (HK.out.get 0 rfl).cell (k := 32 + k * 16 + k) (by have := HR.out; omega)
        have HL := Lib.hid (seg_length (R := R) (o := 32 + k * 16) (n := 16) (by have := HR.out; omega))
        have hrc := rright_any (seg R (32 + k * 16) 16) HL.out
        have i1 : (0 : Int) ≤ (k : Int) := by omega
        have i2 : (k : Int) < 16 := by omega
        generalize hx : R.getD (32 + k * 16 + k) 0 = x at hc1
        have HX := Lib.hid hx; clear hx
        cases hok : okR R k with
        | false =>
          have HQ := Lib.hid (show okR R (k + 1) = false by rw [HO.out, hok]; rfl)
          clear hok hrc
          go_wp2
          go_roundw
          case rel => exact ⟨k + 1, by omega, by go_num, by rw [HQ.out], HK.out⟩
          case measure => simp [intOf]; omega
        | true =>
          cases hrt : rightB (seg R (32 + k * 16) 16) with
          | false =>
            have HQ := Lib.hid (show okR R (k + 1) = false by rw [HO.out, hok, hrt]; rfl)
            rw [hrt] at hrc
            clear hok hrt
            go_wp2_with (first
              | (refine load_want HK.out 0 16 Try.underlying23 rfl vec_info _ rfl rfl rfl rfl (by have := HR.out; omega) ?_)
              | (go_at_call 36; (with_reducible refine (hrc _).mono ?_); rintro e u ⟨rfl, hb⟩; have hk := HK.out.call hb; clear hb hc1; have hc1 := (hk.get 0 rfl).cell (k := 32 + k * 16 + k) (by have := HR.out; omega); rw [HX.out] at hc1; clear HK; have HK := Lib.hid hk; clear hk))
            go_roundw
            case rel => exact ⟨k + 1, by omega, by go_num, by rw [HQ.out], HK.out⟩
            case measure => simp [intOf]; omega
          | true =>
            rw [hrt] at hrc
            by_cases hz : x = 0
            · subst hz
              have HQ := Lib.hid (show okR R (k + 1) = true by rw [HO.out, hok, hrt, HX.out]; rfl)
              clear hok hrt
              go_wp2_with (first
                | (refine load_want HK.out 0 16 Try.underlying23 rfl vec_info _ rfl rfl rfl rfl (by have := HR.out; omega) ?_)
                | (go_at_call 36; (with_reducible refine (hrc _).mono ?_); rintro e u ⟨rfl, hb⟩; have hk := HK.out.call hb; clear hb hc1; have hc1 := (hk.get 0 rfl).cell (k := 32 + k * 16 + k) (by have := HR.out; omega); rw [HX.out] at hc1; clear HK; have HK := Lib.hid hk; clear hk))
              go_roundw
              case rel => exact ⟨k + 1, by omega, by go_num, by rw [HQ.out], HK.out⟩
              case measure => simp [intOf]; omega
            · have HQ := Lib.hid (show okR R (k + 1) = false by rw [HO.out, hok, hrt, HX.out, beq_eq_false_iff_ne.2 hz]; rfl)
              clear hok hrt
              go_wp2_with (first
                | (refine load_want HK.out 0 16 Try.underlying23 rfl vec_info _ rfl rfl rfl rfl (by have := HR.out; omega) ?_)
                | (go_at_call 36; (with_reducible refine (hrc _).mono ?_); rintro e u ⟨rfl, hb⟩; have hk := HK.out.call hb; clear hb hc1; have hc1 := (hk.get 0 rfl).cell (k := 32 + k * 16 + k) (by have := HR.out; omega); rw [HX.out] at hc1; clear HK; have HK := Lib.hid hk; clear hk))
              go_roundw
              case rel => exact ⟨k + 1, by omega, by go_num, by rw [HQ.out, beq_eq_false_iff_ne.2 hz], HK.out⟩
              case measure => simp [intOf]; omega
      · obtain rfl : k = 16 := by omega
        rw [HOK.out]
        go_wp2
        go_ret
        exact ⟨rfl, HK.out.bel⟩
  | true =>
    cases h1 : rightB (seg R 16 16) with
    | false =>
      rw [h0, h1] at h00
      rw [h0] at c0
      rw [h1] at c1
      have H00 := Lib.hid h00; clear h00 h0 h1
      rw [Bool.true_and] at H00
      go_enter Try.func16, Try.ntmps16
      go_wp2_with (first
        | (with_reducible refine box_new HK.out rfl _ rfl rfl ?_; intro b u hk hb; clear hb; clear HK; have HK := Lib.hid hk; clear hk)
        | (with_reducible refine load_part HK.out 0 16 Try.underlying23 rfl vec_info rfl _ rfl rfl rfl (by have := HR.out; omega) ?_)
        | (refine load_want HK.out 0 16 Try.underlying23 rfl vec_info _ rfl rfl rfl rfl (by have := HR.out; omega) ?_)
        | (go_at_call 36; (with_reducible refine (c0 _).mono ?_); rintro e u ⟨rfl, hb⟩; have hk := HK.out.call hb; clear hb; clear HK; have HK := Lib.hid hk; clear hk)
        | (go_at_call 36; (with_reducible refine (c1 _).mono ?_); rintro e u ⟨rfl, hb⟩; have hk := HK.out.call hb; clear hb; clear HK; have HK := Lib.hid hk; clear hk))
      go_loopw [3, 4] (fun ok i wr => ∃ k : Nat, k ≤ 16 ∧ i = .int .i64 k ∧ ok = .bool (okR R k) ∧ KeepR w [(b, 26, R)] wr) (fun _ i _ => 16 - (intOf i).toNat)
      case atStart => exact ⟨0, by omega, rfl, by rw [H00.out], HK.out⟩
      case round =>
        obtain ⟨k, hk0, rfl, rfl, hk⟩ := hrel
        clear HK
        have HK := Lib.hid hk
        clear hk
        by_cases hlt : k < 16
        · have HO := Lib.hid (okR_succ R k)
          have hc1 := (HK.out.get 0 rfl).cell (k := 32 + k * 16 + k) (by have := HR.out; omega)
          have HL := Lib.hid (seg_length (R := R) (o := 32 + k * 16) (n := 16) (by have := HR.out; omega))
          have hrc := rright_any (seg R (32 + k * 16) 16) HL.out
          have i1 : (0 : Int) ≤ (k : Int) := by omega
          have i2 : (k : Int) < 16 := by omega
          generalize hx : R.getD (32 + k * 16 + k) 0 = x at hc1
          have HX := Lib.hid hx; clear hx
          cases hok : okR R k with
          | false =>
            have HQ := Lib.hid (show okR R (k + 1) = false by rw [HO.out, hok]; rfl)
            clear hok hrc
            go_wp2
            go_roundw
            case rel => exact ⟨k + 1, by omega, by go_num, by rw [HQ.out], HK.out⟩
            case measure => simp [intOf]; omega
          | true =>
            cases hrt : rightB (seg R (32 + k * 16) 16) with
            | false =>
              have HQ := Lib.hid (show okR R (k + 1) = false by rw [HO.out, hok, hrt]; rfl)
              rw [hrt] at hrc
              clear hok hrt
              go_wp2_with (first
                | (refine load_want HK.out 0 16 Try.underlying23 rfl vec_info _ rfl rfl rfl rfl (by have := HR.out; omega) ?_)
                | (go_at_call 36; (with_reducible refine (hrc _).mono ?_); rintro e u ⟨rfl, hb⟩; have hk := HK.out.call hb; clear hb hc1; have hc1 := (hk.get 0 rfl).cell (k := 32 + k * 16 + k) (by have := HR.out; omega); rw [HX.out] at hc1; clear HK; have HK := Lib.hid hk; clear hk))
              go_roundw
              case rel => exact ⟨k + 1, by omega, by go_num, by rw [HQ.out], HK.out⟩
              case measure => simp [intOf]; omega
            | true =>
              rw [hrt] at hrc
              by_cases hz : x = 0
              · subst hz
                have HQ := Lib.hid (show okR R (k + 1) = true by rw [HO.out, hok, hrt, HX.out]; rfl)
                clear hok hrt
                go_wp2_with (first
                  | (refine load_want HK.out 0 16 Try.underlying23 rfl vec_info _ rfl rfl rfl rfl (by have := HR.out; omega) ?_)
                  | (go_at_call 36; (with_reducible refine (hrc _).mono ?_); rintro e u ⟨rfl, hb⟩; have hk := HK.out.call hb; clear hb hc1; have hc1 := (hk.get 0 rfl).cell (k := 32 + k * 16 + k) (by have := HR.out; omega); rw [HX.out] at hc1; clear HK; have HK := Lib.hid hk; clear hk))
                go_roundw
                case rel => exact ⟨k + 1, by omega, by go_num, by rw [HQ.out], HK.out⟩
                case measure => simp [intOf]; omega
              · have HQ := Lib.hid (show okR R (k + 1) = false by rw [HO.out, hok, hrt, HX.out, beq_eq_false_iff_ne.2 hz]; rfl)
                clear hok hrt
                go_wp2_with (first
                  | (refine load_want HK.out 0 16 Try.underlying23 rfl vec_info _ rfl rfl rfl rfl (by have := HR.out; omega) ?_)
                  | (go_at_call 36; (with_reducible refine (hrc _).mono ?_); rintro e u ⟨rfl, hb⟩; have hk := HK.out.call hb; clear hb hc1; have hc1 := (hk.get 0 rfl).cell (k := 32 + k * 16 + k) (by have := HR.out; omega); rw [HX.out] at hc1; clear HK; have HK := Lib.hid hk; clear hk))
                go_roundw
                case rel => exact ⟨k + 1, by omega, by go_num, by rw [HQ.out, beq_eq_false_iff_ne.2 hz], HK.out⟩
                case measure => simp [intOf]; omega
        · obtain rfl : k = 16 := by omega
          rw [HOK.out]
          go_wp2
          go_ret
          exact ⟨rfl, HK.out.bel⟩
    | true =>
      rw [h0, h1] at h00
      rw [h0] at c0
      rw [h1] at c1
      have H00 := Lib.hid h00; clear h00 h0 h1
      rw [Bool.true_and] at H00
      go_enter Try.func16, Try.ntmps16
      go_wp2_with (first
        | (with_reducible refine box_new HK.out rfl _ rfl rfl ?_; intro b u hk hb; clear hb; clear HK; have HK := Lib.hid hk; clear hk)
        | (with_reducible refine load_part HK.out 0 16 Try.underlying23 rfl vec_info rfl _ rfl rfl rfl (by have := HR.out; omega) ?_)
        | (refine load_want HK.out 0 16 Try.underlying23 rfl vec_info _ rfl rfl rfl rfl (by have := HR.out; omega) ?_)
        | (go_at_call 36; (with_reducible refine (c0 _).mono ?_); rintro e u ⟨rfl, hb⟩; have hk := HK.out.call hb; clear hb; clear HK; have HK := Lib.hid hk; clear hk)
        | (go_at_call 36; (with_reducible refine (c1 _).mono ?_); rintro e u ⟨rfl, hb⟩; have hk := HK.out.call hb; clear hb; clear HK; have HK := Lib.hid hk; clear hk))
      go_loopw [3, 4] (fun ok i wr => ∃ k : Nat, k ≤ 16 ∧ i = .int .i64 k ∧ ok = .bool (okR R k) ∧ KeepR w [(b, 26, R)] wr) (fun _ i _ => 16 - (intOf i).toNat)
      case atStart => exact ⟨0, by omega, rfl, by rw [H00.out], HK.out⟩
      case round =>
        obtain ⟨k, hk0, rfl, rfl, hk⟩ := hrel
        clear HK
        have HK := Lib.hid hk
        clear hk
        by_cases hlt : k < 16
        · have HO := Lib.hid (okR_succ R k)
          have hc1 := (HK.out.get 0 rfl).cell (k := 32 + k * 16 + k) (by have := HR.out; omega)
          have HL := Lib.hid (seg_length (R := R) (o := 32 + k * 16) (n := 16) (by have := HR.out; omega))
          have hrc := rright_any (seg R (32 + k * 16) 16) HL.out
          have i1 : (0 : Int) ≤ (k : Int) := by omega
          have i2 : (k : Int) < 16 := by omega
          generalize hx : R.getD (32 + k * 16 + k) 0 = x at hc1
          have HX := Lib.hid hx; clear hx
          cases hok : okR R k with
          | false =>
            have HQ := Lib.hid (show okR R (k + 1) = false by rw [HO.out, hok]; rfl)
            clear hok hrc
            go_wp2
            go_roundw
            case rel => exact ⟨k + 1, by omega, by go_num, by rw [HQ.out], HK.out⟩
            case measure => simp [intOf]; omega
          | true =>
            cases hrt : rightB (seg R (32 + k * 16) 16) with
            | false =>
              have HQ := Lib.hid (show okR R (k + 1) = false by rw [HO.out, hok, hrt]; rfl)
              rw [hrt] at hrc
              clear hok hrt
              go_wp2_with (first
                | (refine load_want HK.out 0 16 Try.underlying23 rfl vec_info _ rfl rfl rfl rfl (by have := HR.out; omega) ?_)
                | (go_at_call 36; (with_reducible refine (hrc _).mono ?_); rintro e u ⟨rfl, hb⟩; have hk := HK.out.call hb; clear hb hc1; have hc1 := (hk.get 0 rfl).cell (k := 32 + k * 16 + k) (by have := HR.out; omega); rw [HX.out] at hc1; clear HK; have HK := Lib.hid hk; clear hk))
              go_roundw
              case rel => exact ⟨k + 1, by omega, by go_num, by rw [HQ.out], HK.out⟩
              case measure => simp [intOf]; omega
            | true =>
              rw [hrt] at hrc
              by_cases hz : x = 0
              · subst hz
                have HQ := Lib.hid (show okR R (k + 1) = true by rw [HO.out, hok, hrt, HX.out]; rfl)
                clear hok hrt
                go_wp2_with (first
                  | (refine load_want HK.out 0 16 Try.underlying23 rfl vec_info _ rfl rfl rfl rfl (by have := HR.out; omega) ?_)
                  | (go_at_call 36; (with_reducible refine (hrc _).mono ?_); rintro e u ⟨rfl, hb⟩; have hk := HK.out.call hb; clear hb hc1; have hc1 := (hk.get 0 rfl).cell (k := 32 + k * 16 + k) (by have := HR.out; omega); rw [HX.out] at hc1; clear HK; have HK := Lib.hid hk; clear hk))
                go_roundw
                case rel => exact ⟨k + 1, by omega, by go_num, by rw [HQ.out], HK.out⟩
                case measure => simp [intOf]; omega
              · have HQ := Lib.hid (show okR R (k + 1) = false by rw [HO.out, hok, hrt, HX.out, beq_eq_false_iff_ne.2 hz]; rfl)
                clear hok hrt
                go_wp2_with (first
                  | (refine load_want HK.out 0 16 Try.underlying23 rfl vec_info _ rfl rfl rfl rfl (by have := HR.out; omega) ?_)
                  | (go_at_call 36; (with_reducible refine (hrc _).mono ?_); rintro e u ⟨rfl, hb⟩; have hk := HK.out.call hb; clear hb hc1; have hc1 := (hk.get 0 rfl).cell (k := 32 + k * 16 + k) (by have := HR.out; omega); rw [HX.out] at hc1; clear HK; have HK := Lib.hid hk; clear hk))
                go_roundw
                case rel => exact ⟨k + 1, by omega, by go_num, by rw [HQ.out, beq_eq_false_iff_ne.2 hz], HK.out⟩
                case measure => simp [intOf]; omega
        · obtain rfl : k = 16 := by omega
          rw [HOK.out]
          go_wp2
          go_ret
          exact ⟨rfl, HK.out.bel⟩
end Go.Proofs.Ytpbjencigepnfaa
