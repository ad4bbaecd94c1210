/- What is asked of a field of another kind is refused, and told so; what is done keeps its name, kind and epoch, and it may be still. No condition. -/
import Derived.Test.YtbaccghnneidgaaGreatFa
import Derived.WalkKit
import Derived.ProofKit
import Derived.OpenShut
import Derived.ChangeOld
import Derived.Below
namespace Go.Proofs.YtbaccghnneidgaaGreat.fieldKinds
open Go.ChangeShapes Go.WideShapes Go.ChangeAt Go.RowKit
set_option linter.unusedVariables false

theorem own : ownKnob Tryz.prog.godebug = none := by kernel_rfl
theorem laidOut : laidOutB Tryz.prog = true := by kernel_rfl

theorem right_rights {p : Pf} {A : Option Addr} {c : Nat} (h : rightF (p.fd A c) p.hs = true) : p.k = 1 → rightsL p.hs = true := fun k1 => by
  unfold rightF at h
  simp only [Bool.and_eq_true, Bool.or_eq_true] at h
  rcases h.2 with h | h
  · unfold rcB at h
    simp only [Bool.and_eq_true] at h
    exact h.1.2
  · unfold rlB at h
    simp only [Bool.and_eq_true, beq_iff_eq] at h
    have := h.1.1.1
    rw [show (p.fd A c).k = p.k from rfl, k1] at this
    cases this
theorem head_du {C A1 A2 : List Int} (h : C.length = 579) (h1 : A1.length = 288) (h2 : A2.length = 288) : ∀ p, p < 3 → (splice (splice C 3 A1) 291 A2).getD p 0 = C.getD p 0 := fun p hp => by
  rw [splice_get _ _ _ _ (by rw [splice_length]; omega), if_neg (by omega), splice_get _ _ _ _ (by omega), if_neg (by omega)]
theorem head_ud {C A1 A2 : List Int} (h : C.length = 579) (h1 : A1.length = 288) (h2 : A2.length = 288) : ∀ p, p < 3 → (splice (splice C 291 A1) 3 A2).getD p 0 = C.getD p 0 := fun p hp => by
  rw [splice_get _ _ _ _ (by rw [splice_length]; omega), if_neg (by omega), splice_get _ _ _ _ (by omega), if_neg (by omega)]
theorem dn_du {C A1 A2 : List Int} (h : C.length = 579) (h1 : A1.length = 288) (h2 : A2.length = 288) : dnR (splice (splice C 3 A1) 291 A2) = A1 := by
  unfold dnR; rw [splice_seg_apart (by rw [splice_length]; omega) (by rw [splice_length]; omega) (by omega), splice_seg_same h1 (by omega)]
theorem up_du {C A1 A2 : List Int} (h : C.length = 579) (h2 : A2.length = 288) : upR (splice (splice C 3 A1) 291 A2) = A2 := by
  unfold upR; rw [splice_seg_same h2 (by rw [splice_length]; omega)]
theorem up_ud {C A1 A2 : List Int} (h : C.length = 579) (h1 : A1.length = 288) (h2 : A2.length = 288) : upR (splice (splice C 291 A1) 3 A2) = A1 := by
  unfold upR; rw [splice_seg_apart (by rw [splice_length]; omega) (by rw [splice_length]; omega) (by omega), splice_seg_same h1 (by omega)]
theorem dn_ud {C A1 A2 : List Int} (h : C.length = 579) (h2 : A2.length = 288) : dnR (splice (splice C 291 A1) 3 A2) = A2 := by
  unfold dnR; rw [splice_seg_same h2 (by rw [splice_length]; omega)]

theorem both_zero {e1 e2 : Int} (h : bothE e1 e2 = 0) : e1 = 0 ∧ e2 = 0 := by
  unfold bothE at h; split at h
  · exact ⟨by assumption, h⟩
  · contradiction
/-- What adding does, where it can be. -/
theorem inc_is {C : List Int} (hC : C.length = 579) {k n : Int} (he : incE C k n = 0) :
    useE (upR C) k n = 0 ∧ grE (dnR C) 0 k n = 0 ∧ upR (incA C k n) = useA (upR C) k n ∧ dnR (incA C k n) = grA (dnR C) 0 k n ∧ (incA C k n).length = 579 ∧ ∀ p, p < 3 → (incA C k n).getD p 0 = C.getD p 0 := by
  obtain ⟨h1, h2⟩ := both_zero he
  have lu := useA_length (upR_length hC) k n
  have lg := grA_length (dnR_length hC) 0 k n
  have e : incA C k n = splice (splice C 291 (useA (upR C) k n)) 3 (grA (dnR C) 0 k n) := by unfold incA; rw [h1, h2, bothA_yes]
  exact ⟨h1, h2, by rw [e, up_ud hC lu lg], by rw [e, dn_ud hC lg], incA_length hC k n, by rw [e]; exact head_ud hC lu lg⟩
theorem dec_is {C : List Int} (hC : C.length = 579) {k n : Int} (he : decE C k n = 0) :
    useE (dnR C) k n = 0 ∧ grE (upR C) 0 k n = 0 ∧ dnR (decA C k n) = useA (dnR C) k n ∧ upR (decA C k n) = grA (upR C) 0 k n ∧ (decA C k n).length = 579 ∧ ∀ p, p < 3 → (decA C k n).getD p 0 = C.getD p 0 := by
  obtain ⟨h1, h2⟩ := both_zero he
  have lu := useA_length (dnR_length hC) k n
  have lg := grA_length (upR_length hC) 0 k n
  have e : decA C k n = splice (splice C 3 (useA (dnR C) k n)) 291 (grA (upR C) 0 k n) := by unfold decA; rw [h1, h2, bothA_yes]
  exact ⟨h1, h2, by rw [e, dn_du hC lu lg], by rw [e, up_du hC lg], decA_length hC k n, by rw [e]; exact head_du hC lu lg⟩
theorem hand_is {C : List Int} (hC : C.length = 579) {i k d u : Int} (he : handE C i k d u = 0) :
    moveE (dnR C) i k d = 0 ∧ moveE (upR C) i k u = 0 ∧ dnR (handA C i k d u) = moveA (dnR C) i k d ∧ upR (handA C i k d u) = moveA (upR C) i k u ∧ (handA C i k d u).length = 579 ∧ ∀ p, p < 3 → (handA C i k d u).getD p 0 = C.getD p 0 := by
  obtain ⟨h1, h2⟩ := both_zero he
  have lu := moveA_length (dnR_length hC) i k d
  have lg := moveA_length (upR_length hC) i k u
  have e : handA C i k d u = splice (splice C 3 (moveA (dnR C) i k d)) 291 (moveA (upR C) i k u) := by unfold handA; rw [h1, h2, bothA_yes]
  exact ⟨h1, h2, by rw [e, dn_du hC lu lg], by rw [e, up_du hC lg], handA_length hC i k d u, by rw [e]; exact head_du hC lu lg⟩
theorem kinds_no (P : Pf) (A : Option Addr) (c b : Nat) (E : Int) (hE : E ≠ 0) (w : World) :
    Calls Tryz.prog 38 #[.agg (P.fd A c).cells.toArray, .int .i64 E, .pointer (some ⟨b, 0, none⟩)] w fun e w' => e = .returned (.bool true) ∧ Below w.heap.size w w' := by
  have HK := Lib.hid (KeepF.start (w := w) (rows := []) (by simp))
  have d0 : (E != 0) = true := by simpa using hE
  go_enter Tryz.func38, Tryz.ntmps38
  go_wp2_with (first
    | (with_reducible refine box_f HK.out rfl _ rfl rfl ?_; intro bx u hk; clear HK; have HK := Lib.hid hk; clear hk))
  go_ret
  exact ⟨rfl, HK.out.bel⟩
set_option maxHeartbeats 1000000 in
theorem kinds_ok (p P : Pf) (hp : p.full) (hP : P.full) (h1 : P.nm = p.nm) (h2 : P.k = p.k) (h3 : P.e = p.e) (h4 : P.C.getD 1 0 = p.C.getD 1 0) (h5 : P.C.getD 2 0 = p.C.getD 2 0) (A A0 : Option Addr) (c c0 b : Nat) (w : World) (hb : Cel w b 33 (p.fd A0 c0).cells) :
    Calls Tryz.prog 38 #[.agg (P.fd A c).cells.toArray, .int .i64 0, .pointer (some ⟨b, 0, none⟩)] w fun e w' => e = .returned (.bool true) ∧ Below w.heap.size w w' := by
  have HK := Lib.hid (KeepF.start (w := w) (rows := []) (by simp))
  have HB := Lib.hid hb; clear hb
  have g1 : (P.fd A c).cells[0]? = some (.string p.nm) := by rw [Pf.cn, h1]
  have g2 : (P.fd A c).cells[1]? = some (.int .i64 p.k) := by rw [Pf.ck, h2]
  have g3 : (P.fd A c).cells[2]? = some (.int .i64 p.e) := by rw [Pf.ce, h3]
  have g4 : (P.fd A c).cells[4]? = some (.int .i64 (p.C.getD 1 0)) := by rw [← h4]; exact Fd.cI (f := P.fd A c) hP (j := 1) (by decide)
  have g5 : (P.fd A c).cells[5]? = some (.int .i64 (p.C.getD 2 0)) := by rw [← h5]; exact Fd.cI (f := P.fd A c) hP (j := 2) (by decide)
  have f4 : (p.fd A0 c0).cells[4]? = some (.int .i64 (p.C.getD 1 0)) := Fd.cI (f := p.fd A0 c0) hp (j := 1) (by decide)
  have f5 : (p.fd A0 c0).cells[5]? = some (.int .i64 (p.C.getD 2 0)) := Fd.cI (f := p.fd A0 c0) hp (j := 2) (by decide)
  generalize p.C.getD 1 0 = x1 at g4 f4
  generalize p.C.getD 2 0 = x2 at g5 f5
  clear h1 h2 h3 h4 h5
  go_enter Tryz.func38, Tryz.ntmps38
  go_wp2_with (first
    | (with_reducible refine box_f HK.out rfl _ rfl rfl ?_; intro bx u hk; clear HK; have HK := Lib.hid hk; clear hk)
    | (with_reducible refine load_f1 HK.out 0 cbS _ rfl rfl rfl rfl g1 ?_)
    | (with_reducible refine load_f1 HK.out 0 cbI _ rfl rfl rfl rfl g2 ?_)
    | (with_reducible refine load_f1 HK.out 0 cbI _ rfl rfl rfl rfl g3 ?_)
    | (with_reducible refine load_f1 HK.out 0 cbI _ rfl rfl rfl rfl g4 ?_)
    | (with_reducible refine load_f1 HK.out 0 cbI _ rfl rfl rfl rfl g5 ?_)
    | (with_reducible refine load_there cbS _ rfl (Cel.cell (Cel.below HB.out HK.out.bel HB.out.lt) Pf.cn) rfl rfl ?_)
    | (with_reducible refine load_there cbI _ rfl (Cel.cell (Cel.below HB.out HK.out.bel HB.out.lt) Pf.ck) rfl rfl ?_)
    | (with_reducible refine load_there cbI _ rfl (Cel.cell (Cel.below HB.out HK.out.bel HB.out.lt) Pf.ce) rfl rfl ?_)
    | (with_reducible refine load_there cbI _ rfl (Cel.cell (Cel.below HB.out HK.out.bel HB.out.lt) f4) rfl rfl ?_)
    | (with_reducible refine load_there cbI _ rfl (Cel.cell (Cel.below HB.out HK.out.bel HB.out.lt) f5) rfl rfl ?_))
  go_ret
  exact ⟨rfl, HK.out.bel⟩
theorem kinds_any (p P : Pf) (hp : p.full) (E : Int) (h : E = 0 → P.full ∧ P.nm = p.nm ∧ P.k = p.k ∧ P.e = p.e ∧ P.C.getD 1 0 = p.C.getD 1 0 ∧ P.C.getD 2 0 = p.C.getD 2 0) (A0 : Option Addr) (c0 b : Nat) (A : Option Addr) (c : Nat) (w : World) (hb : Cel w b 33 (p.fd A0 c0).cells) :
    Calls Tryz.prog 38 #[.agg (P.fd A c).cells.toArray, .int .i64 E, .pointer (some ⟨b, 0, none⟩)] w fun e w' => e = .returned (.bool true) ∧ Below w.heap.size w w' := by
  by_cases h0 : E = 0
  · subst h0
    obtain ⟨a1, a2, a3, a4, a5, a6⟩ := h rfl
    exact kinds_ok p P hp a1 a2 a3 a4 a5 a6 A A0 c c0 b w hb
  · exact kinds_no P A c b E h0 w
theorem right_1 {p : Pf} {A : Option Addr} {c : Nat} (h : rightF (p.fd A c) p.hs = true) (k1 : p.k = 1) : nameB p.nm = true ∧ epB p.e = true ∧ rightC p.C = true ∧ rightsL p.hs = true ∧ (p.L.l == zL.l) = true := by
  unfold rightF at h
  simp only [Bool.and_eq_true, Bool.or_eq_true] at h
  obtain ⟨⟨h1, h2⟩, h3⟩ := h
  rcases h3 with h3 | h3
  · unfold rcB at h3
    simp only [Bool.and_eq_true] at h3
    exact ⟨h1, h2, h3.1.1.2, h3.1.2, h3.2⟩
  · unfold rlB at h3
    simp only [Bool.and_eq_true, beq_iff_eq] at h3
    have := h3.1.1.1
    rw [show (p.fd A c).k = p.k from rfl, k1] at this
    cases this
theorem right_2 {p : Pf} {A : Option Addr} {c : Nat} (h : rightF (p.fd A c) p.hs = true) (k1 : p.k ≠ 1) : p.k = 2 ∧ nameB p.nm = true ∧ epB p.e = true ∧ rightL p.L = true ∧ p.hs = [] ∧ p.C = zer 579 := by
  unfold rightF at h
  simp only [Bool.and_eq_true, Bool.or_eq_true] at h
  obtain ⟨⟨h1, h2⟩, h3⟩ := h
  rcases h3 with h3 | h3
  · unfold rcB at h3
    simp only [Bool.and_eq_true, beq_iff_eq] at h3
    exact absurd h3.1.1.1 k1
  · unfold rlB at h3
    simp only [Bool.and_eq_true, beq_iff_eq, decide_eq_true_eq] at h3
    exact ⟨h3.1.1.1, h1, h2, h3.1.1.2, List.eq_nil_of_length_eq_zero h3.1.2, h3.2⟩
theorem addPC_head {p : Pf} (hp : p.full) {k n : Int} (k1 : p.k = 1) (h : addPE p k n = 0) : ∀ j, j < 3 → (addPC p k n).getD j 0 = p.C.getD j 0 := by
  unfold addPE at h
  rw [if_pos k1] at h
  unfold addPC
  split
  · rename_i h0
    rw [if_pos h0] at h
    exact (inc_is hp h).2.2.2.2.2
  · rename_i h0
    rw [if_neg h0] at h
    split
    · rename_i h1
      rw [if_pos h1] at h
      cases h
    · rename_i h1
      rw [if_neg h1] at h
      exact (dec_is hp h).2.2.2.2.2
theorem add_kind {p : Pf} (hp : p.full) {k n : Int} (k1 : p.k = 1) (h : addPE p k n = 0) : (addP p k n).full ∧ (addP p k n).nm = p.nm ∧ (addP p k n).k = p.k ∧ (addP p k n).e = p.e ∧ (addP p k n).C.getD 1 0 = p.C.getD 1 0 ∧ (addP p k n).C.getD 2 0 = p.C.getD 2 0 := by
  have e : addP p k n = p.setC (addPC p k n) := by rw [addP, h, toldP_0]
  rw [e]
  exact ⟨addPC_length hp k n, rfl, rfl, rfl, addPC_head hp k1 h 1 (by decide), addPC_head hp k1 h 2 (by decide)⟩
theorem res_kind {p : Pf} (hp : p.full) {k a d : Int} (h : resPE p k a d = 0) : (resP p k a d).full ∧ (resP p k a d).nm = p.nm ∧ (resP p k a d).k = p.k ∧ (resP p k a d).e = p.e ∧ (resP p k a d).C.getD 1 0 = p.C.getD 1 0 ∧ (resP p k a d).C.getD 2 0 = p.C.getD 2 0 := by
  have e : resP p k a d = p.setH (resPH p k a d) := by rw [resP, h, toldP_0]
  rw [e]
  exact ⟨hp, rfl, rfl, rfl, rfl, rfl⟩
theorem res_rights {hs : List Ho} {k a d : Int} (h : resE hs k a d = 0) : rightsL (resL hs k a d) = true := by
  have h0 := h
  unfold resE at h
  split at h
  · rename_i h1
    simp only [Bool.and_eq_true] at h1
    split at h
    · cases h
    · rename_i h16
      obtain ⟨r1, r2, r3⟩ := rights_iff.1 h1.1
      rw [resL, if_pos h0, rights_iff]
      refine ⟨by rw [insH_length]; omega, fun x hx => ?_, insH_rises r3 new_apart⟩
      rcases mem_insH.1 hx with rfl | hx
      · exact h1.2
      · exact r2 x hx
  · cases h
theorem res_right {p : Pf} {A0 : Option Addr} {c0 : Nat} (hr : rightF (p.fd A0 c0) p.hs = true) (k1 : p.k = 1) {k a d : Int} (h : resPE p k a d = 0) (A : Option Addr) (c : Nat) : rightF ((resP p k a d).fd A c) (resP p k a d).hs = true := by
  obtain ⟨n1, n2, n3, n4, n5⟩ := right_1 hr k1
  have e : resP p k a d = p.setH (resPH p k a d) := by rw [resP, h, toldP_0]
  have hl : rightsL (resPH p k a d) = true := by
    unfold resPE at h
    rw [if_pos k1] at h
    unfold resPH
    split
    · exact n4
    · rename_i h1
      rw [if_neg h1] at h
      exact res_rights h
  rw [e, rightF, rcB]
  show ((nameB p.nm && epB p.e) && ((p.k == 1) && rightC p.C && rightsL (resPH p k a d) && (p.L.l == zL.l) || _)) = true
  rw [n1, n2, n3, hl, n5, k1]
  rfl
theorem wr_right {p : Pf} {A0 : Option Addr} {c0 : Nat} (hr : rightF (p.fd A0 c0) p.hs = true) (k1 : p.k ≠ 1) {k n : Int} (h : wrPE p k n = 0) (A : Option Addr) (c : Nat) : rightF ((wrP p k n).fd A c) (wrP p k n).hs = true ∧ (wrP p k n).nm = p.nm ∧ (wrP p k n).e = p.e := by
  obtain ⟨n0, n1, n2, n3, n4, n5⟩ := right_2 hr k1
  have e : wrP p k n = p.setL (wrA p.L k n) := by rw [wrP, h, toldP_0]
  have h2 : wrE p.L k n = 0 := by unfold wrPE at h; rwa [if_pos n0] at h
  have e2 : wrA p.L k n = ⟨p.L.s, p.L.v + 1, p.L.h, n⟩ := by rw [wrA, if_pos h2]
  unfold wrE at h2
  split at h2
  · cases h2
  · split at h2
    · cases h2
    · rename_i h3 h4
      have h4' : isB n = true := by simpa using h4
      have hv : isB (p.L.v + 1) = true := by
        rcases add1_cases p.L.v with ⟨h5, _⟩ | ⟨h5, _⟩
        · cases h6 : okB p.L.v 1 (p.L.v + 1) with
          | true => exact (okB_iff.1 h6).2.2
          | false => rw [(addE_no h6).1] at h2; cases h2
        · rw [h5] at h2; cases h2
      have hl : rightL ⟨p.L.s, p.L.v + 1, p.L.h, n⟩ = true := by
        have q := rightL_iff.1 n3
        have q2 := isB_iff.1 hv
        have q3 := isB_iff.1 h4'
        rw [rightL_iff]
        simp only
        omega
      rw [e, e2]
      refine ⟨?_, rfl, rfl⟩
      rw [rightF, rlB]
      show ((nameB p.nm && epB p.e) && (_ || (p.k == 2) && rightL ⟨p.L.s, p.L.v + 1, p.L.h, n⟩ && decide (p.hs.length = 0) && (p.C == zer 579))) = true
      rw [n1, n2, n0, hl, n4, n5]
      simp
theorem wr_kind {p : Pf} (k2 : p.k = 2) (k n : Int) : wrPE p k n ≠ 17 := by
  unfold wrPE wrE
  rw [if_pos k2]
  split
  · decide
  · split
    · decide
    · rcases add1_cases p.L.v with ⟨h, _⟩ | ⟨h, _⟩ <;> rw [h] <;> decide

set_option maxRecDepth 100000 in
set_option maxHeartbeats 8000000 in
theorem walk (w : World) (p0 : Pf) (A0 : Option Addr) (c0 : Nat) (hp0 : p0.full) (hd0 : Came w A0 p0.hs.length p0.hs) (hc0 : p0.hs.length ≤ c0) (hw0 : ∀ z ∈ p0.C, (Lit.int .i64 z).wf = true) (a1 : Int) (w1 : (Lit.int .i64 a1).wf = true) (a2 : Int) (w2 : (Lit.int .i64 a2).wf = true) (a3 : Int) (w3 : (Lit.int .i64 a3).wf = true) :
    Calls Tryz.prog 7 #[.agg (p0.fd A0 c0).cells.toArray, .int .i64 a1, .int .i64 a2, .int .i64 a3] w fun e w' => e = .returned (.bool true) ∧ Below w.heap.size w w' := by
  cases hfew : fewP p0 with
  | false =>
    have HFEW := Lib.hid hfew
    have HF := Lib.hid hp0; clear hp0
    have HK := Lib.hid (KeepF.start (w := w) (rows := []) (by simp))
    clear hd0
    go_enter Tryz.func7, Tryz.ntmps7
    go_wp2_with (first
      | (with_reducible refine box_f HK.out rfl _ rfl rfl ?_; intro b1 u hk; clear HK; have HK := Lib.hid hk; clear hk)
      | (with_reducible refine load_fr HK.out 0 Tryz.underlying33 rfl (Pf.infoF HF.out) _ rfl rfl rfl rfl Pf.all ?_)
      | (with_reducible refine build_f1 HK.out rfl _ rfl HF.out rfl ?_; intro b2 u hk; clear HK; have HK := Lib.hid hk; clear hk)
      | (go_at_call 9; (with_reducible refine (few_f p0 HF.out A0 c0 _ _ HFEW.out _ (HK.out.get 0 rfl)).mono ?_); rintro e u ⟨rfl, hb⟩; have hk := HK.out.call hb; clear hb; clear HK; have HK := Lib.hid hk; clear hk)
      | (go_at_call 10; (with_reducible refine (awake_f _).mono ?_); rintro e u ⟨rfl, hb⟩; have hk := HK.out.call hb; clear hb; clear HK; have HK := Lib.hid hk; clear hk))
    go_ret
    exact ⟨rfl, HK.out.bel⟩
  | true =>
    have hsz : p0.nm.size ≤ 100 ∧ p0.hs.length ≤ 40 := by simpa [fewP] using hfew
    have hrow := hd0.row (by omega)
    have HFEW := Lib.hid hfew
    have HF := Lib.hid hp0
    have HK := Lib.hid (KeepF.start (w := w) (rows := [(A0, p0.hs.length, p0.hs)]) (by simpa using hrow))
    cases hr : rightF (p0.fd A0 c0) p0.hs with
    | false =>
      have hr2 := fun w h => rright_any7 (p0.fd A0 c0) hp0 (by have := hsz.1; exact Nat.le_trans this (by omega)) p0.hs w h _ hr
      clear hr hrow hd0 hsz hfew
      go_enter Tryz.func7, Tryz.ntmps7
      go_wp2_with (first
        | (with_reducible refine box_f HK.out rfl _ rfl rfl ?_; intro b1 u hk; clear HK; have HK := Lib.hid hk; clear hk)
        | (with_reducible refine load_fr HK.out 0 Tryz.underlying33 rfl (Pf.infoF HF.out) _ rfl rfl rfl rfl Pf.all ?_)
        | (with_reducible refine build_f1 HK.out rfl _ rfl HF.out rfl ?_; intro b2 u hk; clear HK; have HK := Lib.hid hk; clear hk)
        | (go_at_call 9; (with_reducible refine (few_f p0 HF.out A0 c0 _ _ HFEW.out _ (HK.out.get 0 rfl)).mono ?_); rintro e u ⟨rfl, hb⟩; have hk := HK.out.call hb; clear hb; clear HK; have HK := Lib.hid hk; clear hk)
        | (with_reducible refine load_fr HK.out 1 Tryz.underlying33 rfl (Pf.infoF HF.out) _ rfl rfl rfl rfl Pf.all ?_)
        | (go_at_call 14; (with_reducible refine (hr2 _ (HK.out.rowAt 0 rfl)).mono ?_); rintro e u ⟨rfl, hb⟩; have hk := HK.out.call hb; clear hb; clear HK; have HK := Lib.hid hk; clear hk)
        | (go_at_call 10; (with_reducible refine (awake_f _).mono ?_); rintro e u ⟨rfl, hb⟩; have hk := HK.out.call hb; clear hb; clear HK; have HK := Lib.hid hk; clear hk))
      go_ret
      exact ⟨rfl, HK.out.bel⟩
    | true =>
      have hr2 := fun w h => rright_any7 (p0.fd A0 c0) hp0 (by have := hsz.1; exact Nat.le_trans this (by omega)) p0.hs w h _ hr
      have hrr := right_rights hr
      by_cases l1 : 1073741824 < a2
      · have d1 : decide (1073741824 < a2) = true := by simpa using l1
        clear hr hrr hrow hd0 hsz hfew hp0
        go_enter Tryz.func7, Tryz.ntmps7
        go_wp2_with (first
          | (with_reducible refine box_f HK.out rfl _ rfl rfl ?_; intro b1 u hk; clear HK; have HK := Lib.hid hk; clear hk)
          | (with_reducible refine load_fr HK.out 0 Tryz.underlying33 rfl (Pf.infoF HF.out) _ rfl rfl rfl rfl Pf.all ?_)
          | (with_reducible refine build_f1 HK.out rfl _ rfl HF.out rfl ?_; intro b2 u hk; clear HK; have HK := Lib.hid hk; clear hk)
          | (go_at_call 9; (with_reducible refine (few_f p0 HF.out A0 c0 _ _ HFEW.out _ (HK.out.get 0 rfl)).mono ?_); rintro e u ⟨rfl, hb⟩; have hk := HK.out.call hb; clear hb; clear HK; have HK := Lib.hid hk; clear hk)
          | (with_reducible refine load_fr HK.out 1 Tryz.underlying33 rfl (Pf.infoF HF.out) _ rfl rfl rfl rfl Pf.all ?_)
          | (go_at_call 14; (with_reducible refine (hr2 _ (HK.out.rowAt 0 rfl)).mono ?_); rintro e u ⟨rfl, hb⟩; have hk := HK.out.call hb; clear hb; clear HK; have HK := Lib.hid hk; clear hk)
          | (go_at_call 10; (with_reducible refine (awake_f _).mono ?_); rintro e u ⟨rfl, hb⟩; have hk := HK.out.call hb; clear hb; clear HK; have HK := Lib.hid hk; clear hk))
        go_ret
        exact ⟨rfl, HK.out.bel⟩
      have d1 : decide (1073741824 < a2) = false := by simpa using l1
      by_cases l2 : 1073741824 < a3
      · have d2 : decide (1073741824 < a3) = true := by simpa using l2
        clear hr hrr hrow hd0 hsz hfew hp0
        go_enter Tryz.func7, Tryz.ntmps7
        go_wp2_with (first
          | (with_reducible refine box_f HK.out rfl _ rfl rfl ?_; intro b1 u hk; clear HK; have HK := Lib.hid hk; clear hk)
          | (with_reducible refine load_fr HK.out 0 Tryz.underlying33 rfl (Pf.infoF HF.out) _ rfl rfl rfl rfl Pf.all ?_)
          | (with_reducible refine build_f1 HK.out rfl _ rfl HF.out rfl ?_; intro b2 u hk; clear HK; have HK := Lib.hid hk; clear hk)
          | (go_at_call 9; (with_reducible refine (few_f p0 HF.out A0 c0 _ _ HFEW.out _ (HK.out.get 0 rfl)).mono ?_); rintro e u ⟨rfl, hb⟩; have hk := HK.out.call hb; clear hb; clear HK; have HK := Lib.hid hk; clear hk)
          | (with_reducible refine load_fr HK.out 1 Tryz.underlying33 rfl (Pf.infoF HF.out) _ rfl rfl rfl rfl Pf.all ?_)
          | (go_at_call 14; (with_reducible refine (hr2 _ (HK.out.rowAt 0 rfl)).mono ?_); rintro e u ⟨rfl, hb⟩; have hk := HK.out.call hb; clear hb; clear HK; have HK := Lib.hid hk; clear hk)
          | (go_at_call 10; (with_reducible refine (awake_f _).mono ?_); rintro e u ⟨rfl, hb⟩; have hk := HK.out.call hb; clear hb; clear HK; have HK := Lib.hid hk; clear hk))
        go_ret
        exact ⟨rfl, HK.out.bel⟩
      have d2 : decide (1073741824 < a3) = false := by simpa using l2
      by_cases l3 : a2 < -1073741824
      · have d3 : decide (a2 < -1073741824) = true := by simpa using l3
        clear hr hrr hrow hd0 hsz hfew hp0
        go_enter Tryz.func7, Tryz.ntmps7
        go_wp2_with (first
          | (with_reducible refine box_f HK.out rfl _ rfl rfl ?_; intro b1 u hk; clear HK; have HK := Lib.hid hk; clear hk)
          | (with_reducible refine load_fr HK.out 0 Tryz.underlying33 rfl (Pf.infoF HF.out) _ rfl rfl rfl rfl Pf.all ?_)
          | (with_reducible refine build_f1 HK.out rfl _ rfl HF.out rfl ?_; intro b2 u hk; clear HK; have HK := Lib.hid hk; clear hk)
          | (go_at_call 9; (with_reducible refine (few_f p0 HF.out A0 c0 _ _ HFEW.out _ (HK.out.get 0 rfl)).mono ?_); rintro e u ⟨rfl, hb⟩; have hk := HK.out.call hb; clear hb; clear HK; have HK := Lib.hid hk; clear hk)
          | (with_reducible refine load_fr HK.out 1 Tryz.underlying33 rfl (Pf.infoF HF.out) _ rfl rfl rfl rfl Pf.all ?_)
          | (go_at_call 14; (with_reducible refine (hr2 _ (HK.out.rowAt 0 rfl)).mono ?_); rintro e u ⟨rfl, hb⟩; have hk := HK.out.call hb; clear hb; clear HK; have HK := Lib.hid hk; clear hk)
          | (go_at_call 10; (with_reducible refine (awake_f _).mono ?_); rintro e u ⟨rfl, hb⟩; have hk := HK.out.call hb; clear hb; clear HK; have HK := Lib.hid hk; clear hk))
        go_ret
        exact ⟨rfl, HK.out.bel⟩
      have d3 : decide (a2 < -1073741824) = false := by simpa using l3
      have hf1 := fun w h => fadd_any p0 hp0 A0 c0 a1 a2 w h
      have hf2 := fun w h => fwrite_any p0 hp0 A0 c0 a1 a2 w h
      have hf3 := fun w h => freserve_any p0 hp0 A0 c0 a1 a2 a3 w h
      have HP1 := Lib.hid (addP_full hp0 a1 a2)
      have HP2 := Lib.hid (wrP_full hp0 a1 a2)
      have HP3 := Lib.hid (resP_full hp0 a1 a2 a3)
      have hkc : (p0.fd A0 c0).cells[1]? = some (.int .i64 p0.k) := Pf.ck
      by_cases k1 : p0.k = 1
      · -- a counter
        rw [k1] at hkc
        have e2 : wrPE p0 a1 a2 = 17 := by unfold wrPE; rw [if_neg (by rw [k1]; decide)]
        rw [e2] at hf2
        have hs1 := kinds_any p0 (addP p0 a1 a2) hp0 (addPE p0 a1 a2) (add_kind hp0 k1) A0 c0
        have hs3 := kinds_any p0 (resP p0 a1 a2 a3) hp0 (resPE p0 a1 a2 a3) (res_kind hp0) A0 c0
        have hn3 := show resPE p0 a1 a2 a3 = 0 → (resP p0 a1 a2 a3).nm.size ≤ 1000 from fun h => by rw [(res_kind hp0 h).2.1]; omega
        have hr3 := fun h A c w (hq : Row w A (resP p0 a1 a2 a3).hs.length (resP p0 a1 a2 a3).hs) => rright_any7 ((resP p0 a1 a2 a3).fd A c) HP3.out (hn3 h) (resP p0 a1 a2 a3).hs w hq true (res_right hr k1 h A c)
        clear hn3 hr hrr hrow hd0 hsz hfew hw0 hc0 w1 w2 w3 hp0 e2 l1 l2 l3 k1
        generalize addP p0 a1 a2 = P1 at hf1 HP1 hs1
        generalize addPE p0 a1 a2 = E1 at hf1 hs1
        generalize wrP p0 a1 a2 = P2 at hf2 HP2
        generalize resP p0 a1 a2 a3 = P3 at hf3 HP3 hs3 hr3
        generalize resPE p0 a1 a2 a3 = E3 at hf3 hs3 hr3
        generalize resPN p0 a1 a2 a3 = N3 at hf3
        have hmf : ∀ (fn : Fn) (first cap : Array Value) (w : World), (Instr.makeFunc fn first cap).run Tryz.prog w = .ok (.func fn first cap) w := fun _ _ _ _ => rfl
        by_cases h3 : E3 = 0
        · subst h3
          have hr4 := hr3 rfl
          clear hr3
          go_enter Tryz.func7, Tryz.ntmps7
          go_wp2_with (first
            | (with_reducible refine box_f HK.out rfl _ rfl rfl ?_; intro b1 u hk; clear HK; have HK := Lib.hid hk; clear hk)
            | (with_reducible refine load_fr HK.out 0 Tryz.underlying33 rfl (Pf.infoF HF.out) _ rfl rfl rfl rfl Pf.all ?_)
            | (with_reducible refine build_f1 HK.out rfl _ rfl HF.out rfl ?_; intro b2 u hk; clear HK; have HK := Lib.hid hk; clear hk)
            | (go_at_call 9; (with_reducible refine (few_f p0 HF.out A0 c0 _ _ HFEW.out _ (HK.out.get 0 rfl)).mono ?_); rintro e u ⟨rfl, hb⟩; have hk := HK.out.call hb; clear hb; clear HK; have HK := Lib.hid hk; clear hk)
            | (with_reducible refine load_fr HK.out 1 Tryz.underlying33 rfl (Pf.infoF HF.out) _ rfl rfl rfl rfl Pf.all ?_)
            | (go_at_call 14; (with_reducible refine (hr2 _ (HK.out.rowAt 0 rfl)).mono ?_); rintro e u ⟨rfl, hb⟩; have hk := HK.out.call hb; clear hb; clear HK; have HK := Lib.hid hk; clear hk)
            | (with_reducible refine load_fr HK.out 2 Tryz.underlying33 rfl (Pf.infoF HF.out) _ rfl rfl rfl rfl Pf.all ?_)
            | (with_reducible refine load_fr HK.out 3 Tryz.underlying33 rfl (Pf.infoF HF.out) _ rfl rfl rfl rfl Pf.all ?_)
            | (with_reducible refine load_fr HK.out 4 Tryz.underlying33 rfl (Pf.infoF HF.out) _ rfl rfl rfl rfl Pf.all ?_)
            | (go_at_call 24; (with_reducible refine (hf1 _ (HK.out.rowAt 0 rfl)).mono ?_); rintro e u ⟨A1, c1, rfl, hg, hb⟩; have hk := HK.out.got hb 0 rfl hg; clear hg hb; clear HK; have HK := Lib.hid hk; clear hk)
            | (go_at_call 28; (with_reducible refine (hf2 _ (HK.out.rowAt 1 rfl)).mono ?_); rintro e u ⟨A2, c2, rfl, hg, hb⟩; have hk := HK.out.got hb 1 rfl hg; clear hg hb; clear HK; have HK := Lib.hid hk; clear hk)
            | (go_at_call 32; (with_reducible refine (hf3 _ (HK.out.rowAt 2 rfl)).mono ?_); rintro e u ⟨A3, c3, rfl, hg, hb⟩; have hk := HK.out.got hb 2 rfl hg; clear hg hb; clear HK; have HK := Lib.hid hk; clear hk)
            | (with_reducible refine alloc_f HK.out f_zeroP rfl rfl ?_; intro bz u hk; clear HK; have HK := Lib.hid hk; clear hk)
            | (with_reducible refine store_fr HK.out 0 (Pf.infoF HP1.out) (Fd.one _) rfl rfl _ _ rfl rfl rfl rfl (Fd.leP zP_full HP1.out) (Fd.setAllP zP_full HP1.out) ?_; intro u hk; simp only [List.set_cons_zero] at hk; clear HK; have HK := Lib.hid hk; clear hk)
            | (with_reducible refine store_fr HK.out 0 (Pf.infoF HP2.out) (Fd.one _) rfl rfl _ _ rfl rfl rfl rfl (Fd.leP zP_full HP2.out) (Fd.setAllP zP_full HP2.out) ?_; intro u hk; simp only [List.set_cons_zero] at hk; clear HK; have HK := Lib.hid hk; clear hk)
            | (with_reducible refine store_fr HK.out 0 (Pf.infoF HP3.out) (Fd.one _) rfl rfl _ _ rfl rfl rfl rfl (Fd.leP zP_full HP3.out) (Fd.setAllP zP_full HP3.out) ?_; intro u hk; simp only [List.set_cons_zero] at hk; clear HK; have HK := Lib.hid hk; clear hk)
            | (with_reducible refine load_f1 HK.out 4 cbI _ rfl rfl rfl rfl hkc ?_)
            | (with_reducible refine load_fr HK.out 2 Tryz.underlying33 rfl (Pf.infoF HP1.out) _ rfl rfl rfl rfl Pf.all ?_)
            | (with_reducible refine load_fr HK.out 0 Tryz.underlying33 rfl (Pf.infoF HP3.out) _ rfl rfl rfl rfl Pf.all ?_)
            | (go_at_call 38; (with_reducible refine (hs1 _ _ _ _ (HK.out.get 4 rfl)).mono ?_); rintro e u ⟨rfl, hb⟩; have hk := HK.out.call hb; clear hb; clear HK; have HK := Lib.hid hk; clear hk)
            | (go_at_call 38; (with_reducible refine (hs3 _ _ _ _ (HK.out.get 4 rfl)).mono ?_); rintro e u ⟨rfl, hb⟩; have hk := HK.out.call hb; clear hb; clear HK; have HK := Lib.hid hk; clear hk)
            | (go_at_call 14; (with_reducible refine (hr4 _ _ _ (HK.out.rowAt 0 rfl)).mono ?_); rintro e u ⟨rfl, hb⟩; have hk := HK.out.call hb; clear hb; clear HK; have HK := Lib.hid hk; clear hk)
            | (go_at_call 10; (with_reducible refine (awake_f _).mono ?_); rintro e u ⟨rfl, hb⟩; have hk := HK.out.call hb; clear hb; clear HK; have HK := Lib.hid hk; clear hk))
          go_ret
          exact ⟨rfl, HK.out.bel⟩
        · have d0 : (E3 != 0) = true := by simpa using h3
          clear hr3
          go_enter Tryz.func7, Tryz.ntmps7
          go_wp2_with (first
            | (with_reducible refine box_f HK.out rfl _ rfl rfl ?_; intro b1 u hk; clear HK; have HK := Lib.hid hk; clear hk)
            | (with_reducible refine load_fr HK.out 0 Tryz.underlying33 rfl (Pf.infoF HF.out) _ rfl rfl rfl rfl Pf.all ?_)
            | (with_reducible refine build_f1 HK.out rfl _ rfl HF.out rfl ?_; intro b2 u hk; clear HK; have HK := Lib.hid hk; clear hk)
            | (go_at_call 9; (with_reducible refine (few_f p0 HF.out A0 c0 _ _ HFEW.out _ (HK.out.get 0 rfl)).mono ?_); rintro e u ⟨rfl, hb⟩; have hk := HK.out.call hb; clear hb; clear HK; have HK := Lib.hid hk; clear hk)
            | (with_reducible refine load_fr HK.out 1 Tryz.underlying33 rfl (Pf.infoF HF.out) _ rfl rfl rfl rfl Pf.all ?_)
            | (go_at_call 14; (with_reducible refine (hr2 _ (HK.out.rowAt 0 rfl)).mono ?_); rintro e u ⟨rfl, hb⟩; have hk := HK.out.call hb; clear hb; clear HK; have HK := Lib.hid hk; clear hk)
            | (with_reducible refine load_fr HK.out 2 Tryz.underlying33 rfl (Pf.infoF HF.out) _ rfl rfl rfl rfl Pf.all ?_)
            | (with_reducible refine load_fr HK.out 3 Tryz.underlying33 rfl (Pf.infoF HF.out) _ rfl rfl rfl rfl Pf.all ?_)
            | (with_reducible refine load_fr HK.out 4 Tryz.underlying33 rfl (Pf.infoF HF.out) _ rfl rfl rfl rfl Pf.all ?_)
            | (go_at_call 24; (with_reducible refine (hf1 _ (HK.out.rowAt 0 rfl)).mono ?_); rintro e u ⟨A1, c1, rfl, hg, hb⟩; have hk := HK.out.got hb 0 rfl hg; clear hg hb; clear HK; have HK := Lib.hid hk; clear hk)
            | (go_at_call 28; (with_reducible refine (hf2 _ (HK.out.rowAt 1 rfl)).mono ?_); rintro e u ⟨A2, c2, rfl, hg, hb⟩; have hk := HK.out.got hb 1 rfl hg; clear hg hb; clear HK; have HK := Lib.hid hk; clear hk)
            | (go_at_call 32; (with_reducible refine (hf3 _ (HK.out.rowAt 2 rfl)).mono ?_); rintro e u ⟨A3, c3, rfl, hg, hb⟩; have hk := HK.out.got hb 2 rfl hg; clear hg hb; clear HK; have HK := Lib.hid hk; clear hk)
            | (with_reducible refine alloc_f HK.out f_zeroP rfl rfl ?_; intro bz u hk; clear HK; have HK := Lib.hid hk; clear hk)
            | (with_reducible refine store_fr HK.out 0 (Pf.infoF HP1.out) (Fd.one _) rfl rfl _ _ rfl rfl rfl rfl (Fd.leP zP_full HP1.out) (Fd.setAllP zP_full HP1.out) ?_; intro u hk; simp only [List.set_cons_zero] at hk; clear HK; have HK := Lib.hid hk; clear hk)
            | (with_reducible refine store_fr HK.out 0 (Pf.infoF HP2.out) (Fd.one _) rfl rfl _ _ rfl rfl rfl rfl (Fd.leP zP_full HP2.out) (Fd.setAllP zP_full HP2.out) ?_; intro u hk; simp only [List.set_cons_zero] at hk; clear HK; have HK := Lib.hid hk; clear hk)
            | (with_reducible refine store_fr HK.out 0 (Pf.infoF HP3.out) (Fd.one _) rfl rfl _ _ rfl rfl rfl rfl (Fd.leP zP_full HP3.out) (Fd.setAllP zP_full HP3.out) ?_; intro u hk; simp only [List.set_cons_zero] at hk; clear HK; have HK := Lib.hid hk; clear hk)
            | (with_reducible refine load_f1 HK.out 4 cbI _ rfl rfl rfl rfl hkc ?_)
            | (with_reducible refine load_fr HK.out 2 Tryz.underlying33 rfl (Pf.infoF HP1.out) _ rfl rfl rfl rfl Pf.all ?_)
            | (with_reducible refine load_fr HK.out 0 Tryz.underlying33 rfl (Pf.infoF HP3.out) _ rfl rfl rfl rfl Pf.all ?_)
            | (go_at_call 38; (with_reducible refine (hs1 _ _ _ _ (HK.out.get 4 rfl)).mono ?_); rintro e u ⟨rfl, hb⟩; have hk := HK.out.call hb; clear hb; clear HK; have HK := Lib.hid hk; clear hk)
            | (go_at_call 38; (with_reducible refine (hs3 _ _ _ _ (HK.out.get 4 rfl)).mono ?_); rintro e u ⟨rfl, hb⟩; have hk := HK.out.call hb; clear hb; clear HK; have HK := Lib.hid hk; clear hk)
            | (go_at_call 10; (with_reducible refine (awake_f _).mono ?_); rintro e u ⟨rfl, hb⟩; have hk := HK.out.call hb; clear hb; clear HK; have HK := Lib.hid hk; clear hk))
          go_ret
          exact ⟨rfl, HK.out.bel⟩
      · -- a lock
        have k2 := (right_2 hr k1).1
        rw [k2] at hkc
        have e1 : addPE p0 a1 a2 = 17 := by unfold addPE; rw [if_neg k1]
        have e3 : resPE p0 a1 a2 a3 = 17 := by unfold resPE; rw [if_neg k1]
        rw [e1] at hf1
        rw [e3] at hf3
        have hne := wr_kind k2 a1 a2
        have hwr := fun h => wr_right hr k1 (k := a1) (n := a2) h
        have hr3 := fun h A c w (hq : Row w A (wrP p0 a1 a2).hs.length (wrP p0 a1 a2).hs) => rright_any7 ((wrP p0 a1 a2).fd A c) HP2.out (by rw [show ((wrP p0 a1 a2).fd A c).nm = (wrP p0 a1 a2).nm from rfl, (hwr h A c).2.1]; omega) (wrP p0 a1 a2).hs w hq true (hwr h A c).1
        have hcn := fun h A c => show ((wrP p0 a1 a2).fd A c).cells[0]? = some (.string p0.nm) from by rw [Pf.cn, (hwr h A c).2.1]
        have hce := fun h A c => show ((wrP p0 a1 a2).fd A c).cells[2]? = some (.int .i64 p0.e) from by rw [Pf.ce, (hwr h A c).2.2]
        clear hwr hr hrr hrow hd0 hsz hfew hw0 hc0 w1 w2 w3 hp0 e1 e3 l1 l2 l3 k1 k2
        generalize addP p0 a1 a2 = P1 at hf1 HP1
        generalize wrP p0 a1 a2 = P2 at hf2 HP2 hr3 hcn hce
        generalize wrPE p0 a1 a2 = E2 at hf2 hr3 hne hcn hce
        generalize resP p0 a1 a2 a3 = P3 at hf3 HP3
        generalize resPN p0 a1 a2 a3 = N3 at hf3
        have hd17 : (E2 != 17) = true := by simpa using hne
        by_cases h2 : E2 = 0
        · subst h2
          have hr4 := hr3 rfl
          have hcn2 := hcn rfl
          have hce2 := hce rfl
          clear hr3 hcn hce
          go_enter Tryz.func7, Tryz.ntmps7
          go_wp2_with (first
            | (with_reducible refine box_f HK.out rfl _ rfl rfl ?_; intro b1 u hk; clear HK; have HK := Lib.hid hk; clear hk)
            | (with_reducible refine load_fr HK.out 0 Tryz.underlying33 rfl (Pf.infoF HF.out) _ rfl rfl rfl rfl Pf.all ?_)
            | (with_reducible refine build_f1 HK.out rfl _ rfl HF.out rfl ?_; intro b2 u hk; clear HK; have HK := Lib.hid hk; clear hk)
            | (go_at_call 9; (with_reducible refine (few_f p0 HF.out A0 c0 _ _ HFEW.out _ (HK.out.get 0 rfl)).mono ?_); rintro e u ⟨rfl, hb⟩; have hk := HK.out.call hb; clear hb; clear HK; have HK := Lib.hid hk; clear hk)
            | (with_reducible refine load_fr HK.out 1 Tryz.underlying33 rfl (Pf.infoF HF.out) _ rfl rfl rfl rfl Pf.all ?_)
            | (go_at_call 14; (with_reducible refine (hr2 _ (HK.out.rowAt 0 rfl)).mono ?_); rintro e u ⟨rfl, hb⟩; have hk := HK.out.call hb; clear hb; clear HK; have HK := Lib.hid hk; clear hk)
            | (with_reducible refine load_fr HK.out 2 Tryz.underlying33 rfl (Pf.infoF HF.out) _ rfl rfl rfl rfl Pf.all ?_)
            | (with_reducible refine load_fr HK.out 3 Tryz.underlying33 rfl (Pf.infoF HF.out) _ rfl rfl rfl rfl Pf.all ?_)
            | (with_reducible refine load_fr HK.out 4 Tryz.underlying33 rfl (Pf.infoF HF.out) _ rfl rfl rfl rfl Pf.all ?_)
            | (go_at_call 24; (with_reducible refine (hf1 _ (HK.out.rowAt 0 rfl)).mono ?_); rintro e u ⟨A1, c1, rfl, hg, hb⟩; have hk := HK.out.got hb 0 rfl hg; clear hg hb; clear HK; have HK := Lib.hid hk; clear hk)
            | (go_at_call 28; (with_reducible refine (hf2 _ (HK.out.rowAt 1 rfl)).mono ?_); rintro e u ⟨A2, c2, rfl, hg, hb⟩; have hk := HK.out.got hb 1 rfl hg; clear hg hb; clear HK; have HK := Lib.hid hk; clear hk)
            | (go_at_call 32; (with_reducible refine (hf3 _ (HK.out.rowAt 2 rfl)).mono ?_); rintro e u ⟨A3, c3, rfl, hg, hb⟩; have hk := HK.out.got hb 2 rfl hg; clear hg hb; clear HK; have HK := Lib.hid hk; clear hk)
            | (with_reducible refine alloc_f HK.out f_zeroP rfl rfl ?_; intro bz u hk; clear HK; have HK := Lib.hid hk; clear hk)
            | (with_reducible refine store_fr HK.out 0 (Pf.infoF HP1.out) (Fd.one _) rfl rfl _ _ rfl rfl rfl rfl (Fd.leP zP_full HP1.out) (Fd.setAllP zP_full HP1.out) ?_; intro u hk; simp only [List.set_cons_zero] at hk; clear HK; have HK := Lib.hid hk; clear hk)
            | (with_reducible refine store_fr HK.out 0 (Pf.infoF HP2.out) (Fd.one _) rfl rfl _ _ rfl rfl rfl rfl (Fd.leP zP_full HP2.out) (Fd.setAllP zP_full HP2.out) ?_; intro u hk; simp only [List.set_cons_zero] at hk; clear HK; have HK := Lib.hid hk; clear hk)
            | (with_reducible refine store_fr HK.out 0 (Pf.infoF HP3.out) (Fd.one _) rfl rfl _ _ rfl rfl rfl rfl (Fd.leP zP_full HP3.out) (Fd.setAllP zP_full HP3.out) ?_; intro u hk; simp only [List.set_cons_zero] at hk; clear HK; have HK := Lib.hid hk; clear hk)
            | (with_reducible refine load_f1 HK.out 4 cbI _ rfl rfl rfl rfl hkc ?_)
            | (with_reducible refine load_fr HK.out 1 Tryz.underlying33 rfl (Pf.infoF HP2.out) _ rfl rfl rfl rfl Pf.all ?_)
            | (go_at_call 14; (with_reducible refine (hr4 _ _ _ (HK.out.rowAt 1 rfl)).mono ?_); rintro e u ⟨rfl, hb⟩; have hk := HK.out.call hb; clear hb; clear HK; have HK := Lib.hid hk; clear hk)
            | (with_reducible refine load_f1 HK.out 1 cbS _ rfl rfl rfl rfl (hcn2 _ _) ?_)
            | (with_reducible refine load_f1 HK.out 4 cbS _ rfl rfl rfl rfl Pf.cn ?_)
            | (with_reducible refine load_f1 HK.out 1 cbI _ rfl rfl rfl rfl (hce2 _ _) ?_)
            | (with_reducible refine load_f1 HK.out 4 cbI _ rfl rfl rfl rfl Pf.ce ?_)
            | (go_at_call 10; (with_reducible refine (awake_f _).mono ?_); rintro e u ⟨rfl, hb⟩; have hk := HK.out.call hb; clear hb; clear HK; have HK := Lib.hid hk; clear hk))
          go_ret
          exact ⟨rfl, HK.out.bel⟩
        · have d0 : (E2 != 0) = true := by simpa using h2
          clear hr3 hcn hce
          go_enter Tryz.func7, Tryz.ntmps7
          go_wp2_with (first
            | (with_reducible refine box_f HK.out rfl _ rfl rfl ?_; intro b1 u hk; clear HK; have HK := Lib.hid hk; clear hk)
            | (with_reducible refine load_fr HK.out 0 Tryz.underlying33 rfl (Pf.infoF HF.out) _ rfl rfl rfl rfl Pf.all ?_)
            | (with_reducible refine build_f1 HK.out rfl _ rfl HF.out rfl ?_; intro b2 u hk; clear HK; have HK := Lib.hid hk; clear hk)
            | (go_at_call 9; (with_reducible refine (few_f p0 HF.out A0 c0 _ _ HFEW.out _ (HK.out.get 0 rfl)).mono ?_); rintro e u ⟨rfl, hb⟩; have hk := HK.out.call hb; clear hb; clear HK; have HK := Lib.hid hk; clear hk)
            | (with_reducible refine load_fr HK.out 1 Tryz.underlying33 rfl (Pf.infoF HF.out) _ rfl rfl rfl rfl Pf.all ?_)
            | (go_at_call 14; (with_reducible refine (hr2 _ (HK.out.rowAt 0 rfl)).mono ?_); rintro e u ⟨rfl, hb⟩; have hk := HK.out.call hb; clear hb; clear HK; have HK := Lib.hid hk; clear hk)
            | (with_reducible refine load_fr HK.out 2 Tryz.underlying33 rfl (Pf.infoF HF.out) _ rfl rfl rfl rfl Pf.all ?_)
            | (with_reducible refine load_fr HK.out 3 Tryz.underlying33 rfl (Pf.infoF HF.out) _ rfl rfl rfl rfl Pf.all ?_)
            | (with_reducible refine load_fr HK.out 4 Tryz.underlying33 rfl (Pf.infoF HF.out) _ rfl rfl rfl rfl Pf.all ?_)
            | (go_at_call 24; (with_reducible refine (hf1 _ (HK.out.rowAt 0 rfl)).mono ?_); rintro e u ⟨A1, c1, rfl, hg, hb⟩; have hk := HK.out.got hb 0 rfl hg; clear hg hb; clear HK; have HK := Lib.hid hk; clear hk)
            | (go_at_call 28; (with_reducible refine (hf2 _ (HK.out.rowAt 1 rfl)).mono ?_); rintro e u ⟨A2, c2, rfl, hg, hb⟩; have hk := HK.out.got hb 1 rfl hg; clear hg hb; clear HK; have HK := Lib.hid hk; clear hk)
            | (go_at_call 32; (with_reducible refine (hf3 _ (HK.out.rowAt 2 rfl)).mono ?_); rintro e u ⟨A3, c3, rfl, hg, hb⟩; have hk := HK.out.got hb 2 rfl hg; clear hg hb; clear HK; have HK := Lib.hid hk; clear hk)
            | (with_reducible refine alloc_f HK.out f_zeroP rfl rfl ?_; intro bz u hk; clear HK; have HK := Lib.hid hk; clear hk)
            | (with_reducible refine store_fr HK.out 0 (Pf.infoF HP1.out) (Fd.one _) rfl rfl _ _ rfl rfl rfl rfl (Fd.leP zP_full HP1.out) (Fd.setAllP zP_full HP1.out) ?_; intro u hk; simp only [List.set_cons_zero] at hk; clear HK; have HK := Lib.hid hk; clear hk)
            | (with_reducible refine store_fr HK.out 0 (Pf.infoF HP2.out) (Fd.one _) rfl rfl _ _ rfl rfl rfl rfl (Fd.leP zP_full HP2.out) (Fd.setAllP zP_full HP2.out) ?_; intro u hk; simp only [List.set_cons_zero] at hk; clear HK; have HK := Lib.hid hk; clear hk)
            | (with_reducible refine store_fr HK.out 0 (Pf.infoF HP3.out) (Fd.one _) rfl rfl _ _ rfl rfl rfl rfl (Fd.leP zP_full HP3.out) (Fd.setAllP zP_full HP3.out) ?_; intro u hk; simp only [List.set_cons_zero] at hk; clear HK; have HK := Lib.hid hk; clear hk)
            | (with_reducible refine load_f1 HK.out 4 cbI _ rfl rfl rfl rfl hkc ?_)
            | (go_at_call 10; (with_reducible refine (awake_f _).mono ?_); rintro e u ⟨rfl, hb⟩; have hk := HK.out.call hb; clear hb; clear HK; have HK := Lib.hid hk; clear hk))
          go_ret
          exact ⟨rfl, HK.out.bel⟩

set_option maxRecDepth 100000 in
theorem lifted (os : Os) (started : os.Started) (H : Type) (enc : TypeId × Value → H) :
    ReturnsInHanded {} Tryz.checked os 7 .any (Rows.fieldKindsSpec.pre6 enc Tryz.prog Tryz.f7 Rows.fieldKindsRow.domain false) (Rows.fieldKindsSpec.post enc Tryz.prog Tryz.f7 false true false false) := by
  refine returnsInHanded_of_change (C := Tryz.checked) own started (by kernel_rfl) Tryz.func7
    (ChangeSpec.witness6 (enc := enc) (C := Tryz.checked) false ⟨#[], #[.agg (zP.fd none 0).cells.toArray, .int .i64 0, .int .i64 0, .int .i64 0], []⟩ 12 (by kernel_rfl) (by kernel_rfl) (by kernel_rfl) (by kernel_rfl)) ?_
  intro W base args ds gs before hval0 hW hcnd _
  have hval : ∀ (j : Nat) t v, Tryz.f7.params[j]? = some t → args[j]? = some v → Value.okWide Tryz.prog W .any base t v := hval0
  have hW' := hW
  obtain ⟨p, q, hA0, hV, rfl, hfz, hnd⟩ := hW
  have hA : DataW.TrodAll enc Tryz.prog W 0 (fun _ => true) true Tryz.f7.params.toList args.toList ds p := hA0
  rw [Tryz.params7] at hA hval
  obtain ⟨v0, vs0, d0, ds0, q0, r0, hargs, rfl, rfl, h0, t0⟩ := trodAll_cons hA
  obtain ⟨v1, vs1, d1, ds1, q1, r1, rfl, rfl, rfl, h1, t1⟩ := trodAll_cons t0
  obtain ⟨v2, vs2, d2, ds2, q2, r2, rfl, rfl, rfl, h2, t2⟩ := trodAll_cons t1
  obtain ⟨v3, vs3, d3, ds3, q3, r3, rfl, rfl, rfl, h3, t3⟩ := trodAll_cons t2
  obtain ⟨rfl, rfl, rfl⟩ := trodAll_nil t3
  obtain rfl : args = #[v0, v1, v2, v3] := by cases args; simp_all
  obtain ⟨rfl, rfl⟩ := trodVars_none hV
  have k0 := h0
  have lt0 : ∀ x ∈ q0, x.block < W.heap.size := by obtain ⟨m, hm⟩ := k0; exact DataW.trod_lt m _ _ _ hm
  obtain ⟨p0, A0, c0, rfl, hp0, hd0, hc0, hw0⟩ := open_f (hval 0 33 v0 rfl rfl) h0
  have k1 := h1
  have lt1 : ∀ x ∈ q1, x.block < W.heap.size := by obtain ⟨m, hm⟩ := k1; exact DataW.trod_lt m _ _ _ hm
  obtain ⟨a1, rfl, rfl, rfl, w1⟩ := open_int Tryz.underlying3 (hval 1 3 v1 rfl rfl) h1
  have k2 := h2
  have lt2 : ∀ x ∈ q2, x.block < W.heap.size := by obtain ⟨m, hm⟩ := k2; exact DataW.trod_lt m _ _ _ hm
  obtain ⟨a2, rfl, rfl, rfl, w2⟩ := open_int Tryz.underlying3 (hval 2 3 v2 rfl rfl) h2
  have k3 := h3
  have lt3 : ∀ x ∈ q3, x.block < W.heap.size := by obtain ⟨m, hm⟩ := k3; exact DataW.trod_lt m _ _ _ hm
  obtain ⟨a3, rfl, rfl, rfl, w3⟩ := open_int Tryz.underlying3 (hval 3 3 v3 rfl rfl) h3
  clear hA0 hval0
  refine (walk W p0 A0 c0 hp0 hd0 hc0 hw0 a1 w1 a2 w2 a3 w3).mono fun e W' ⟨he, bel⟩ => ?_
  subst he
  exact ⟨_, rfl, _, _, _, [], _, [], hW', trodAll_mk1 (shut_bool Tryz.underlying4 _), (trodAll_cons_mk (Below.trod laidOut (by kernel_rfl) (of_decide_eq_true (by kernel_rfl)) k0 bel lt0) (trodAll_cons_mk (Below.trod laidOut (by kernel_rfl) (of_decide_eq_true (by kernel_rfl)) k1 bel lt1) (trodAll_cons_mk (Below.trod laidOut (by kernel_rfl) (of_decide_eq_true (by kernel_rfl)) k2 bel lt2) (trodAll_cons_mk (Below.trod laidOut (by kernel_rfl) (of_decide_eq_true (by kernel_rfl)) k3 bel lt3) trodAll_mk0)))), rfl, bel.frame _, fun h => by cases h⟩

theorem over : Rows.fieldKindsRow.holds Tryz.pinned (OpenSpec.ofChange Rows.fieldKindsSpec) :=
  OpenClaim.holds_of_wide 7 Tryz.f7 rfl rfl rfl rfl rfl rfl rfl ⟨rfl, rfl, rfl, rfl, rfl⟩ rfl rfl rfl rfl rfl (by kernel_rfl) Tryz.func7 (by kernel_rfl)
    (of_decide_eq_true (by kernel_rfl)) (by unfold Func.isWrapper; first | (rw [if_pos (by decide +kernel)]; kernel_rfl) | (rw [if_neg (by decide +kernel)]; exact ⟨rfl, rfl⟩))
    (fun os started H enc _ => lifted os started H enc)

theorem proved : Rows.FieldKindsSaid := over
#print axioms proved
end Go.Proofs.YtbaccghnneidgaaGreat.fieldKinds
