/- What awake of layer 4 answers; a new counter may be. -/
import Derived.Test.YtopefknkfjghhaaCtBoth
import Derived.Test.YtopefknkfjghhaaCtVal
import Derived.Test.YtopefknkfjghhaaCtRight
namespace Go.Proofs.Ytopefknkfjghhaa
open Go.ChangeShapes Go.WideShapes Go.ChangeAt Go.RowKit

def aw1 : List Int := newC 5 0 10
def aw2 : List Int := (aw1.set 19 5).set 291 10
def aw3 : List Int := (aw2.set 307 10).set 3 15
theorem aw1_length : aw1.length = 579 := newC_length _ _ _
theorem aw2_length : aw2.length = 579 := by simp [aw2, aw1_length]
theorem aw3_length : aw3.length = 579 := by simp [aw3, aw2_length]
theorem aw_new : newE 5 0 10 = 0 ∧ newA 5 0 10 = aw1 := by decide +kernel
theorem aw_far : decE aw1 0 6 = 8 ∧ decA aw1 0 6 = zer 579 := by decide +kernel
theorem aw_dec : decE aw1 0 5 = 0 ∧ decA aw1 0 5 = aw2 := by decide +kernel
theorem aw_inc : incE aw2 0 10 = 0 ∧ incA aw2 0 10 = aw3 := by decide +kernel
theorem aw_val : sumN (valL aw3) = 10 ∧ sumE (valL aw3) = 0 := by decide +kernel
theorem aw_rng : ∀ z ∈ seg aw3 19 16, -9223372036854775808 ≤ z ∧ z ≤ 9223372036854775807 := by decide +kernel
theorem aw_rgt : rightC aw3 = true := by decide +kernel
set_option maxRecDepth 100000 in
set_option maxHeartbeats 2000000 in
theorem awake4 (w : World) : Calls Try.prog 9 #[] w fun e w' => e = .returned (.bool true) ∧ Below w.heap.size w w' := by
  have h1 := new_any 5 0 10
  have h2 := dec_any aw1 aw1_length 0 6
  have h3 := dec_any aw1 aw1_length 0 5
  have h4 := inc_any aw2 aw2_length 0 10
  have h5 := value_any aw3 aw3_length aw_rng
  have h6 := cright_any aw3 aw3_length
  rw [aw_new.1, aw_new.2] at h1
  rw [aw_far.1, aw_far.2] at h2
  rw [aw_dec.1, aw_dec.2] at h3
  rw [aw_inc.1, aw_inc.2] at h4
  rw [aw_val.1, aw_val.2] at h5
  rw [aw_rgt] at h6
  have H1 := Lib.hid aw1_length; have H2 := Lib.hid aw2_length; have H3 := Lib.hid aw3_length
  generalize aw1 = X at h1 h2 h3 H1
  generalize aw2 = Y at h3 h4 H2
  generalize aw3 = Z at h4 h5 h6 H3
  have HK := Lib.hid (KeepR.start w)
  go_enter Try.func9, Try.ntmps9
  go_wp2_with (first
    | (with_reducible refine alloc_zero HK.out 579 c_zero rfl rfl ?_; intro b u hn hk hb; clear hn hb; clear HK; have HK := Lib.hid hk; clear hk)
    | (with_reducible refine store_all HK.out 0 579 c_info rfl rfl _ _ rfl rfl rfl rfl H1.out (zer_length 579) ?_; intro u hk hs; clear hs; simp only [List.set_cons_zero] at hk; clear HK; have HK := Lib.hid hk; clear hk)
    | (with_reducible refine store_all HK.out 0 579 c_info rfl rfl _ _ rfl rfl rfl rfl (zer_length 579) (zer_length 579) ?_; intro u hk hs; clear hs; simp only [List.set_cons_zero] at hk; clear HK; have HK := Lib.hid hk; clear hk)
    | (with_reducible refine store_all HK.out 0 579 c_info rfl rfl _ _ rfl rfl rfl rfl H2.out (zer_length 579) ?_; intro u hk hs; clear hs; simp only [List.set_cons_zero] at hk; clear HK; have HK := Lib.hid hk; clear hk)
    | (with_reducible refine store_all HK.out 0 579 c_info rfl rfl _ _ rfl rfl rfl rfl H3.out (zer_length 579) ?_; intro u hk hs; clear hs; simp only [List.set_cons_zero] at hk; clear HK; have HK := Lib.hid hk; clear hk)
    | (with_reducible refine load_all HK.out 0 579 Try.underlying28 rfl c_info rfl _ rfl rfl rfl H1.out ?_)
    | (with_reducible refine load_all HK.out 1 579 Try.underlying28 rfl c_info rfl _ rfl rfl rfl H1.out ?_)
    | (with_reducible refine load_all HK.out 0 579 Try.underlying28 rfl c_info rfl _ rfl rfl rfl H2.out ?_)
    | (with_reducible refine load_all HK.out 0 579 Try.underlying28 rfl c_info rfl _ rfl rfl rfl H3.out ?_)
    | (refine load_all_want HK.out 0 579 Try.underlying28 rfl c_info _ rfl rfl rfl rfl H3.out ?_)
    | (go_at_call 6; (with_reducible refine (h1 _).mono ?_); rintro e u ⟨rfl, hb⟩; have hk := HK.out.call hb; clear hb; clear HK; have HK := Lib.hid hk; clear hk)
    | (go_at_call 17; (with_reducible refine (h2 _).mono ?_); rintro e u ⟨rfl, hb⟩; have hk := HK.out.call hb; clear hb; clear HK; have HK := Lib.hid hk; clear hk)
    | (go_at_call 17; (with_reducible refine (h3 _).mono ?_); rintro e u ⟨rfl, hb⟩; have hk := HK.out.call hb; clear hb; clear HK; have HK := Lib.hid hk; clear hk)
    | (go_at_call 15; (with_reducible refine (h4 _).mono ?_); rintro e u ⟨rfl, hb⟩; have hk := HK.out.call hb; clear hb; clear HK; have HK := Lib.hid hk; clear hk)
    | (go_at_call 10; (with_reducible refine (h5 _).mono ?_); rintro e u ⟨rfl, hb⟩; have hk := HK.out.call hb; clear hb; clear HK; have HK := Lib.hid hk; clear hk)
    | (go_at_call 8; (with_reducible refine (h6 _).mono ?_); rintro e u ⟨rfl, hb⟩; have hk := HK.out.call hb; clear hb; clear HK; have HK := Lib.hid hk; clear hk))
  go_ret
  exact ⟨rfl, HK.out.bel⟩

theorem newC_get {i l h : Int} (p : Nat) : (newC i l h).getD p 0 = if p = 291 then h - i else if p = 3 then i - l else if p = 2 then h else if p = 1 then l else if p = 0 then i else 0 := by
  unfold newC
  rw [set_get (by simp [zer_length]), set_get (by simp [zer_length]), set_get (by simp [zer_length]), set_get (by simp [zer_length]), set_get (by simp [zer_length]), zer_get]
theorem one_right {R : List Int} {x : Int} (hR : R.length = 288) (h0 : 0 ≤ x) (h1 : x ≤ 1099511627776) (hg : ∀ p, p < 288 → R.getD p 0 = if p = 0 then x else 0) : rightsB R = true := by
  rw [rightsB_iff]
  refine ⟨fun j hj => (rightB_iff (seg_length (by omega))).2 fun k hk => ?_, fun j hj => ?_⟩
  · rw [seg_get hk, hg _ (by omega)]; split <;> omega
  · rw [hg _ (by omega), if_neg (by omega)]
theorem new_right {i l h : Int} (hb : newB i l h = true) : rightC (newC i l h) = true := by
  obtain ⟨b1, b2, b3, b4, b5⟩ := newB_iff.1 hb
  have hl := newC_length i l h
  obtain ⟨d1, d2⟩ := isB_iff.1 b5
  have r1 : rightsB (dnR (newC i l h)) = true := one_right (x := i - l) (dnR_length hl) (by omega) (by omega) fun p hp => by
    rw [dnR, seg_get hp, newC_get]
    by_cases e : p = 0
    · subst e; rfl
    · rw [if_neg (by omega), if_neg (by omega), if_neg (by omega), if_neg (by omega), if_neg (by omega), if_neg e]
  have r2 : rightsB (upR (newC i l h)) = true := one_right (x := h - i) (upR_length hl) (by omega) (by omega) fun p hp => by
    rw [upR, seg_get hp, newC_get]
    by_cases e : p = 0
    · subst e; rfl
    · rw [if_neg (by omega), if_neg (by omega), if_neg (by omega), if_neg (by omega), if_neg (by omega), if_neg e]
  have t1 : tot (seg (newC i l h) 3 16) = i - l := by
    rw [show seg (newC i l h) 3 16 = [i - l, 0, 0, 0, 0, 0, 0, 0, 0, 0, 0, 0, 0, 0, 0, 0] by kernel_rfl]; simp [tot]
  have t2 : tot (seg (newC i l h) 291 16) = h - i := by
    rw [show seg (newC i l h) 291 16 = [h - i, 0, 0, 0, 0, 0, 0, 0, 0, 0, 0, 0, 0, 0, 0, 0] by kernel_rfl]; simp [tot]
  have t3 : tot (seg (newC i l h) 307 16) = 0 := by rw [show seg (newC i l h) 307 16 = zer 16 by kernel_rfl]; rfl
  have t4 : tot (seg (newC i l h) 19 16) = 0 := by rw [show seg (newC i l h) 19 16 = zer 16 by kernel_rfl]; rfl
  have g0 : (newC i l h).getD 0 0 = i := by rw [newC_get]; rfl
  have g1 : (newC i l h).getD 1 0 = l := by rw [newC_get]; rfl
  have g2 : (newC i l h).getD 2 0 = h := by rw [newC_get]; rfl
  unfold rightC tieB
  rw [r1, r2, t1, t2, t3, t4, g0, g1, g2, b1, b2, decide_eq_true b3, decide_eq_true b4, decide_eq_true (show i - l ≤ 1099511627776 by omega), decide_eq_true (show h - i ≤ 1099511627776 by omega), decide_eq_true (show i - l = i - l + 0 by omega), decide_eq_true (show h - i = h - i + 0 by omega)]
  rfl
end Go.Proofs.Ytopefknkfjghhaa
