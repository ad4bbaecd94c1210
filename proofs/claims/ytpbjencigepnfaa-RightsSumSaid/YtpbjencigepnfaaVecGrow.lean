/- Contracts of vec.Sum and vec.Grow, and of the document's Sum and Grow of layer 2. -/
import Derived.Test.YtpbjencigepnfaaCalm
import Derived.Test.YtpbjencigepnfaaNumSum
import Derived.Test.YtpbjencigepnfaaRefSum
namespace Go.Proofs.Ytpbjencigepnfaa
open Go.ChangeShapes Go.WideShapes Go.ChangeAt Go.RowKit

/-- A block of a vector, read as a slice of all its numbers. -/
theorem Blk.reads {w : World} {b : Nat} {t : TypeId} {zs : List Int} (h : Blk w b t zs) (hl : zs.length = 16) : Reads w (some ⟨b, 0, none⟩) 16 zs :=
  ⟨hl, by simp [maxLen], .inr ⟨b, 0, rfl, fun i hi => by rw [Nat.zero_add]; exact h.cell (by omega)⟩⟩

/-- What a vector grows to, and why it does not. -/
def growE (xs : List Int) (k n : Int) : Int := if k < 0 ∨ 16 ≤ k ∨ n < 0 then 1 else addE (xs.getD k.toNat 0) n
def growL (xs : List Int) (k n : Int) : List Int := if growE xs k n = 0 then xs.set k.toNat (addN (xs.getD k.toNat 0) n) else zeros
theorem growL_length {xs : List Int} (hx : xs.length = 16) (k n : Int) : (growL xs k n).length = 16 := by
  unfold growL; split <;> simp [hx, zeros_length]
theorem grow_arg {xs : List Int} {k n : Int} (h : k < 0 ∨ 16 ≤ k ∨ n < 0) : growE xs k n = 1 ∧ growL xs k n = zeros := by simp [growL, growE, h]
theorem grow_no {xs : List Int} {k n : Int} (h : ¬ (k < 0 ∨ 16 ≤ k ∨ n < 0)) (ha : okB (xs.getD k.toNat 0) n (xs.getD k.toNat 0 + n) = false) : growE xs k n = 2 ∧ growL xs k n = zeros := by
  have e : growE xs k n = 2 := by unfold growE; rw [if_neg h, (addE_no ha).1]
  exact ⟨e, by rw [growL, e]; simp⟩
theorem grow_yes {xs : List Int} {k n : Int} (h : ¬ (k < 0 ∨ 16 ≤ k ∨ n < 0)) (ha : okB (xs.getD k.toNat 0) n (xs.getD k.toNat 0 + n) = true) : growE xs k n = 0 ∧ growL xs k n = xs.set k.toNat (xs.getD k.toNat 0 + n) := by
  have e : growE xs k n = 0 := by unfold growE; rw [if_neg h, (addE_ok ha).1]
  exact ⟨e, by rw [growL, e, (addE_ok ha).2]; simp⟩

theorem grow_cases (xs : List Int) (k n : Int) : growE xs k n = 0 ∨ growE xs k n = 1 ∨ growE xs k n = 2 := by
  unfold growE addE
  split
  · simp
  · split <;> simp
/-- What grew: number k alone is greater, by n. -/
theorem grow_zero {xs : List Int} (_hx : xs.length = 16) {k n : Int} (h : growE xs k n = 0) : ∃ j : Nat, k = j ∧ j < 16 ∧ 0 ≤ n ∧ okB (xs.getD j 0) n (xs.getD j 0 + n) = true ∧ growL xs k n = xs.set j (xs.getD j 0 + n) := by
  by_cases hk : k < 0 ∨ 16 ≤ k ∨ n < 0
  · rw [(grow_arg hk).1] at h; cases h
  · cases ha : okB (xs.getD k.toNat 0) n (xs.getD k.toNat 0 + n) with
    | false => rw [(grow_no hk ha).1] at h; cases h
    | true => exact ⟨k.toNat, by omega, by omega, by omega, ha, (grow_yes hk ha).2⟩
theorem grow_else {xs : List Int} {k n : Int} (h : growE xs k n ≠ 0) : growL xs k n = zeros := by simp [growL, h]
theorem set_get {xs : List Int} {j i : Nat} {z : Int} (hj : j < xs.length) : (xs.set j z).getD i 0 = if i = j then z else xs.getD i 0 := by
  by_cases h : i = j
  · subst h; simp [List.getD, hj]
  · simp [List.getD, h, List.getElem?_set_ne (show j ≠ i by omega)]
theorem grow_over {xs : List Int} (hx : xs.length = 16) {k n : Int} (h : growE xs k n = 0) : overB (growL xs k n) xs = true := by
  obtain ⟨j, rfl, hj, hn, _, e⟩ := grow_zero hx h
  refine (overB_iff (growL_length hx _ _) hx).2 fun i hi => ?_
  rw [e, set_get (by omega)]
  split
  · subst_vars; omega
  · omega

theorem grow_any (xs : List Int) (k n : Int) (hx : xs.length = 16) (w : World) :
    Calls Try.prog 37 #[.agg (vals xs).toArray, .int .i64 k, .int .i64 n] w fun e w' => e = .returned (.tuple #[.agg (vals (growL xs k n)).toArray, .int .i64 (growE xs k n)]) ∧ Below w.heap.size w w' := by
  have HX := Lib.hid hx; clear hx
  have h1 := boxes w 23 xs zeros
  rw [zlit] at h1
  have H0 := Lib.hid h1; clear h1
  by_cases hk : k < 0 ∨ 16 ≤ k ∨ n < 0
  · obtain ⟨e1, e2⟩ := grow_arg (xs := xs) hk
    rw [e1, e2]; clear e1 e2
    by_cases k0 : k < 0
    · clear hk
      go_enter Try.func37, Try.ntmps37
      go_wp2_with (first
        | (with_reducible refine wpList_store_vec rfl _ _ rfl _ zeros rfl rfl _ H0.out.2.1 zeros_length zeros_length ?_)
        | (go_at_call 48; (with_reducible refine (add_any _ _ _).mono ?_); rintro e w' ⟨rfl, rfl⟩))
      exact bodyPost_ret (results_vec2 rfl _ _ _ _ _ rfl rfl (H0.out.2.1.setRow _) zeros_length) rfl ⟨rfl, below_setRow H0.out.2.2 (by omega) _⟩
    · by_cases k1 : 16 ≤ k
      · clear hk
        go_enter Try.func37, Try.ntmps37
        go_wp2_with (first
          | (with_reducible refine wpList_store_vec rfl _ _ rfl _ zeros rfl rfl _ H0.out.2.1 zeros_length zeros_length ?_)
          | (go_at_call 48; (with_reducible refine (add_any _ _ _).mono ?_); rintro e w' ⟨rfl, rfl⟩))
        exact bodyPost_ret (results_vec2 rfl _ _ _ _ _ rfl rfl (H0.out.2.1.setRow _) zeros_length) rfl ⟨rfl, below_setRow H0.out.2.2 (by omega) _⟩
      · have n0 : n < 0 := by omega
        clear hk
        go_enter Try.func37, Try.ntmps37
        go_wp2_with (first
          | (with_reducible refine wpList_store_vec rfl _ _ rfl _ zeros rfl rfl _ H0.out.2.1 zeros_length zeros_length ?_)
          | (go_at_call 48; (with_reducible refine (add_any _ _ _).mono ?_); rintro e w' ⟨rfl, rfl⟩))
        exact bodyPost_ret (results_vec2 rfl _ _ _ _ _ rfl rfl (H0.out.2.1.setRow _) zeros_length) rfl ⟨rfl, below_setRow H0.out.2.2 (by omega) _⟩
  · obtain ⟨j, rfl⟩ : ∃ j : Nat, k = j := ⟨k.toNat, by omega⟩
    have j0 : (0 : Int) ≤ j := by omega
    have j1 : (j : Int) < 16 := by omega
    have n0 : ¬ n < 0 := by omega
    have c1 := H0.out.1.cell (k := j) (by have := HX.out; omega)
    have f1 := H0.out.1.frozen j
    cases ha : okB (xs.getD (j : Int).toNat 0) n (xs.getD (j : Int).toNat 0 + n) with
    | false =>
      obtain ⟨e1, e2⟩ := grow_no hk ha
      rw [e1, e2]; clear e1 e2
      rw [Int.toNat_natCast] at ha
      generalize xs.getD j 0 = x at c1 ha
      obtain ⟨e1, e2⟩ := addE_no ha
      clear hk ha
      go_enter Try.func37, Try.ntmps37
      go_wp2_with (first
        | (with_reducible refine wpList_store_vec rfl _ _ rfl _ zeros rfl rfl _ H0.out.2.1 zeros_length zeros_length ?_)
        | (go_at_call 48; (with_reducible refine (add_any _ _ _).mono ?_); rintro e w' ⟨rfl, rfl⟩; rw [e1, e2]))
      exact bodyPost_ret (results_vec2 rfl _ _ _ _ _ rfl rfl (H0.out.2.1.setRow _) zeros_length) rfl ⟨rfl, below_setRow H0.out.2.2 (by omega) _⟩
    | true =>
      obtain ⟨e1, e2⟩ := grow_yes hk ha
      rw [e1, e2]; clear e1 e2
      rw [Int.toNat_natCast] at ha ⊢
      have HL := Lib.hid (show (xs.set j (xs.getD j 0 + n)).length = 16 by simp [HX.out])
      generalize xs.getD j 0 = x at c1 ha HL ⊢
      obtain ⟨e1, e2⟩ := addE_ok ha
      clear hk ha
      have h2 := boxes w 23 (xs.set j (x + n)) zeros
      rw [zlit, ← vals_set] at h2
      have HA := Lib.hid h2.1
      have HZ := Lib.hid h2.2.1
      have HS := Lib.hid h2.2.2
      clear h2
      go_enter Try.func37, Try.ntmps37
      go_wp2_with (first
        | (with_reducible refine wpList_load_vec rfl _ rfl _ rfl _ HA.out HL.out ?_)
        | (with_reducible refine wpList_store_vec rfl _ _ rfl _ _ rfl rfl _ HZ.out zeros_length HL.out ?_)
        | (go_at_call 48; (with_reducible refine (add_any _ _ _).mono ?_); rintro e w' ⟨rfl, rfl⟩; rw [e1, e2]))
      exact bodyPost_ret (results_vec2 rfl _ _ _ _ _ rfl rfl (HZ.out.setRow _) HL.out) rfl ⟨rfl, below_setRow HS.out (by omega) _⟩

theorem rgrow_any (xs : List Int) (k n : Int) (hx : xs.length = 16) (w : World) :
    Calls Try.prog 39 #[.agg (vals xs).toArray, .int .i64 k, .int .i64 n] w fun e w' => e = .returned (.tuple #[.agg (vals (growL xs k n)).toArray, .int .i64 (growE xs k n)]) ∧ Below w.heap.size w w' := by
  have HX := Lib.hid hx; clear hx
  have h1 := boxes w 23 xs zeros
  rw [zlit] at h1
  have H0 := Lib.hid h1; clear h1
  by_cases hk : k < 0 ∨ 16 ≤ k ∨ n < 0
  · obtain ⟨e1, e2⟩ := grow_arg (xs := xs) hk
    rw [e1, e2]; clear e1 e2
    by_cases k0 : k < 0
    · clear hk
      go_enter Try.func39, Try.ntmps39
      go_wp2_with (first
        | (with_reducible refine wpList_store_vec rfl _ _ rfl _ zeros rfl rfl _ H0.out.2.1 zeros_length zeros_length ?_)
        | (go_at_call 50; (with_reducible refine (radd_any _ _ _).mono ?_); rintro e w' ⟨rfl, rfl⟩))
      exact bodyPost_ret (results_vec2 rfl _ _ _ _ _ rfl rfl (H0.out.2.1.setRow _) zeros_length) rfl ⟨rfl, below_setRow H0.out.2.2 (by omega) _⟩
    · by_cases k1 : 16 ≤ k
      · clear hk
        go_enter Try.func39, Try.ntmps39
        go_wp2_with (first
          | (with_reducible refine wpList_store_vec rfl _ _ rfl _ zeros rfl rfl _ H0.out.2.1 zeros_length zeros_length ?_)
          | (go_at_call 50; (with_reducible refine (radd_any _ _ _).mono ?_); rintro e w' ⟨rfl, rfl⟩))
        exact bodyPost_ret (results_vec2 rfl _ _ _ _ _ rfl rfl (H0.out.2.1.setRow _) zeros_length) rfl ⟨rfl, below_setRow H0.out.2.2 (by omega) _⟩
      · have n0 : n < 0 := by omega
        clear hk
        go_enter Try.func39, Try.ntmps39
        go_wp2_with (first
          | (with_reducible refine wpList_store_vec rfl _ _ rfl _ zeros rfl rfl _ H0.out.2.1 zeros_length zeros_length ?_)
          | (go_at_call 50; (with_reducible refine (radd_any _ _ _).mono ?_); rintro e w' ⟨rfl, rfl⟩))
        exact bodyPost_ret (results_vec2 rfl _ _ _ _ _ rfl rfl (H0.out.2.1.setRow _) zeros_length) rfl ⟨rfl, below_setRow H0.out.2.2 (by omega) _⟩
  · obtain ⟨j, rfl⟩ : ∃ j : Nat, k = j := ⟨k.toNat, by omega⟩
    have j0 : (0 : Int) ≤ j := by omega
    have j1 : (j : Int) < 16 := by omega
    have n0 : ¬ n < 0 := by omega
    have c1 := H0.out.1.cell (k := j) (by have := HX.out; omega)
    have f1 := H0.out.1.frozen j
    cases ha : okB (xs.getD (j : Int).toNat 0) n (xs.getD (j : Int).toNat 0 + n) with
    | false =>
      obtain ⟨e1, e2⟩ := grow_no hk ha
      rw [e1, e2]; clear e1 e2
      rw [Int.toNat_natCast] at ha
      generalize xs.getD j 0 = x at c1 ha
      obtain ⟨e1, e2⟩ := addE_no ha
      clear hk ha
      go_enter Try.func39, Try.ntmps39
      go_wp2_with (first
        | (with_reducible refine wpList_store_vec rfl _ _ rfl _ zeros rfl rfl _ H0.out.2.1 zeros_length zeros_length ?_)
        | (go_at_call 50; (with_reducible refine (radd_any _ _ _).mono ?_); rintro e w' ⟨rfl, rfl⟩; rw [e1, e2]))
      exact bodyPost_ret (results_vec2 rfl _ _ _ _ _ rfl rfl (H0.out.2.1.setRow _) zeros_length) rfl ⟨rfl, below_setRow H0.out.2.2 (by omega) _⟩
    | true =>
      obtain ⟨e1, e2⟩ := grow_yes hk ha
      rw [e1, e2]; clear e1 e2
      rw [Int.toNat_natCast] at ha ⊢
      have HL := Lib.hid (show (xs.set j (xs.getD j 0 + n)).length = 16 by simp [HX.out])
      generalize xs.getD j 0 = x at c1 ha HL ⊢
      obtain ⟨e1, e2⟩ := addE_ok ha
      clear hk ha
      have h2 := boxes w 23 (xs.set j (x + n)) zeros
      rw [zlit, ← vals_set] at h2
      have HA := Lib.hid h2.1
      have HZ := Lib.hid h2.2.1
      have HS := Lib.hid h2.2.2
      clear h2
      go_enter Try.func39, Try.ntmps39
      go_wp2_with (first
        | (with_reducible refine wpList_load_vec rfl _ rfl _ rfl _ HA.out HL.out ?_)
        | (with_reducible refine wpList_store_vec rfl _ _ rfl _ _ rfl rfl _ HZ.out zeros_length HL.out ?_)
        | (go_at_call 50; (with_reducible refine (radd_any _ _ _).mono ?_); rintro e w' ⟨rfl, rfl⟩; rw [e1, e2]))
      exact bodyPost_ret (results_vec2 rfl _ _ _ _ _ rfl rfl (HZ.out.setRow _) HL.out) rfl ⟨rfl, below_setRow HS.out (by omega) _⟩

end Go.Proofs.Ytpbjencigepnfaa
