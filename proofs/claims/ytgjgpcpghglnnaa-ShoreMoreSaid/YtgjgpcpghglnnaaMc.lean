/-
  An order with two neighbours exchanged: Swap of the program and of the specification.
-/
import Derived.Test.YtgjgpcpghglnnaaMb
import Derived.Test.YtgjgpcpghglnnaaYh
namespace Go.Proofs.Ytgjgpcpghglnnaa
open Go.RowKit Go.Deep M
set_option linter.unusedVariables false
set_option linter.unusedSimpArgs false

/-- Swap answers an error. -/
def swE (J : List (List Jb)) (o : List Int) (z : Int) : Int :=
  if errO J o = 0 then if 0 ≤ z ∧ z < (o.length : Int) - 1 then if el o z.toNat = el o (z.toNat + 1) then 5 else 0 else 2 else errO J o
theorem swR_err {J : List (List Jb)} {o : List Int} {z : Int} (h : ¬ swE J o z = 0) : swR J o z = ([], 0, swE J o z) := by
  unfold swE at h
  unfold swR swE
  by_cases h1 : errO J o = 0
  · rw [if_pos h1] at h
    rw [if_pos h1, if_pos h1]
    by_cases h2 : 0 ≤ z ∧ z < (o.length : Int) - 1
    · rw [if_pos h2] at h
      rw [if_pos h2, if_pos h2]
      by_cases h3 : el o z.toNat = el o (z.toNat + 1)
      · rw [if_pos h3, if_pos h3]
      · rw [if_neg h3] at h; exact absurd rfl h
    · rw [if_neg h2, if_neg h2]
  · rw [if_neg h1, if_neg h1]
/-- Swap answers no error. -/
theorem swE_ok {J : List (List Jb)} {o : List Int} {z : Int} (h : swE J o z = 0) : errO J o = 0 ∧ ∃ a : Nat, z = (a : Nat) ∧ a + 1 < o.length ∧ ¬ el o a = el o (a + 1) ∧ swR J o z = (swp o a, hm J (swp o a) o.length - hm J o o.length, 0) := by
  unfold swE at h
  unfold swR
  by_cases h1 : errO J o = 0
  · rw [if_pos h1] at h
    rw [if_pos h1]
    by_cases h2 : 0 ≤ z ∧ z < (o.length : Int) - 1
    · rw [if_pos h2] at h
      rw [if_pos h2]
      by_cases h3 : el o z.toNat = el o (z.toNat + 1)
      · rw [if_pos h3] at h; cases h
      · rw [if_neg h3]
        obtain ⟨a, rfl⟩ := Int.eq_ofNat_of_zero_le h2.1
        exact ⟨h1, a, rfl, by omega, h3, rfl⟩
    · rw [if_neg h2] at h; cases h
  · rw [if_neg h1] at h; exact absurd h h1

set_option maxRecDepth 100000 in
set_option maxHeartbeats 4000000 in
theorem Swap_any_bad (B : Nat) (A Ao : Option Addr) (c co : Nat) (D : List Bc) (o : List Int) (z : Int) (w : World) (h : Bcs w B A D) (ho : Row w B Ao o) (hB : B ≤ w.heap.size) (hL : ∀ i, i < D.length → (be (bl D) i).length ≤ 100) (hz : -9223372036854775808 ≤ z ∧ z ≤ 9223372036854775807) (he : ¬ swE (bl D) o z = 0) :
    Calls Try.prog 39 #[.slice A D.length c, .slice Ao o.length co, .int .i64 z] w (SwP (swR (bl D) o z) w) := by
  have h63 := h.1
  have ho63 := ho.1
  have c55 := checkedOrder_any B A Ao c co D o w h ho hB hL
  rw [swR_err he]
  unfold swE at he ⊢
  unfold SwP
  by_cases h1 : errO (bl D) o = 0
  · rw [if_pos h1] at he ⊢
    rw [h1] at c55
    obtain ⟨hv, hor⟩ := errO_ok h1
    obtain ⟨-, h12, -, -, -⟩ := ord_spec hv hor
    have hat := fun X (hX : Below w.heap.size w X) k (hk : k < o.length) => (ho.below (hX.mono hB)).at_ k hk
    have hsub : IntKind.i64.wrap ((o.length : Int) - 1) = (o.length : Int) - 1 := IntWalk.i64_in _ (by omega)
    by_cases h2 : 0 ≤ z ∧ z < (o.length : Int) - 1
    · rw [if_pos h2] at he ⊢
      by_cases h3 : el o z.toNat = el o (z.toNat + 1)
      · rw [if_pos h3]
        obtain ⟨a, rfl⟩ := Int.eq_ofNat_of_zero_le h2.1
        rw [Int.toNat_natCast] at h3
        have h2' := h2.2
        generalize D.length = n at *
        obtain ⟨m, hm'⟩ : ∃ m, m = o.length := ⟨_, rfl⟩
        rw [← hm'] at c55 hat hsub ho63 h12 h2' ⊢
        replace hm' := Lib.hid hm'
        clear h2 hz he
        replace h1 := Lib.hid h1
        replace h3 := Lib.hid h3
        replace hv := Lib.hid hv
        replace hor := Lib.hid hor
        replace hat := Lib.hid hat
        replace c55 := Lib.hid c55
        replace hL := Lib.hid hL
        replace h := Lib.hid h
        replace ho := Lib.hid ho
        have hw1 : IntKind.i64.wrap ((a : Int) + 1) = ((a + 1 : Nat) : Int) := by rw [IntWalk.i64_in _ (by omega)]; omega
        have hn1 : ((a + 1 : Nat) : Int) < (m : Int) := by omega
        have hn0 : (a : Int) < (m : Int) := by omega
        go_enter Try.func39, Try.ntmps39
        go_wp2_with fail
        refine c55.out.mono ?_
        rintro e X1 ⟨rfl, hb1⟩
        obtain ⟨b, o1, rfl, _, u0⟩ := hat.out X1 hb1 a (by omega)
        obtain ⟨b2, o2, hA2, _, u1⟩ := hat.out X1 hb1 (a + 1) (by omega)
        injection hA2 with hA2
        injection hA2 with e1 e2 _
        subst e1
        subst e2
        rw [← h3.out] at u1
        obtain ⟨x, hx⟩ : ∃ x, x = el o a := ⟨_, rfl⟩
        rw [← hx] at u0 u1
        replace hx := Lib.hid hx
        replace hb1 := Lib.hid hb1
        go_wp2
        go_quiet (fail)
        go_wp2
        exact bodyPost_ret (v := .tuple #[.slice none 0 0, .int .i64 0, .int .i64 5]) (by simp [results, Try.results39, go_sem]) rfl ⟨none, 0, rfl, below_drewN hb1.out nq, row_nil _ _ _⟩
      · rw [if_neg h3] at he; exact absurd rfl he
    · rw [if_neg h2]
      generalize D.length = n at *
      generalize o.length = m at *
      replace h1 := Lib.hid h1
      replace hv := Lib.hid hv
      replace hor := Lib.hid hor
      replace hat := Lib.hid hat
      replace c55 := Lib.hid c55
      replace hL := Lib.hid hL
      replace h := Lib.hid h
      replace ho := Lib.hid ho
      clear he
      by_cases hz0 : z < 0
      all_goals
        have hz9 : hz0 = hz0 := rfl
        clear hz9
        have hz1 : z < 0 ∨ (m : Int) - 1 ≤ z := by omega
        replace h2 := Lib.hid h2
        replace hz1 := Lib.hid hz1
        go_enter Try.func39, Try.ntmps39
        go_wp2_with fail
        refine c55.out.mono ?_
        rintro e X1 ⟨rfl, hb1⟩
        replace hb1 := Lib.hid hb1
        have hz2 := hz1.out
        have hz3 : ¬ z < 0 → (m : Int) - 1 ≤ z := by omega
        first
          | (have hz4 := hz3 hz0; clear hz2 hz3; go_wp2; exact bodyPost_ret (v := .tuple #[.slice none 0 0, .int .i64 0, .int .i64 2]) (by simp [results, Try.results39, go_sem]) rfl ⟨none, 0, rfl, hb1.out, row_nil _ _ _⟩)
          | (clear hz2 hz3; go_wp2; exact bodyPost_ret (v := .tuple #[.slice none 0 0, .int .i64 0, .int .i64 2]) (by simp [results, Try.results39, go_sem]) rfl ⟨none, 0, rfl, hb1.out, row_nil _ _ _⟩)
  · rw [if_neg h1]
    obtain ⟨E, hE⟩ : ∃ E, E = errO (bl D) o := ⟨_, rfl⟩
    rw [← hE] at c55 h1 ⊢
    clear he
    generalize D.length = n at *
    generalize o.length = m at *
    replace hE := Lib.hid hE
    replace c55 := Lib.hid c55
    replace hL := Lib.hid hL
    replace h := Lib.hid h
    replace ho := Lib.hid ho
    go_enter Try.func39, Try.ntmps39
    go_wp2_with fail
    refine c55.out.mono ?_
    rintro e X1 ⟨rfl, hb1⟩
    replace hb1 := Lib.hid hb1
    go_wp2
    exact bodyPost_ret (v := .tuple #[.slice none 0 0, .int .i64 0, .int .i64 E]) (by simp [results, Try.results39, go_sem]) rfl ⟨none, 0, rfl, hb1.out, row_nil _ _ _⟩

set_option maxRecDepth 100000 in
set_option maxHeartbeats 4000000 in
theorem Swap_any_ok (B : Nat) (A Ao : Option Addr) (c co : Nat) (D : List Bc) (o : List Int) (a : Nat) (w : World) (h : Bcs w B A D) (ho : Row w B Ao o) (hB : B ≤ w.heap.size) (hL : ∀ i, i < D.length → (be (bl D) i).length ≤ 100) (he : errO (bl D) o = 0) (ha : a + 1 < o.length) (hne : ¬ el o a = el o (a + 1)) :
    Calls Try.prog 39 #[.slice A D.length c, .slice Ao o.length co, .int .i64 (a : Nat)] w (SwP (swp o a, hm (bl D) (swp o a) o.length - hm (bl D) o o.length, 0) w) := by
  have h63 := h.1
  have ho63 := ho.1
  have c55 := checkedOrder_any B A Ao c co D o w h ho hB hL
  rw [he] at c55
  have he2 := swp_err he ha
  obtain ⟨hv, hor⟩ := errO_ok he
  obtain ⟨hv2, hor2⟩ := errO_ok he2
  obtain ⟨-, h12, -, -, hru⟩ := ord_spec hv hor
  obtain ⟨-, -, -, -, hru2⟩ := ord_spec hv hor2
  have hat := fun X (hX : Below w.heap.size w X) k (hk : k < o.length) => (ho.below (hX.mono hB)).at_ k hk
  have hsub : IntKind.i64.wrap ((o.length : Int) - 1) = (o.length : Int) - 1 := IntWalk.i64_in _ (by omega)
  have hsl := swp_len o a
  have hb1 := hm_b hv hru (by omega) o.length (Nat.le_refl _)
  have hb2 := hm_b hv hru2 (by omega) (swp o a).length (Nat.le_refl _)
  have c72 := fun X (hX : Below w.heap.size w X) => exchanged_any B Ao co o a (a + 1) X (ho.below (hX.mono hB)) (Nat.le_trans hB hX.size) (by omega) (by omega) ha (by omega)
  have c56 := fun X (hX : Below w.heap.size w X) Av cv (hr : Row X X.heap.size Av (swp o a)) => harm_any X.heap.size A Av c cv D (swp o a) X ((h.below (hX.mono hB)).more (Nat.le_trans hB hX.size)) hr (Nat.le_refl _) hv hru2 (by rw [hsl]; exact h12)
  have c56' := fun X (hX : Below w.heap.size w X) => harm_any B A Ao c co D o X (h.below (hX.mono hB)) (ho.below (hX.mono hB)) (Nat.le_trans hB hX.size) hv hru h12
  have hels := fun q => el_swp ha q
  unfold SwP
  simp only []
  rw [hsl] at c56 hb2 ⊢
  obtain ⟨R, hR⟩ : ∃ R, R = hm (bl D) (swp o a) o.length := ⟨_, rfl⟩
  obtain ⟨R2, hR2⟩ : ∃ R, R = hm (bl D) o o.length := ⟨_, rfl⟩
  rw [← hR] at c56 hb2 ⊢
  rw [← hR2] at c56' hb1 ⊢
  generalize D.length = n at *
  obtain ⟨m, hm'⟩ : ∃ m, m = o.length := ⟨_, rfl⟩
  rw [← hm'] at c55 hat hsub ho63 h12 ha c56 c56' hb1 hb2 hsl c72 ⊢
  have hd : IntKind.i64.wrap (R - R2) = R - R2 := IntWalk.i64_in _ (by omega)
  have hR9 : (0 ≤ R ∧ R ≤ 1000000000) ∧ 0 ≤ R2 ∧ R2 ≤ 1000000000 := by omega
  clear hb1 hb2
  have hw1 : IntKind.i64.wrap ((a : Int) + 1) = ((a + 1 : Nat) : Int) := by rw [IntWalk.i64_in _ (by omega)]; omega
  have hn1 : ((a + 1 : Nat) : Int) < (m : Int) := by omega
  have hn0 : (a : Int) < (m : Int) := by omega
  replace hm' := Lib.hid hm'
  rw [show ((a + 1 : Nat) : Int) = (a : Int) + 1 from Int.natCast_succ a] at c72
  replace hR := Lib.hid hR
  replace hR2 := Lib.hid hR2
  replace he := Lib.hid he
  replace he2 := Lib.hid he2
  replace hv := Lib.hid hv
  replace hor := Lib.hid hor
  replace hor2 := Lib.hid hor2
  replace hv2 := Lib.hid hv2
  replace hru := Lib.hid hru
  replace hru2 := Lib.hid hru2
  replace hat := Lib.hid hat
  replace c55 := Lib.hid c55
  replace c56 := Lib.hid c56
  replace c56' := Lib.hid c56'
  replace hels := Lib.hid hels
  replace hsl := Lib.hid hsl
  replace hne := Lib.hid hne
  replace hL := Lib.hid hL
  replace h := Lib.hid h
  replace ho := Lib.hid ho
  replace c72 := Lib.hid c72
  go_enter Try.func39, Try.ntmps39
  go_wp2_with fail
  refine c55.out.mono ?_
  rintro e X1 ⟨rfl, hb1⟩
  obtain ⟨b, o1, rfl, _, u0⟩ := hat.out X1 hb1 a (by omega)
  obtain ⟨b2, o2, hA2, _, u1⟩ := hat.out X1 hb1 (a + 1) (by omega)
  injection hA2 with hA2
  injection hA2 with e1 e2 _
  subst e1
  subst e2
  have hne' := hne.out
  obtain ⟨x, hx⟩ : ∃ x, x = el o a := ⟨_, rfl⟩
  obtain ⟨y, hy⟩ : ∃ y, y = el o (a + 1) := ⟨_, rfl⟩
  rw [← hx] at u0 hne'
  rw [← hy] at u1 hne'
  have hxy : (x == y) = false := by simpa using hne'
  clear hne'
  replace hx := Lib.hid hx
  replace hy := Lib.hid hy
  replace hb1 := Lib.hid hb1
  go_wp2
  go_quiet (fail)
  have hbq : Below w.heap.size w (X1.drewN nq) := below_drewN hb1.out nq
  clear u0 u1
  have k72 := Lib.hid (c72.out _ hbq)
  generalize X1.drewN nq = Z at hbq k72 ⊢
  replace hbq := Lib.hid hbq
  go_wp2_with fail
  (with_reducible refine k72.out.mono ?_)
  rintro e X2 ⟨g, cap, rfl, hcap, hgb, hb2, hbl⟩
  have hb3 := bel_trans hbq.out hb2
  have hbl2 : BlI X2 g m (el (swp o a)) := hbl.congr fun q hq => (hels.out q).symm
  have hrow := blI_row (hsl.out) hbl2 (by omega)
  have k56 := Lib.hid (c56.out X2 hb3 _ cap hrow)
  replace hb3 := Lib.hid hb3
  replace hrow := Lib.hid hrow
  clear hbl hbl2 hb2 hgb
  go_wp2_with fail
  (with_reducible refine k56.out.mono ?_)
  rintro e X3 ⟨rfl, hb4⟩
  have hb5 := bel_trans hb3.out hb4
  have hrow2 := Lib.hid (hrow.out.up hb4)
  have k56' := Lib.hid (c56'.out X3 hb5)
  replace hb5 := Lib.hid hb5
  clear hb4 k56
  go_wp2_with fail
  (with_reducible refine k56'.out.mono ?_)
  rintro e X4 ⟨rfl, hb6⟩
  have hend := Lib.hid (bel_trans hb5.out hb6)
  have hrow3 := Lib.hid (hrow2.out.up hb6)
  clear hb6 k56'
  go_wp2
  exact bodyPost_ret (v := .tuple #[.slice (some ⟨g, 0, none⟩) m cap, .int .i64 (R - R2), .int .i64 0]) (by simp [results, Try.results39, go_sem]) rfl ⟨some ⟨g, 0, none⟩, cap, rfl, hend.out, hrow3.out⟩

set_option maxRecDepth 100000 in
set_option maxHeartbeats 4000000 in
theorem Swap_ref_bad (B : Nat) (A Ao : Option Addr) (c co : Nat) (D : List Bc) (o : List Int) (z : Int) (w : World) (h : Bcs w B A D) (ho : Row w B Ao o) (hB : B ≤ w.heap.size) (hL : ∀ i, i < D.length → (be (bl D) i).length ≤ 100) (hz : -9223372036854775808 ≤ z ∧ z ≤ 9223372036854775807) (he : ¬ swE (bl D) o z = 0) :
    Calls Try.prog 40 #[.slice A D.length c, .slice Ao o.length co, .int .i64 z] w (SwP (swR (bl D) o z) w) := by
  have h63 := h.1
  have ho63 := ho.1
  have c55 := asked_ref B A Ao c co D o w h ho hB hL
  rw [swR_err he]
  unfold swE at he ⊢
  unfold SwP
  by_cases h1 : errO (bl D) o = 0
  · rw [if_pos h1] at he ⊢
    rw [h1] at c55
    obtain ⟨hv, hor⟩ := errO_ok h1
    obtain ⟨-, h12, -, -, -⟩ := ord_spec hv hor
    have hat := fun X (hX : Below w.heap.size w X) k (hk : k < o.length) => (ho.below (hX.mono hB)).at_ k hk
    have hsub : IntKind.i64.wrap ((o.length : Int) - 1) = (o.length : Int) - 1 := IntWalk.i64_in _ (by omega)
    by_cases h2 : 0 ≤ z ∧ z < (o.length : Int) - 1
    · rw [if_pos h2] at he ⊢
      by_cases h3 : el o z.toNat = el o (z.toNat + 1)
      · rw [if_pos h3]
        obtain ⟨a, rfl⟩ := Int.eq_ofNat_of_zero_le h2.1
        rw [Int.toNat_natCast] at h3
        have h2' := h2.2
        generalize D.length = n at *
        obtain ⟨m, hm'⟩ : ∃ m, m = o.length := ⟨_, rfl⟩
        rw [← hm'] at c55 hat hsub ho63 h12 h2' ⊢
        replace hm' := Lib.hid hm'
        clear h2 hz he
        replace h1 := Lib.hid h1
        replace h3 := Lib.hid h3
        replace hv := Lib.hid hv
        replace hor := Lib.hid hor
        replace hat := Lib.hid hat
        replace c55 := Lib.hid c55
        replace hL := Lib.hid hL
        replace h := Lib.hid h
        replace ho := Lib.hid ho
        have hw1 : IntKind.i64.wrap ((a : Int) + 1) = ((a + 1 : Nat) : Int) := by rw [IntWalk.i64_in _ (by omega)]; omega
        have hn1 : ((a + 1 : Nat) : Int) < (m : Int) := by omega
        have hn0 : (a : Int) < (m : Int) := by omega
        go_enter Try.func40, Try.ntmps40
        go_wp2_with fail
        refine c55.out.mono ?_
        rintro e X1 ⟨rfl, hb1⟩
        obtain ⟨b, o1, rfl, _, u0⟩ := hat.out X1 hb1 a (by omega)
        obtain ⟨b2, o2, hA2, _, u1⟩ := hat.out X1 hb1 (a + 1) (by omega)
        injection hA2 with hA2
        injection hA2 with e1 e2 _
        subst e1
        subst e2
        rw [← h3.out] at u1
        obtain ⟨x, hx⟩ : ∃ x, x = el o a := ⟨_, rfl⟩
        rw [← hx] at u0 u1
        replace hx := Lib.hid hx
        replace hb1 := Lib.hid hb1
        go_wp2
        go_quiet (fail)
        go_wp2
        exact bodyPost_ret (v := .tuple #[.slice none 0 0, .int .i64 0, .int .i64 5]) (by simp [results, Try.results40, go_sem]) rfl ⟨none, 0, rfl, below_drewN hb1.out nq, row_nil _ _ _⟩
      · rw [if_neg h3] at he; exact absurd rfl he
    · rw [if_neg h2]
      generalize D.length = n at *
      generalize o.length = m at *
      replace h1 := Lib.hid h1
      replace hv := Lib.hid hv
      replace hor := Lib.hid hor
      replace hat := Lib.hid hat
      replace c55 := Lib.hid c55
      replace hL := Lib.hid hL
      replace h := Lib.hid h
      replace ho := Lib.hid ho
      clear he
      by_cases hz0 : z < 0
      all_goals
        have hz9 : hz0 = hz0 := rfl
        clear hz9
        have hz1 : z < 0 ∨ (m : Int) - 1 ≤ z := by omega
        replace h2 := Lib.hid h2
        replace hz1 := Lib.hid hz1
        go_enter Try.func40, Try.ntmps40
        go_wp2_with fail
        refine c55.out.mono ?_
        rintro e X1 ⟨rfl, hb1⟩
        replace hb1 := Lib.hid hb1
        have hz2 := hz1.out
        have hz3 : ¬ z < 0 → (m : Int) - 1 ≤ z := by omega
        first
          | (have hz4 := hz3 hz0; clear hz2 hz3; go_wp2; exact bodyPost_ret (v := .tuple #[.slice none 0 0, .int .i64 0, .int .i64 2]) (by simp [results, Try.results40, go_sem]) rfl ⟨none, 0, rfl, hb1.out, row_nil _ _ _⟩)
          | (clear hz2 hz3; go_wp2; exact bodyPost_ret (v := .tuple #[.slice none 0 0, .int .i64 0, .int .i64 2]) (by simp [results, Try.results40, go_sem]) rfl ⟨none, 0, rfl, hb1.out, row_nil _ _ _⟩)
  · rw [if_neg h1]
    obtain ⟨E, hE⟩ : ∃ E, E = errO (bl D) o := ⟨_, rfl⟩
    rw [← hE] at c55 h1 ⊢
    clear he
    generalize D.length = n at *
    generalize o.length = m at *
    replace hE := Lib.hid hE
    replace c55 := Lib.hid c55
    replace hL := Lib.hid hL
    replace h := Lib.hid h
    replace ho := Lib.hid ho
    go_enter Try.func40, Try.ntmps40
    go_wp2_with fail
    refine c55.out.mono ?_
    rintro e X1 ⟨rfl, hb1⟩
    replace hb1 := Lib.hid hb1
    go_wp2
    exact bodyPost_ret (v := .tuple #[.slice none 0 0, .int .i64 0, .int .i64 E]) (by simp [results, Try.results40, go_sem]) rfl ⟨none, 0, rfl, hb1.out, row_nil _ _ _⟩

set_option maxRecDepth 100000 in
set_option maxHeartbeats 4000000 in
theorem Swap_ref_ok (B : Nat) (A Ao : Option Addr) (c co : Nat) (D : List Bc) (o : List Int) (a : Nat) (w : World) (h : Bcs w B A D) (ho : Row w B Ao o) (hB : B ≤ w.heap.size) (hL : ∀ i, i < D.length → (be (bl D) i).length ≤ 100) (he : errO (bl D) o = 0) (ha : a + 1 < o.length) (hne : ¬ el o a = el o (a + 1)) :
    Calls Try.prog 40 #[.slice A D.length c, .slice Ao o.length co, .int .i64 (a : Nat)] w (SwP (swp o a, hm (bl D) (swp o a) o.length - hm (bl D) o o.length, 0) w) := by
  have h63 := h.1
  have ho63 := ho.1
  have c55 := asked_ref B A Ao c co D o w h ho hB hL
  rw [he] at c55
  have he2 := swp_err he ha
  obtain ⟨hv, hor⟩ := errO_ok he
  obtain ⟨hv2, hor2⟩ := errO_ok he2
  obtain ⟨-, h12, -, -, hru⟩ := ord_spec hv hor
  obtain ⟨-, -, -, -, hru2⟩ := ord_spec hv hor2
  have hat := fun X (hX : Below w.heap.size w X) k (hk : k < o.length) => (ho.below (hX.mono hB)).at_ k hk
  have hsub : IntKind.i64.wrap ((o.length : Int) - 1) = (o.length : Int) - 1 := IntWalk.i64_in _ (by omega)
  have hsl := swp_len o a
  have hb1 := hm_b hv hru (by omega) o.length (Nat.le_refl _)
  have hb2 := hm_b hv hru2 (by omega) (swp o a).length (Nat.le_refl _)
  have c56 := fun X (hX : Below w.heap.size w X) Av cv (hr : Row X X.heap.size Av (swp o a)) => harm_ref X.heap.size A Av c cv D (swp o a) X ((h.below (hX.mono hB)).more (Nat.le_trans hB hX.size)) hr (Nat.le_refl _) hL he2
  have c56' := fun X (hX : Below w.heap.size w X) => harm_ref B A Ao c co D o X (h.below (hX.mono hB)) (ho.below (hX.mono hB)) (Nat.le_trans hB hX.size) hL he
  obtain ⟨i3, ji, jz0, jz1, jz2⟩ := info_parts info3
  replace ji := Lib.hid ji
  replace jz0 := Lib.hid jz0
  replace jz1 := Lib.hid jz1
  replace jz2 := Lib.hid jz2
  have hels := fun q => el_swp ha q
  unfold SwP
  simp only []
  rw [hsl] at c56 hb2 ⊢
  obtain ⟨R, hR⟩ : ∃ R, R = hm (bl D) (swp o a) o.length := ⟨_, rfl⟩
  obtain ⟨R2, hR2⟩ : ∃ R, R = hm (bl D) o o.length := ⟨_, rfl⟩
  rw [← hR] at c56 hb2 ⊢
  rw [← hR2] at c56' hb1 ⊢
  generalize D.length = n at *
  obtain ⟨m, hm'⟩ : ∃ m, m = o.length := ⟨_, rfl⟩
  rw [← hm'] at c55 hat hsub ho63 h12 ha c56 c56' hb1 hb2 hsl  ⊢
  have hd : IntKind.i64.wrap (R - R2) = R - R2 := IntWalk.i64_in _ (by omega)
  have hR9 : (0 ≤ R ∧ R ≤ 1000000000) ∧ 0 ≤ R2 ∧ R2 ≤ 1000000000 := by omega
  clear hb1 hb2
  have hw1 : IntKind.i64.wrap ((a : Int) + 1) = ((a + 1 : Nat) : Int) := by rw [IntWalk.i64_in _ (by omega)]; omega
  have hn1 : ((a + 1 : Nat) : Int) < (m : Int) := by omega
  have hn0 : (a : Int) < (m : Int) := by omega
  replace hm' := Lib.hid hm'
  replace hR := Lib.hid hR
  replace hR2 := Lib.hid hR2
  replace he := Lib.hid he
  replace he2 := Lib.hid he2
  replace hv := Lib.hid hv
  replace hor := Lib.hid hor
  replace hor2 := Lib.hid hor2
  replace hv2 := Lib.hid hv2
  replace hru := Lib.hid hru
  replace hru2 := Lib.hid hru2
  replace hat := Lib.hid hat
  replace c55 := Lib.hid c55
  replace c56 := Lib.hid c56
  replace c56' := Lib.hid c56'
  replace hels := Lib.hid hels
  replace hsl := Lib.hid hsl
  replace hne := Lib.hid hne
  replace hL := Lib.hid hL
  replace h := Lib.hid h
  replace ho := Lib.hid ho
  go_enter Try.func40, Try.ntmps40
  go_wp2_with fail
  refine c55.out.mono ?_
  rintro e X1 ⟨rfl, hb1⟩
  obtain ⟨b, o1, rfl, _, u0⟩ := hat.out X1 hb1 a (by omega)
  obtain ⟨b2, o2, hA2, _, u1⟩ := hat.out X1 hb1 (a + 1) (by omega)
  injection hA2 with hA2
  injection hA2 with e1 e2 _
  subst e1
  subst e2
  have hne' := hne.out
  obtain ⟨x, hx⟩ : ∃ x, x = el o a := ⟨_, rfl⟩
  obtain ⟨y, hy⟩ : ∃ y, y = el o (a + 1) := ⟨_, rfl⟩
  rw [← hx] at u0 hne'
  rw [← hy] at u1 hne'
  have hxy : (x == y) = false := by simpa using hne'
  clear hne'
  replace hx := Lib.hid hx
  replace hy := Lib.hid hy
  replace hb1 := Lib.hid hb1
  go_wp2
  go_quiet (fail)
  have hbq : Below w.heap.size w (X1.drewN nq) := below_drewN hb1.out nq
  clear u0 u1
  generalize X1.drewN nq = Z at hbq ⊢
  have hat2 := hat.out
  obtain ⟨Zd, hZd⟩ : ∃ Zd, Zd = Z.alloc (.cells #[] 3) := ⟨_, rfl⟩
  have hbZd : Below Z.heap.size Z Zd := by rw [hZd]; exact ba1 Z _
  have hbZ := bel_trans hbq hbZd
  have own1 : Zd.ownsRow Z.heap.size 3 1 (.slice (some ⟨Z.heap.size, 0, none⟩) 0 0) 0 [] := by rw [hZd]; exact empty_own Z 3
  have news1 : ∀ j u, (vals o)[j]? = some u → Zd.cell? ((⟨b, o1, none⟩ : Addr).add j) = some u := fun j u hu => by
    obtain ⟨hj, rfl⟩ := news_get hu
    obtain ⟨b', o', e, _, hc⟩ := hat2 Zd hbZ j (by rw [hm'.out]; exact hj)
    cases e
    rw [add_pl]; exact hc
  have hvl : (vals o).length = m := by rw [vals_len, hm'.out]
  have hZs : Zd.heap.size = Z.heap.size + 1 := by rw [hZd]; simp
  replace own1 := Lib.hid own1
  replace news1 := Lib.hid news1
  replace hvl := Lib.hid hvl
  replace hbZ := Lib.hid hbZ
  replace hbq := Lib.hid hbq
  replace hbZd := Lib.hid hbZd
  have hZ9 : Z.heap.size ≤ Zd.heap.size := by omega
  replace hZs := Lib.hid hZs
  clear hat2
  subst hZd
  go_wp2_with (at_builtin
               refine wpList_append_own _ rfl (.tmp 36) (.tmp 37) 23 rfl Z.heap.size 3 i3 (.int .i64 0) 1 8 Try.underlying23 ji.out jz0.out jz1.out jz2.out rfl (by decide) _ _ _ rfl own1.out ⟨b, o1, none⟩ m co (vals o) rfl (by rw [hvl.out, Nat.mul_one]) news1.out (fun u hu => by obtain ⟨_, _, rfl⟩ := List.mem_map.1 hu; rfl) (by unfold maxLen; omega) (by omega) hZ9 ?_
               intro v' w1 hown' hgrow _
               have hbb := Lib.hid (below_grown hgrow (B := Z.heap.size) hZ9 (fun k e => by cases e; exact Nat.le_refl _))
               have hown2 : w1.ownsRow Z.heap.size 3 1 v' o.length (vals o) := by rw [← hm'.out]; simpa using hown'
               obtain ⟨g, cap, rfl, hcap, hgb, hbl⟩ := own_blk hown2 (by rw [← hm'.out]; omega)
               rw [← hm'.out] at hbl hcap
               clear hown' hgrow hown2)
  rw [← hm'.out]
  have hn2 : (a : Int) + 1 < (m : Int) := by omega
  have hb4 := bel_trans hbq.out (hbZd.out.trans hbb.out)
  have hlo : ∀ q, q < m → w1.cell? ⟨b, o1 + q, none⟩ = some (.int .i64 (el o q)) := fun q hq => by
    obtain ⟨b', o', e, _, hc⟩ := hat.out w1 hb4 q hq
    cases e; exact hc
  have u0 := hlo a (by omega)
  have u1 := hlo (a + 1) ha
  rw [← hx.out] at u0
  rw [← hy.out] at u1
  have v0 := hbl.cell (show a < m by omega)
  have v1 := hbl.cell ha
  have f0 := hbl.fz a
  have f1 := hbl.fz (a + 1)
  have hwg : w.heap.size ≤ g := Nat.le_trans hbq.out.size hgb
  have hbg : ¬ b = g := by omega
  have hgb' : ¬ g = b := by omega
  have haa : ¬ a = a + 1 := by omega
  have hdone := xch_done (X := w1.drew) (l := o) (below_drewN hb4 1) hwg hbl.drew (show a < m by omega) ha
  have hglt := hbl.lt
  rw [← hx.out, ← hy.out] at hdone
  have hrow9 : ∀ Y, BlI Y g m (xch o a (a + 1)) → Row Y Y.heap.size (some ⟨g, 0, none⟩) (swp o a) := fun Y hY => blI_row hsl.out (hY.congr fun q hq => (hels.out q).symm) (by omega)
  have hdone : Below w.heap.size w (((w1.setCell ⟨g, a, none⟩ (.int .i64 y)).setCell ⟨g, a + 1, none⟩ (.int .i64 x)).drew) ∧ BlI (((w1.setCell ⟨g, a, none⟩ (.int .i64 y)).setCell ⟨g, a + 1, none⟩ (.int .i64 x)).drew) g m (xch o a (a + 1)) := hdone
  replace hdone := Lib.hid hdone
  replace hrow9 := Lib.hid hrow9
  replace hb4 := Lib.hid hb4
  replace hbl := Lib.hid hbl
  clear hlo own1 news1 hbb hbZd
  go_wp2_with fail
  go_region
  all_goals
    generalize hY : ((w1.setCell ⟨g, a, none⟩ (.int .i64 y)).setCell ⟨g, a + 1, none⟩ (.int .i64 x)).drew = Y at hdone ⊢
    replace hY := Lib.hid hY
    have hb5 := hdone.out.1
    have hrow := hrow9.out Y hdone.out.2
    have k56 := Lib.hid (c56.out Y hb5 _ cap hrow)
    replace hb3 := Lib.hid hb5
    replace hrow := Lib.hid hrow
    go_wp2_with fail
    (with_reducible refine k56.out.mono ?_)
    rintro e X3 ⟨rfl, hb4⟩
    have hb5 := bel_trans hb3.out hb4
    have hrow2 := Lib.hid (hrow.out.up hb4)
    have k56' := Lib.hid (c56'.out X3 hb5)
    replace hb5 := Lib.hid hb5
    clear hb4 k56
    go_wp2_with fail
    (with_reducible refine k56'.out.mono ?_)
    rintro e X4 ⟨rfl, hb6⟩
    have hend := Lib.hid (bel_trans hb5.out hb6)
    have hrow3 := Lib.hid (hrow2.out.up hb6)
    clear hb6 k56'
    go_wp2
    exact bodyPost_ret (v := .tuple #[.slice (some ⟨g, 0, none⟩) m cap, .int .i64 (R - R2), .int .i64 0]) (by simp [results, Try.results40, go_sem]) rfl ⟨some ⟨g, 0, none⟩, cap, rfl, hend.out, hrow3.out⟩
end Go.Proofs.Ytgjgpcpghglnnaa
