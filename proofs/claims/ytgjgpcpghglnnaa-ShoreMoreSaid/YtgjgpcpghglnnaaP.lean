/-
  The sum of all Hours: the specification's functions.
-/
import Derived.Test.YtgjgpcpghglnnaaO
import Derived.Test.YtgjgpcpghglnnaaI
namespace Go.Proofs.Ytgjgpcpghglnnaa
open Go.RowKit Go.Deep M
set_option linter.unusedVariables false
set_option linter.unusedSimpArgs false

namespace M
/-- The Hours of the first k beaches. -/
def hs (J : List (List Jb)) : Nat → Int
  | 0 => 0
  | k + 1 => hs J k + sh (be J k) 0 (be J k).length
theorem hs_succ (J : List (List Jb)) (k : Nat) : hs J (k + 1) = hs J k + sh (be J k) 0 (be J k).length := rfl
theorem hs_b {J : List (List Jb)} (hv : vJ J) : ∀ k, k ≤ J.length → 0 ≤ hs J k ∧ hs J k ≤ 100 * tn J k := by
  intro k
  induction k with
  | zero => intro _; exact ⟨Int.le_refl _, Int.le_refl _⟩
  | succ k ih =>
    intro hk
    have h1 := ih (by omega)
    have h2 := s_b (hv.2.2 k hk) (f := 0) (be J k).length (by omega)
    rw [hs_succ, tn_succ]
    omega
theorem fo_at (J : List (List Jb)) {k t n : Nat} (hn : n ≤ J.length) (hk : k < n) (ht : t < (be J k).length) : el (fo J n) (tn J k + t) = k ∧ cnt (fo J n) (k : Int) (tn J k + t) = t := by
  induction n with
  | zero => exact absurd hk (Nat.not_lt_zero _)
  | succ n ih =>
    rw [fo_succ]
    by_cases e : k = n
    · subst e
      have h1 := (fo_runs J k (by omega)).1 k
      rw [if_neg (Nat.lt_irrefl _)] at h1
      rw [← fo_len, el_right, el_rep _ ht, cnt_right _ _ _ _ _ (by omega), h1, if_pos rfl]
      exact ⟨rfl, by omega⟩
    · have h1 := tn_mono J (show k + 1 ≤ n by omega)
      rw [tn_succ] at h1
      have h2 : tn J k + t < (fo J n).length := by rw [fo_len]; omega
      rw [el_left h2, cnt_left _ _ _ _ (by omega)]
      exact ih (by omega) (by omega)
theorem hr_fo (J : List (List Jb)) {n : Nat} (hn : n ≤ J.length) : ∀ k, k ≤ n → hr J (fo J n) (tn J k) = hs J k := by
  intro k
  induction k with
  | zero => intro _; rfl
  | succ k ih =>
    intro hk
    have h1 : ∀ t, t ≤ (be J k).length → hr J (fo J n) (tn J k + t) = hs J k + sh (be J k) 0 t := by
      intro t
      induction t with
      | zero => intro _; rw [Nat.add_zero, ih (by omega)]; show _ = _ + (0 : Int); omega
      | succ t iht =>
        intro ht
        obtain ⟨a1, a2⟩ := fo_at J hn (show k < n by omega) (show t < (be J k).length by omega)
        rw [← Nat.add_assoc, hr_succ, iht (by omega), sh_succ]
        unfold jbAt
        rw [a1, a2, Int.toNat_natCast, Nat.zero_add]
        omega
    rw [tn_succ, h1 _ (Nat.le_refl _), hs_succ]
theorem hr_all (J : List (List Jb)) : hr J (fo J J.length) (fo J J.length).length = hs J J.length := by rw [fo_len, hr_fo J (Nat.le_refl _) _ (Nat.le_refl _)]
end M

set_option maxRecDepth 100000 in
set_option maxHeartbeats 4000000 in
theorem hours_ref (B : Nat) (A : Option Addr) (c : Nat) (D : List Bc) (w : World) (h : Bcs w B A D) (hB : B ≤ w.heap.size) (hv : vJ (bl D)) :
    Calls Try.prog 60 #[.slice A D.length c] w fun e w' => e = .returned (.int .i64 (hs (bl D) D.length)) ∧ Below w.heap.size w w' := by
  have h63 := h.1
  have hlen := bl_len D
  have hat := fun X (hX : Below w.heap.size w X) k (hk : k < D.length) => (h.below (hX.mono hB)).at_ k hk
  have hsb : ∀ k, k ≤ D.length → 0 ≤ hs (bl D) k ∧ hs (bl D) k ≤ 1200 := fun k hk => by
    have h1 := hs_b hv k (by rw [hlen]; exact hk)
    have h2 := tn_mono (bl D) (show k ≤ (bl D).length by rw [hlen]; exact hk)
    have := hv.2.1
    omega
  have hss := hs_succ (bl D)
  have hok := fun k (hk : k < D.length) => hv.2.2 k (by rw [hlen]; exact hk)
  have hbl := fun i (hi : i < D.length) => Nat.le_trans (be_le (show i < (bl D).length by rw [hlen]; exact hi)) hv.2.1
  have hsh := fun k (hk : k < D.length) t (ht : 0 + t ≤ (be (bl D) k).length) => s_b (hok k hk) (f := 0) t ht
  obtain ⟨J, hJ⟩ : ∃ J, J = bl D := ⟨_, rfl⟩
  rw [← hJ] at hat hsb hss hok hbl hsh ⊢
  obtain ⟨n, hn⟩ : ∃ n, n = D.length := ⟨_, rfl⟩
  rw [← hn] at h63 hat hsb hok hbl hsh ⊢
  obtain ⟨R, hR⟩ : ∃ R, R = hs J n := ⟨_, rfl⟩
  rw [← hR]
  have hz := Lib.hid (show hs J 0 = 0 from rfl)
  have hw0 := Lib.hid (Below.refl w.heap.size w)
  replace hR := Lib.hid hR
  replace hn := Lib.hid hn
  replace hJ := Lib.hid hJ
  replace hlen := Lib.hid hlen
  replace hat := Lib.hid hat
  replace hsb := Lib.hid hsb
  replace hss := Lib.hid hss
  replace hok := Lib.hid hok
  replace hbl := Lib.hid hbl
  replace hsh := Lib.hid hsh
  replace hv := Lib.hid hv
  replace h := Lib.hid h
  go_enter Try.func60, Try.ntmps60
  go_wp2
  go_loopw [3, 4] (fun s i X => ∃ k : Nat, k ≤ n ∧ i = .int .i64 (k : Nat) ∧ s = .int .i64 (hs J k) ∧ Below w.heap.size w X) (fun _ i _ => n - (intOf i).toNat)
  case atStart => exact ⟨0, by omega, rfl, by rw [hz.out], hw0.out⟩
  case round =>
    clear hw0
    obtain ⟨k, hk, rfl, rfl, hX⟩ := hrel
    by_cases hlk : k < n
    · obtain ⟨b, o, rfl, hb, e0, hjb⟩ := hat.out wr hX k hlk
      have hL12 := hbl.out k hlk
      have hs1 := hss.out k
      obtain ⟨q1, q2⟩ := hsb.out k hk
      obtain ⟨q3, q4⟩ := hsb.out (k + 1) hlk
      have hbk := hsh.out k hlk
      have hgat := fun t (ht : t < (be J k).length) X (hXX : Below wr.heap.size wr X) => hat.out X (bel_trans hX hXX) k hlk
      obtain ⟨l, hl⟩ : ∃ l, l = be J k := ⟨_, rfl⟩
      rw [← hl] at e0 hjb hL12 hs1 hbk
      obtain ⟨S, hS⟩ : ∃ S, S = hs J k := ⟨_, rfl⟩
      rw [← hS] at hs1 q1 q2 ⊢
      obtain ⟨S2, hS2⟩ : ∃ S, S = hs J (k + 1) := ⟨_, rfl⟩
      rw [← hS2] at hs1 q3 q4
      have hjl := hjb.1
      obtain ⟨L, hL⟩ : ∃ L, L = l.length := ⟨_, rfl⟩
      rw [← hL] at e0 hL12 hs1 hbk hjl
      have hss2 := sh_succ l 0
      have hz2 := Lib.hid (show S + sh l 0 0 = S from Int.add_zero _)
      obtain ⟨A2, hA2⟩ : ∃ A2, A2 = (bc D k).A := ⟨_, rfl⟩
      obtain ⟨c2, hc2⟩ : ∃ c2, c2 = (bc D k).c := ⟨_, rfl⟩
      rw [← hA2, ← hc2] at e0
      rw [← hA2] at hjb
      have hj2 := hjb.at_
      rw [← hL] at hj2
      replace hj2 := Lib.hid hj2
      clear hgat
      replace hjb := Lib.hid hjb
      replace hS := Lib.hid hS
      replace hS2 := Lib.hid hS2
      replace hs1 := Lib.hid hs1
      replace hbk := Lib.hid hbk
      replace hl := Lib.hid hl
      replace hL := Lib.hid hL
      replace hss2 := Lib.hid hss2
      replace hA2 := Lib.hid hA2
      replace hc2 := Lib.hid hc2
      replace hX := Lib.hid hX
      go_wp2
      go_loop [3, 5] (fun s i => ∃ t : Nat, t ≤ L ∧ i = .int .i64 (t : Nat) ∧ s = .int .i64 (S + sh l 0 t)) (fun _ i => L - (intOf i).toNat)
      case atStart => exact ⟨0, by omega, rfl, by rw [hz2.out]⟩
      case round =>
        obtain ⟨t, ht, rfl, rfl⟩ := hrel
        by_cases hlt : t < L
        · obtain ⟨b2, o2, rfl, hb2, f0, f1⟩ := hj2.out t hlt
          obtain ⟨⟨r1, r2⟩, _⟩ := hbk.out t (by omega)
          obtain ⟨⟨r3, r4⟩, _⟩ := hbk.out (t + 1) (by omega)
          have hs2 := hss2.out t
          rw [Nat.zero_add] at hs2
          obtain ⟨H, hH⟩ : ∃ H, H = (jb l t).h := ⟨_, rfl⟩
          rw [← hH] at f0 hs2
          obtain ⟨T1, hT1⟩ : ∃ T, T = S + sh l 0 t := ⟨_, rfl⟩
          obtain ⟨T2, hT2⟩ : ∃ T, T = S + sh l 0 (t + 1) := ⟨_, rfl⟩
          have hT : T1 + H = T2 := by rw [hT1, hT2, hs2]; omega
          have hT9 : 0 ≤ T1 ∧ T1 ≤ 100000 ∧ 0 ≤ T2 ∧ T2 ≤ 100000 := by omega
          rw [← hT1]
          replace hT1 := Lib.hid hT1
          replace hT2 := Lib.hid hT2
          replace hs2 := Lib.hid hs2
          replace hH := Lib.hid hH
          clear r1 r2 r3 r4
          go_wp2
          go_round
          case rel => exact ⟨t + 1, by omega, by go_num, by rw [← hT2.out]⟩
          case measure => simp [intOf]; omega
        · have ht' : t = L := by omega
          subst ht'
          rw [← hs1.out]
          go_wp2
          go_roundw
          case rel => exact ⟨k + 1, by omega, by go_num, by rw [← hS2.out], hX.out⟩
          case measure => simp [intOf]; omega
    · have hk' : k = n := by omega
      subst hk'
      rw [← hR.out]
      replace hX := Lib.hid hX
      go_wp2
      go_ret
      exact ⟨rfl, hX.out⟩

set_option maxRecDepth 100000 in
set_option maxHeartbeats 4000000 in
theorem Hours_ref (B : Nat) (A : Option Addr) (c : Nat) (D : List Bc) (w : World) (h : Bcs w B A D) (hB : B ≤ w.heap.size) (hL : ∀ i, i < D.length → (be (bl D) i).length ≤ 100) :
    Calls Try.prog 23 #[.slice A D.length c] w fun e w' => e = .returned (.tuple #[.int .i64 (hoR (bl D)).1, .int .i64 (hoR (bl D)).2]) ∧ Below w.heap.size w w' := by
  have h63 := h.1
  have hlen := bl_len D
  have c19 := Valid_ref B A c D w h hB hL
  unfold hoR
  by_cases hv : valB (bl D) = true
  · rw [if_pos hv]
    rw [hv] at c19
    simp only []
    have c60 := fun X (hX : Below w.heap.size w X) => hours_ref B A c D X (h.below (hX.mono hB)) (Nat.le_trans hB hX.size) (val_of hv)
    rw [hr_all, hlen]
    obtain ⟨R, hR⟩ : ∃ R, R = hs (bl D) D.length := ⟨_, rfl⟩
    rw [← hR] at c60 ⊢
    generalize D.length = n at *
    replace hR := Lib.hid hR
    replace c19 := Lib.hid c19
    replace c60 := Lib.hid c60
    replace hv := Lib.hid hv
    replace hL := Lib.hid hL
    replace hlen := Lib.hid hlen
    replace h := Lib.hid h
    go_enter Try.func23, Try.ntmps23
    go_wp2_with fail
    refine c19.out.mono ?_
    rintro e X1 ⟨rfl, hb1⟩
    have k60 := Lib.hid (c60.out X1 hb1)
    replace hb1 := Lib.hid hb1
    go_wp2_with fail
    refine k60.out.mono ?_
    rintro e X2 ⟨rfl, hb2⟩
    have hend := Lib.hid (bel_trans hb1.out hb2)
    clear hb2
    go_wp2
    exact bodyPost_ret (v := .tuple #[.int .i64 R, .int .i64 0]) (by simp [results, Try.results23, go_sem]) rfl ⟨rfl, hend.out⟩
  · rw [if_neg hv]
    rw [show valB (bl D) = false by simpa using hv] at c19
    simp only []
    generalize D.length = n at *
    replace c19 := Lib.hid c19
    replace hv := Lib.hid hv
    replace hL := Lib.hid hL
    replace hlen := Lib.hid hlen
    replace h := Lib.hid h
    go_enter Try.func23, Try.ntmps23
    go_wp2_with fail
    refine c19.out.mono ?_
    rintro e X1 ⟨rfl, hb1⟩
    replace hb1 := Lib.hid hb1
    go_wp2
    exact bodyPost_ret (v := .tuple #[.int .i64 0, .int .i64 60]) (by simp [results, Try.results23, go_sem]) rfl ⟨rfl, hb1.out⟩
end Go.Proofs.Ytgjgpcpghglnnaa
