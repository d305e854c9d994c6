/-
  The first hour of windows taken together, and how many there are: the specification's functions.
-/
import Derived.Test.YtlnpnfjdcnijhaaBx
namespace Go.Proofs.Ytlnpnfjdcnijhaa
open Go.RowKit Go.Deep M
set_option linter.unusedVariables false
set_option linter.unusedSimpArgs false

set_option maxRecDepth 100000 in
set_option maxHeartbeats 4000000 in
theorem First_ref (B : Nat) (A : Option Addr) (c : Nat) (D : List Wc) (hour : Int) (w : World) (h : Wds w B A D) (hB : B ≤ w.heap.size) :
    Calls Try.prog 45 #[.slice A D.length c, .int .i64 hour] w fun e w' => e = .returned (.tuple #[.int .i64 (firR D hour).1, .int .i64 (firR D hour).2]) ∧ Below w.heap.size w w' := by
  have h63 := h.1
  have c86 := taken_ref B A c D hour w h hB
  unfold TakR at c86
  have hcs := togE_cases D (hourB hour)
  have hz := @togE_zero D (hourB hour)
  have hok : togE D (hourB hour) = 0 → 0 ≤ hour ∧ hour ≤ 1000000000 := fun h => by
    have := (hz h).2.1
    unfold okB at this
    rw [Bool.and_eq_true] at this
    exact hourB_iff.1 this.2
  have hbad : ¬ togE D (hourB hour) = 0 → firR D hour = (0, togE D (hourB hour)) := fun h => by unfold firR; rw [if_neg h]
  have hgood : togE D (hourB hour) = 0 → firR D hour = nextO (perT D D.length) (opT D D.length) hour := fun h => by unfold firR; rw [if_pos h]
  obtain ⟨er, her⟩ : ∃ er, er = togE D (hourB hour) := ⟨_, rfl⟩
  rw [← her] at hcs hz hok hbad hgood c86
  obtain ⟨n, hn⟩ : ∃ n, n = D.length := ⟨_, rfl⟩
  rw [← hn] at h63 c86 hz hgood ⊢
  replace hn := Lib.hid hn
  replace her := Lib.hid her
  replace c86 := Lib.hid c86
  by_cases h0 : er = 0
  · obtain ⟨_, _, p1, p2, hper⟩ := hz h0
    have hR := hgood h0
    obtain ⟨hh1, hh2⟩ := hok h0
    obtain ⟨t, rfl⟩ := Int.eq_ofNat_of_zero_le hh1
    rw [hR]
    clear hz hok hbad hgood hcs
    subst h0
    generalize perT D n = m at *
    generalize opT D n = f at *
    have hsome : ∀ k, k < m → f ((t : Int) + (k : Nat)) = true → (∀ j : Nat, j < k → f ((t : Int) + (j : Nat)) = false) → nextO m f (t : Nat) = ((t : Int) + (k : Nat), 0) := fun k h1 h2 h3 => by unfold nextO; rw [fstO_some h1 h2 h3]
    have hnone : (∀ j : Nat, j < m → f ((t : Int) + (j : Nat)) = false) → nextO m f (t : Nat) = (0, 5) := fun h => by unfold nextO; rw [fstO_none h]
    have hmod : ∀ k : Nat, f (((t + k) % m : Nat) : Int) = f ((t : Int) + (k : Nat)) := fun k => by
      rw [Int.natCast_emod, hper]; push_cast; rfl
    obtain ⟨R, hRe⟩ : ∃ R, R = nextO m f (t : Nat) := ⟨_, rfl⟩
    rw [← hRe] at hsome hnone ⊢
    obtain ⟨R1, R2⟩ := R
    simp only [] at hsome hnone ⊢
    have htn : ∀ j : Nat, j < 0 → f ((t : Int) + (j : Nat)) = false := fun j hj => absurd hj (Nat.not_lt_zero _)
    replace hRe := Lib.hid hRe
    replace hR := Lib.hid hR
    replace hper := Lib.hid hper
    replace hmod := Lib.hid hmod
    replace hsome := Lib.hid hsome
    replace hnone := Lib.hid hnone
    replace htn := Lib.hid htn
    go_enter Try.func45, Try.ntmps45
    go_wp2_with fail
    refine c86.out.mono ?_
    rintro e X1 ⟨P, F, rfl, hb2, _, hg⟩
    obtain ⟨g, rfl, hFm, hbl⟩ := hg (by simp)
    obtain rfl : m = F := hFm.symm
    clear hFm
    clear hg
    replace hb2 := Lib.hid hb2
    replace hbl := Lib.hid hbl
    go_wp2
    go_loopw [20] (fun i X => ∃ k : Nat, k ≤ m ∧ i = .int .i64 (k : Nat) ∧ (∀ j : Nat, j < k → f ((t : Int) + (j : Nat)) = false) ∧ Below w.heap.size w X ∧ BlB X g m (fun j => f (j : Nat))) (fun i _ => m - (intOf i).toNat)
    case atStart => exact ⟨0, Nat.zero_le _, rfl, htn.out, hb2.out, hbl.out⟩
    case round =>
      clear hb2 hbl htn
      obtain ⟨k, hk, rfl, hno, hX, hbl⟩ := hrel
      by_cases hlt : k < m
      · have hra : (t + k) % m < m := Nat.mod_lt _ (by omega)
        have e1 := hbl.cell hra
        have hm := hmod.out k
        have ma : ((t : Int) + (k : Int)).tmod (m : Int) = (((t + k) % m : Nat) : Int) := rfl
        have hmi : ¬ ((m : Int) = 0) := by omega
        have hmn : ¬ (m = 0) := by omega
        generalize (t + k) % m = ra at *
        cases hf : f ((t : Int) + (k : Nat)) with
        | true =>
          have hRk := Lib.hid (hsome.out k hlt hf hno)
          rw [hm, hf] at e1
          replace hno := Lib.hid hno
          replace hbl := Lib.hid hbl
          replace hX := Lib.hid hX
          replace hm := Lib.hid hm
          replace hf := Lib.hid hf
          go_wp2
          exact bodyPost_ret (v := .tuple #[.int .i64 ((t : Int) + (k : Nat)), .int .i64 0]) (by simp [results, Try.results45, go_sem]) rfl ⟨by have := hRk.out; simp only [Prod.mk.injEq] at this; rw [this.1, this.2], hX.out⟩
        | false =>
          rw [hm, hf] at e1
          have hno' := Lib.hid (fun (j : Nat) (hj : j < k + 1) => show f ((t : Int) + (j : Nat)) = false by
            rcases Nat.lt_succ_iff_lt_or_eq.1 hj with h1 | rfl
            · exact hno j h1
            · exact hf)
          replace hno := Lib.hid hno
          replace hbl := Lib.hid hbl
          replace hX := Lib.hid hX
          replace hm := Lib.hid hm
          replace hf := Lib.hid hf
          go_wp2
          go_roundw
          case rel => exact ⟨k + 1, by omega, by go_num, hno'.out, hX.out, hbl.out⟩
          case measure => simp [intOf]; omega
      · have hk' : k = m := by omega
        subst hk'
        have hRk := Lib.hid (hnone.out hno)
        replace hno := Lib.hid hno
        replace hbl := Lib.hid hbl
        replace hX := Lib.hid hX
        go_wp2
        exact bodyPost_ret (v := .tuple #[.int .i64 0, .int .i64 5]) (by simp [results, Try.results45, go_sem]) rfl ⟨by have := hRk.out; simp only [Prod.mk.injEq] at this; rw [this.1, this.2], hX.out⟩
  · have hR := hbad h0
    rw [hR]
    clear hz hok hbad hgood
    replace hR := Lib.hid hR
    replace hcs := Lib.hid hcs
    simp only []
    go_enter Try.func45, Try.ntmps45
    go_wp2_with fail
    refine c86.out.mono ?_
    rintro e X2 ⟨P, F, rfl, hb2, hg, _⟩
    obtain ⟨rfl, rfl⟩ := hg h0
    clear hg
    replace hb2 := Lib.hid hb2
    go_wp2
    exact bodyPost_ret (v := .tuple #[.int .i64 0, .int .i64 er]) (by simp [results, Try.results45, go_sem]) rfl ⟨rfl, hb2.out⟩

set_option maxRecDepth 100000 in
set_option maxHeartbeats 4000000 in
theorem Number_ref (B : Nat) (A : Option Addr) (c : Nat) (D : List Wc) (w : World) (h : Wds w B A D) (hB : B ≤ w.heap.size) :
    Calls Try.prog 47 #[.slice A D.length c] w fun e w' => e = .returned (.tuple #[.int .i64 (numR D).1, .int .i64 (numR D).2.1, .int .i64 (numR D).2.2]) ∧ Below w.heap.size w w' := by
  have h63 := h.1
  have c86 := taken_ref B A c D 0 w h hB
  unfold TakR at c86
  rw [show hourB 0 = true from rfl] at c86
  have hcs := togE_cases D true
  have hz := @togE_zero D true
  have hbad : ¬ togE D true = 0 → numR D = (0, 0, togE D true) := fun h => by unfold numR; rw [if_neg h]
  have hgood : togE D true = 0 → numR D = ((((hrsL (fun j => opT D D.length (j : Nat)) (perT D D.length)).length : Nat) : Int), ((perT D D.length : Nat) : Int), 0) := fun h => by unfold numR; rw [if_pos h]
  obtain ⟨er, her⟩ : ∃ er, er = togE D true := ⟨_, rfl⟩
  rw [← her] at hcs hz hbad hgood c86
  obtain ⟨n, hn⟩ : ∃ n, n = D.length := ⟨_, rfl⟩
  rw [← hn] at h63 c86 hz hgood ⊢
  replace hn := Lib.hid hn
  replace her := Lib.hid her
  replace c86 := Lib.hid c86
  by_cases h0 : er = 0
  · obtain ⟨_, _, p1, p2, _⟩ := hz h0
    have hR := hgood h0
    rw [hR]
    clear hz hbad hgood hcs
    subst h0
    simp only []
    generalize perT D n = m at *
    obtain ⟨f, hfe⟩ : ∃ f : Nat → Bool, f = fun j => opT D n (j : Nat) := ⟨_, rfl⟩
    rw [← hfe] at hR c86 ⊢
    have hyes := fun k => @hrsL_yes f k
    have hno := fun k => @hrsL_no f k
    have hle := Lib.hid (fun k => hrsL_le f k)
    have hs1 := Lib.hid (fun (k : Nat) (h : f k = true) => show (hrsL f (k + 1)).length = (hrsL f k).length + 1 by rw [hyes k h]; simp)
    have hs2 := Lib.hid (fun (k : Nat) (h : f k = false) => show (hrsL f (k + 1)).length = (hrsL f k).length by rw [hno k h])
    clear hyes hno
    replace hR := Lib.hid hR
    replace hfe := Lib.hid hfe
    go_enter Try.func47, Try.ntmps47
    go_wp2_with fail
    refine c86.out.mono ?_
    rintro e X1 ⟨P, F, rfl, hb2, _, hg⟩
    obtain ⟨g, rfl, hFm, hbl⟩ := hg (by simp)
    obtain rfl : m = F := hFm.symm
    clear hFm
    clear hg
    replace hb2 := Lib.hid hb2
    replace hbl := Lib.hid hbl
    go_wp2
    go_loopw [7, 20] (fun a i X => ∃ k : Nat, k ≤ m ∧ i = .int .i64 (k : Nat) ∧ a = .int .i64 ((hrsL f k).length : Nat) ∧ Below w.heap.size w X ∧ BlB X g m f) (fun _ i _ => m - (intOf i).toNat)
    case atStart => exact ⟨0, Nat.zero_le _, rfl, rfl, hb2.out, hbl.out⟩
    case round =>
      clear hb2 hbl
      obtain ⟨k, hk, rfl, rfl, hX, hbl⟩ := hrel
      by_cases hlt : k < m
      · have e1 := hbl.cell hlt
        have l1 := hle.out k
        obtain ⟨L, hL⟩ : ∃ L, L = (hrsL f k).length := ⟨_, rfl⟩
        cases hf : f k with
        | true =>
          have hl := hs1.out k hf
          rw [hf] at e1
          rw [← hL] at hl l1 ⊢
          replace hL := Lib.hid hL
          replace hl := Lib.hid hl
          replace hbl := Lib.hid hbl
          replace hX := Lib.hid hX
          replace hf := Lib.hid hf
          go_wp2
          go_roundw
          case rel => exact ⟨k + 1, by omega, by go_num, by rw [hl.out]; go_num, hX.out, hbl.out⟩
          case measure => simp [intOf]; omega
        | false =>
          have hl := hs2.out k hf
          rw [hf] at e1
          rw [← hL] at hl l1 ⊢
          replace hL := Lib.hid hL
          replace hl := Lib.hid hl
          replace hbl := Lib.hid hbl
          replace hX := Lib.hid hX
          replace hf := Lib.hid hf
          go_wp2
          go_roundw
          case rel => exact ⟨k + 1, by omega, by go_num, by rw [hl.out], hX.out, hbl.out⟩
          case measure => simp [intOf]; omega
      · have hk' : k = m := by omega
        subst hk'
        obtain ⟨L, hL⟩ : ∃ L, L = (hrsL f k).length := ⟨_, rfl⟩
        rw [← hL]
        replace hL := Lib.hid hL
        replace hbl := Lib.hid hbl
        replace hX := Lib.hid hX
        go_wp2
        exact bodyPost_ret (v := .tuple #[.int .i64 (L : Nat), .int .i64 (k : Nat), .int .i64 0]) (by simp [results, Try.results47, go_sem]) rfl ⟨by rw [hL.out], hX.out⟩
  · have hR := hbad h0
    rw [hR]
    clear hz hbad hgood
    replace hR := Lib.hid hR
    replace hcs := Lib.hid hcs
    simp only []
    go_enter Try.func47, Try.ntmps47
    go_wp2_with fail
    refine c86.out.mono ?_
    rintro e X2 ⟨P, F, rfl, hb2, hg, _⟩
    obtain ⟨rfl, rfl⟩ := hg h0
    clear hg
    replace hb2 := Lib.hid hb2
    go_wp2
    exact bodyPost_ret (v := .tuple #[.int .i64 0, .int .i64 0, .int .i64 er]) (by simp [results, Try.results47, go_sem]) rfl ⟨rfl, hb2.out⟩
end Go.Proofs.Ytlnpnfjdcnijhaa
