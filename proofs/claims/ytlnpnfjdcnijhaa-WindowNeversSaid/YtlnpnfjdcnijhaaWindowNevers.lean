/-
  For any rounds and any two numbers, the law WindowNevers returns true: rounds meet exactly if no two of them never do, two never do exactly if what divides both lengths does not divide how far they are apart, and they meet when they say, again and again, and not before.
  Conditions: none.
-/
import Derived.Test.YtlnpnfjdcnijhaaK
import Derived.Test.YtlnpnfjdcnijhaaI
namespace Go.Proofs.Ytlnpnfjdcnijhaa.lawWindowNevers
open Go.ChangeShapes Go.WideShapes Go.ChangeAt Go.RowKit Go.Deep Go.Proofs.Ytlnpnfjdcnijhaa M
set_option linter.unusedVariables false
set_option linter.unusedSimpArgs false

set_option maxRecDepth 100000 in
set_option maxHeartbeats 2000000 in
/-- The ways out at once: too many rounds, rounds that are not valid. -/
theorem out (A : Option Addr) (c : Nat) (l : List Rd) (ag be : Int) (w : World) (h : Rds w w.heap.size A l) (ho : 40 < l.length ∨ (¬ 40 < l.length ∧ validR l = false)) :
    Calls Try.prog 16 #[.slice A l.length c, .int .u16 ag, .int .u32 be] w fun e w' => e = .returned (.bool true) ∧ Below w.heap.size w w' := by
  have hL := Long_any A c l.length w h.1
  rcases ho with hl | ⟨hl, hv⟩
  · rw [decide_eq_true hl] at hL
    replace hL := Lib.hid hL
    have hl := Lib.hid hl
    go_enter Try.func16, Try.ntmps16
    go_wp2_with fail
    refine hL.out.mono ?_
    rintro e w' ⟨rfl, rfl⟩
    go_wp2_with fail
    refine (awake_any _).mono ?_
    rintro e w' ⟨rfl, hb⟩
    go_wp2
    go_ret
    exact ⟨rfl, hb⟩
  · rw [decide_eq_false hl] at hL
    have c49 := Meet_any w.heap.size A c l w h (Nat.le_refl _)
    rw [meetR_bad hv] at c49
    have c51 : ∀ W, Below w.heap.size w W → Calls Try.prog 51 #[.slice A l.length c] W fun e w' => e = .returned (M3 (0, 0, 51)) ∧ Below w.heap.size w w' := fun W hb =>
      (Never_any w.heap.size A c l W (h.below hb) hb.size).mono fun e w' ⟨r, hr, he, hb'⟩ => by
        have := hr.uniq (s := (0, 0, 51)) (.inl ⟨hv, rfl⟩)
        subst this
        exact ⟨he, hb.trans (hb'.mono hb.size)⟩
    have c61 : ∀ W, Below w.heap.size w W → Calls Try.prog 61 #[.slice A l.length c] W fun e w' => e = .returned (.bool false) ∧ Below w.heap.size w w' := fun W hb =>
      (AreRounds_ref w.heap.size A c l W (h.below hb) hb.size).mono fun e w' ⟨he, hb'⟩ => ⟨by rw [he, hv], hb.trans (hb'.mono hb.size)⟩
    unfold M3 at c49 c51
    simp only [] at c49 c51
    replace hL := Lib.hid hL
    have hl := Lib.hid hl
    replace c49 := Lib.hid c49
    replace c51 := Lib.hid c51
    replace c61 := Lib.hid c61
    replace hv := Lib.hid hv
    go_enter Try.func16, Try.ntmps16
    go_wp2_with fail
    refine hL.out.mono ?_
    rintro e w' ⟨rfl, rfl⟩
    go_wp2_with fail
    refine c49.out.mono ?_
    rintro e w1 ⟨rfl, hb1⟩
    go_wp2_with fail
    refine (c51.out _ hb1).mono ?_
    rintro e w2 ⟨rfl, hb2⟩
    go_wp2_with fail
    refine (c61.out _ hb2).mono ?_
    rintro e w3 ⟨rfl, hb3⟩
    go_wp2_with fail
    refine (awake_any _).mono ?_
    rintro e w4 ⟨rfl, hb4⟩
    go_wp2
    go_ret
    exact ⟨rfl, hb3.trans (hb4.mono hb3.size)⟩

/-- What the two rounds of a pair read as, in every later world. -/
theorem pair_cells {w : World} {bb o c : Nat} {l : List Rd} (h : Rds w w.heap.size (some ⟨bb, o, none⟩) l) (hv : vR l) {i k : Nat} (hi : i < l.length) (hk : k < l.length) :
    ∃ a e b n : Nat, a < e ∧ e ≤ 1000 ∧ b < n ∧ n ≤ 1000 ∧ nvB l i k = nevN a e b n ∧ ∀ X, Below w.heap.size w X →
      (X.cell? ⟨bb, o + i * 2, none⟩ = some (.int .i64 (a : Nat)) ∧ X.cell? ⟨bb, o + i * 2 + 1, none⟩ = some (.int .i64 (e : Nat))) ∧ X.cell? ⟨bb, o + k * 2, none⟩ = some (.int .i64 (b : Nat)) ∧ X.cell? ⟨bb, o + k * 2 + 1, none⟩ = some (.int .i64 (n : Nat)) := by
  obtain ⟨a, e, ha, he, ha', he', hae, he10⟩ := vR_nat hv hi
  obtain ⟨b, n, hb, hn, hb', hn', hbn, hn10⟩ := vR_nat hv hk
  refine ⟨a, e, b, n, hae, he10, hbn, hn10, by unfold nvB; rw [ha', he', hb', hn'], fun X hX => ?_⟩
  have hq := h.below hX
  obtain ⟨b1, o1, e1, _, p0, p1⟩ := hq.at_ i hi
  obtain ⟨b2, o2, e2, _, q0, q1⟩ := hq.at_ k hk
  injection e1 with e1
  injection e1 with e11 e12 e13
  injection e2 with e2
  injection e2 with e21 e22 e23
  subst e11 e12 e21 e22
  rw [ha] at p0
  rw [he] at p1
  rw [hb] at q0
  rw [hn] at q1
  exact ⟨⟨p0, p1⟩, q0, q1⟩

set_option maxRecDepth 100000 in
set_option maxHeartbeats 4000000 in
/-- Two of the rounds never meet. -/
theorem none_ (A : Option Addr) (c : Nat) (l : List Rd) (ag be : Int) (w : World) (h : Rds w w.heap.size A l) (hl : ¬ 40 < l.length) (hv : validR l = true) (hm : meetN l l.length = none) :
    Calls Try.prog 16 #[.slice A l.length c, .int .u16 ag, .int .u32 be] w fun e w' => e = .returned (.bool true) ∧ Below w.heap.size w w' := by
  have hL := Long_any A c l.length w h.1
  rw [decide_eq_false hl] at hL
  have hvr := validR_iff.1 hv
  have c49 := Meet_any w.heap.size A c l w h (Nat.le_refl _)
  rw [meetR_none hv (Nat.le_refl _) hm] at c49
  have c51 : ∀ W, Below w.heap.size w W → Calls Try.prog 51 #[.slice A l.length c] W fun e w' => ∃ r, NevP l r ∧ e = .returned (M3 r) ∧ Below w.heap.size w w' := fun W hb =>
    (Never_any w.heap.size A c l W (h.below hb) hb.size).mono fun e w' ⟨r, hr, he, hb'⟩ => ⟨r, hr, he, hb.trans (hb'.mono hb.size)⟩
  have c61 : ∀ W, Below w.heap.size w W → Calls Try.prog 61 #[.slice A l.length c] W fun e w' => e = .returned (.bool true) ∧ Below w.heap.size w w' := fun W hb =>
    (AreRounds_ref w.heap.size A c l W (h.below hb) hb.size).mono fun e w' ⟨he, hb'⟩ => ⟨by rw [he, hv], hb.trans (hb'.mono hb.size)⟩
  have c53 : ∀ (i k : Int) W, Below w.heap.size w W → Calls Try.prog 53 #[.slice A l.length c, .int .i64 i, .int .i64 k] W fun e w' => e = .returned (.tuple #[.bool (isnR l i k).1, .int .i64 (isnR l i k).2]) ∧ Below w.heap.size w w' := fun i k W hb =>
    (IsNever_any w.heap.size A c l i k W (h.below hb) hb.size).mono fun e w' ⟨he, hb'⟩ => ⟨he, hb.trans (hb'.mono hb.size)⟩
  have hnn := @never_none l hv hm
  unfold M3 at c49
  simp only [] at c49
  have h63 := h.1
  replace hL := Lib.hid hL
  have hl := Lib.hid hl
  replace c49 := Lib.hid c49
  replace c51 := Lib.hid c51
  replace c53 := Lib.hid c53
  replace c61 := Lib.hid c61
  replace hv := Lib.hid hv
  replace hvr := Lib.hid hvr
  replace hm := Lib.hid hm
  go_enter Try.func16, Try.ntmps16
  go_wp2_with fail
  refine hL.out.mono ?_
  rintro e w' ⟨rfl, rfl⟩
  go_wp2_with fail
  refine c49.out.mono ?_
  rintro e w1 ⟨rfl, hb1⟩
  go_wp2_with fail
  refine (c51.out _ hb1).mono ?_
  rintro e w2 ⟨r, hr, rfl, hb2⟩
  obtain ⟨i, k, ⟨hik, hk⟩, hnv, rfl⟩ := hnn hr
  unfold M3
  clear hr hnn
  have hisn : isnR l (i : Int) (k : Int) = (true, 0) := by
    unfold isnR
    rw [hv.out, if_pos rfl, if_pos ⟨by omega, by omega, by omega⟩, Int.toNat_natCast, Int.toNat_natCast, hnv]
  have c53' := c53.out (i : Int) (k : Int)
  rw [hisn] at c53'
  simp only [] at c53'
  have hi : i < l.length := by omega
  obtain ⟨bb, o, rfl, hbb, _⟩ := h.at_ i hi
  obtain ⟨a, e, b, n, hae, he10, hbn, hn10, hq, hall⟩ := pair_cells (c := c) h hvr.out hi hk
  have c62 : ∀ W, Below w.heap.size w W → Calls Try.prog 62 #[rdN a e, rdN b n] W fun x w' => x = .returned (.bool false) ∧ Below w.heap.size w w' := fun W hb =>
    (divides_any a e b n W hae he10 hbn hn10).mono fun x w' ⟨hx, hb'⟩ => ⟨by rw [hx, ← hq, hnv]; rfl, hb.trans (hb'.mono hb.size)⟩
  have c19 : ∀ W, Below w.heap.size w W → Calls Try.prog 19 #[] W fun x w' => x = .returned (.bool true) ∧ Below w.heap.size w w' := fun W hb =>
    (awake_any W).mono fun x w' ⟨hx, hb'⟩ => ⟨hx, hb.trans (hb'.mono hb.size)⟩
  unfold rdN at c62
  replace hnv := Lib.hid hnv
  replace hisn := Lib.hid hisn
  replace c53' := Lib.hid c53'
  replace hq := Lib.hid hq
  replace c62 := Lib.hid c62
  replace c19 := Lib.hid c19
  replace hall := Lib.hid hall
  go_wp2_with fail
  refine (c61.out _ hb2).mono ?_
  rintro x w3 ⟨rfl, hb3⟩
  go_wp2_with fail
  refine (c53'.out _ hb3).mono ?_
  rintro x w4 ⟨rfl, hb4⟩
  have h8 : Below w.heap.size w (World.drew w4) := below_drew hb4
  have k0 := hall.out _ h8
  obtain ⟨⟨k00, k01⟩, k02, k03⟩ := hall.out _ hb4
  go_wp2_with fail
  go_region_held3 (fun X => (X.cell? ⟨bb, o + i * 2, none⟩ = some (.int .i64 (a : Nat)) ∧ X.cell? ⟨bb, o + i * 2 + 1, none⟩ = some (.int .i64 (e : Nat))) ∧ X.cell? ⟨bb, o + k * 2, none⟩ = some (.int .i64 (b : Nat)) ∧ X.cell? ⟨bb, o + k * 2 + 1, none⟩ = some (.int .i64 (n : Nat)))
    (first | with_reducible exact k0 | with_reducible exact k1 | with_reducible exact k2)
    (first | (go_at_call 62; refine (c62.out _ h8).mono ?_; rintro _ X1 ⟨rfl, h9⟩; have k1 := hall.out _ h9) | (go_at_call 19; refine (c19.out _ h9).mono ?_; rintro _ X2 ⟨rfl, h10⟩; have k2 := hall.out _ h10))
  go_wp2
  go_ret
  exact ⟨rfl, h10⟩

set_option maxRecDepth 100000 in
set_option maxHeartbeats 4000000 in
/-- The rounds meet. -/
theorem some_ (A : Option Addr) (c : Nat) (l : List Rd) (ag be : Nat) (w : World) (h : Rds w w.heap.size A l) (hl : ¬ 40 < l.length) (hv : validR l = true) (P M : Nat) (hm : meetN l l.length = some (P, M)) (hag : ag ≤ 65535) (hbe : be ≤ 4294967295) :
    Calls Try.prog 16 #[.slice A l.length c, .int .u16 ag, .int .u32 be] w fun e w' => e = .returned (.bool true) ∧ Below w.heap.size w w' := by
  have hL := Long_any A c l.length w h.1
  rw [decide_eq_false hl] at hL
  have hvr := validR_iff.1 hv
  obtain ⟨hmet, hin⟩ := (meetN_spec hvr l.length (Nat.le_refl _)).1 P M hm
  have c49 := Meet_any w.heap.size A c l w h (Nat.le_refl _)
  rw [meetR_some hv hm] at c49
  have c51 : ∀ W, Below w.heap.size w W → Calls Try.prog 51 #[.slice A l.length c] W fun e w' => e = .returned (M3 (0, 0, 5)) ∧ Below w.heap.size w w' := fun W hb =>
    (Never_any w.heap.size A c l W (h.below hb) hb.size).mono fun e w' ⟨r, hr, he, hb'⟩ => by
      have := never_some hv hm hr
      subst this
      exact ⟨he, hb.trans (hb'.mono hb.size)⟩
  have c61 : ∀ W, Below w.heap.size w W → Calls Try.prog 61 #[.slice A l.length c] W fun e w' => e = .returned (.bool true) ∧ Below w.heap.size w w' := fun W hb =>
    (AreRounds_ref w.heap.size A c l W (h.below hb) hb.size).mono fun e w' ⟨he, hb'⟩ => ⟨by rw [he, hv], hb.trans (hb'.mono hb.size)⟩
  have c55 : ∀ (x : Nat), x ≤ 9223372036854775807 → ∀ W, Below w.heap.size w W → Calls Try.prog 55 #[.slice A l.length c, .int .i64 (x : Nat)] W fun e w' => e = .returned (.tuple #[.bool (hitsR l (x : Nat)).1, .int .i64 (hitsR l (x : Nat)).2]) ∧ Below w.heap.size w w' := fun x hx W hb =>
    (Hits_any w.heap.size A c l (x : Nat) W (h.below hb) hb.size (by omega)).mono fun e w' ⟨he, hb'⟩ => ⟨he, hb.trans (hb'.mono hb.size)⟩
  have c19 : ∀ W, Below w.heap.size w W → Calls Try.prog 19 #[] W fun x w' => x = .returned (.bool true) ∧ Below w.heap.size w w' := fun W hb =>
    (awake_any W).mono fun x w' ⟨hx, hb'⟩ => ⟨hx, hb.trans (hb'.mono hb.size)⟩
  obtain ⟨top, htop⟩ : ∃ top : Nat, top = 1000000000000000000 := ⟨_, rfl⟩
  have hMt : M ≤ top := by rw [htop]; exact hmet.top
  have ht9 : 8 * top ≤ 9223372036854775807 := by omega
  have hPM := hmet.lt
  -- the three hours
  have cA := c55 P (by omega)
  rw [hits_yes hv hm P (Nat.mod_eq_of_lt hPM)] at cA
  obtain ⟨r, hr⟩ : ∃ r, r = ag % 8 := ⟨_, rfl⟩
  have hr8 : r < 8 := by omega
  have hMr : M * r ≤ 7 * top := by
    calc M * r ≤ top * 7 := Nat.mul_le_mul hMt (by omega)
      _ = 7 * top := Nat.mul_comm _ _
  have cB := c55 (P + M * r) (by omega)
  rw [hits_yes hv hm (P + M * r) (by rw [Nat.add_mul_mod_self_left]; exact Nat.mod_eq_of_lt hPM)] at cB
  have cC : 0 < P → ∀ W, Below w.heap.size w W → Calls Try.prog 55 #[.slice A l.length c, .int .i64 ((be % P : Nat) : Int)] W fun e w' => e = .returned (.tuple #[.bool false, .int .i64 0]) ∧ Below w.heap.size w w' := fun hP => by
    have hlt := Nat.mod_lt be hP
    have h1 := c55 (be % P) (by omega)
    rw [hits_no hv hm (be % P) (by rw [Nat.mod_eq_of_lt (by omega)]; omega)] at h1
    exact h1
  have hm8 : ((ag : Int)) % 8 = (r : Int) := by omega
  have hmc := mul_cast M r
  have hac := add_cast P (M * r)
  obtain ⟨s, hs⟩ : ∃ s, s = M * r := ⟨_, rfl⟩
  rw [← hs] at hmc hac cB hMr
  obtain ⟨t, ht⟩ : ∃ t, t = P + s := ⟨_, rfl⟩
  rw [← ht] at hac cB
  have ht8 : t ≤ 8 * top := by omega
  clear hs ht hr
  unfold M3 at c49 c51
  simp only [] at c49 c51 cA cB
  have h63 := h.1
  have hpn := fun (i k : Nat) (hi : i < l.length) (hk : k < l.length) => meet_pairs hvr hm hi hk
  replace hL := Lib.hid hL
  replace hl := Lib.hid hl
  replace c49 := Lib.hid c49
  replace c51 := Lib.hid c51
  replace c55 := Lib.hid c55
  replace c61 := Lib.hid c61
  replace c19 := Lib.hid c19
  replace cA := Lib.hid cA
  replace cB := Lib.hid cB
  replace cC := Lib.hid cC
  replace hv := Lib.hid hv
  replace hvr := Lib.hid hvr
  replace hm := Lib.hid hm
  replace hmet := Lib.hid hmet
  replace hin := Lib.hid hin
  replace hpn := Lib.hid hpn
  replace htop := Lib.hid htop
  go_enter Try.func16, Try.ntmps16
  go_wp2_with fail
  refine hL.out.mono ?_
  rintro e w' ⟨rfl, rfl⟩
  go_wp2_with fail
  refine c49.out.mono ?_
  rintro e w1 ⟨rfl, hb1⟩
  go_wp2_with fail
  refine (c51.out _ hb1).mono ?_
  rintro e w2 ⟨rfl, hb2⟩
  go_wp2_with fail
  refine (c61.out _ hb2).mono ?_
  rintro x w3 ⟨rfl, hb3⟩
  replace hb1 := Lib.hid hb1
  replace hb2 := Lib.hid hb2
  replace hb3 := Lib.hid hb3
  go_wp2
  go_loopw [117] (fun v X => ∃ i : Nat, i ≤ l.length ∧ v = .int .i64 (i : Nat) ∧ Below w.heap.size w X) (fun v _ => l.length - (intOf v).toNat)
  case atStart => exact ⟨0, Nat.zero_le _, rfl, hb3.out⟩
  case round =>
    obtain ⟨i, hi, rfl, hX⟩ := hrel
    by_cases hlt : i < l.length
    · replace hX := Lib.hid hX
      go_wp2
      go_loopw [121] (fun v X => ∃ k : Nat, k ≤ i ∧ v = .int .i64 (k : Nat) ∧ Below w.heap.size w X) (fun v _ => i - (intOf v).toNat)
      case atStart => exact ⟨0, Nat.zero_le _, rfl, hX.out⟩
      case round =>
        obtain ⟨k, hk, rfl, hY⟩ := hrel
        by_cases hki : k < i
        · have hkl : k < l.length := by omega
          obtain ⟨bb, o, rfl, hbb, _⟩ := h.at_ k hkl
          obtain ⟨a, e, b, n, hae, he10, hbn, hn10, hq, hall⟩ := pair_cells (c := c) h hvr.out hkl hlt
          have c62 : ∀ W, Below w.heap.size w W → Calls Try.prog 62 #[rdN a e, rdN b n] W fun x w' => x = .returned (.bool true) ∧ Below w.heap.size w w' := fun W hb =>
            (divides_any a e b n W hae he10 hbn hn10).mono fun x w' ⟨hx, hb'⟩ => ⟨by rw [hx, ← hq]; unfold nvB; rw [hpn.out k i hkl hlt]; rfl, hb.trans (hb'.mono hb.size)⟩
          unfold rdN at c62
          have h8 : Below w.heap.size w (World.drew wr) := below_drew hY
          have k0 := hall _ h8
          obtain ⟨⟨k00, k01⟩, k02, k03⟩ := hall _ hY
          replace hq := Lib.hid hq
          replace c62 := Lib.hid c62
          replace hall := Lib.hid hall
          replace hY := Lib.hid hY
          go_wp2_with fail
          go_region_held3 (fun X => (X.cell? ⟨bb, o + k * 2, none⟩ = some (.int .i64 (a : Nat)) ∧ X.cell? ⟨bb, o + k * 2 + 1, none⟩ = some (.int .i64 (e : Nat))) ∧ X.cell? ⟨bb, o + i * 2, none⟩ = some (.int .i64 (b : Nat)) ∧ X.cell? ⟨bb, o + i * 2 + 1, none⟩ = some (.int .i64 (n : Nat)))
            (first | with_reducible exact k0 | with_reducible exact k1)
            (first | (go_at_call 62; refine (c62.out _ h8).mono ?_; rintro _ X1 ⟨rfl, h9⟩; have k1 := hall.out _ h9))
          go_wp2
          go_roundw
          case rel => exact ⟨k + 1, by omega, by go_num, h9⟩
          case measure => simp [intOf]; omega
        · have hk' : k = i := by omega
          subst hk'
          replace hY := Lib.hid hY
          go_wp2
          go_roundw
          case rel => exact ⟨k + 1, by omega, by go_num, hY.out⟩
          case measure => simp [intOf]; omega
    · go_wp2_with fail
      refine (cA.out _ hX).mono ?_
      rintro x w4 ⟨rfl, hb4⟩
      replace hX := Lib.hid hX
      go_wp2_with fail
      refine (cB.out _ hb4).mono ?_
      rintro x w5 ⟨rfl, hb5⟩
      by_cases hP : P = 0
      · subst hP
        go_wp2_with fail
        refine (c19.out _ hb5).mono ?_
        rintro x w6 ⟨rfl, hb6⟩
        go_wp2
        go_ret
        exact ⟨rfl, hb6⟩
      · have hP0 : ((P : Int) == 0) = false := by simp; omega
        have hP1 : ¬ ((P : Int) = 0) := by omega
        have hP2 : (1 : Int) ≤ (P : Int) := by omega
        have hbm : ((be : Int)) % (P : Int) = ((be % P : Nat) : Int) := rfl
        have cD := cC.out (by omega)
        obtain ⟨z, hz⟩ : ∃ z, z = be % P := ⟨_, rfl⟩
        rw [← hz] at cD hbm
        have hz9 : z ≤ 4294967295 := by have := Nat.mod_le be P; omega
        clear hz
        replace cD := Lib.hid cD
        go_wp2_with fail
        refine (cD.out _ hb5).mono ?_
        rintro x w6 ⟨rfl, hb6⟩
        go_wp2_with fail
        refine (c19.out _ hb6).mono ?_
        rintro x w7 ⟨rfl, hb7⟩
        go_wp2
        go_ret
        exact ⟨rfl, hb7⟩

theorem walk (A : Option Addr) (c : Nat) (l : List Rd) (ag be : Int) (w : World) (h : Rds w w.heap.size A l) (hag : 0 ≤ ag ∧ ag ≤ 65535) (hbe : 0 ≤ be ∧ be ≤ 4294967295) :
    Calls Try.prog 16 #[.slice A l.length c, .int .u16 ag, .int .u32 be] w fun e w' => e = .returned (.bool true) ∧ Below w.heap.size w w' := by
  by_cases hl : 40 < l.length
  · exact out A c l ag be w h (.inl hl)
  · cases hv : validR l with
    | false => exact out A c l ag be w h (.inr ⟨hl, hv⟩)
    | true =>
      cases hm : meetN l l.length with
      | none => exact none_ A c l ag be w h hl hv hm
      | some s =>
        obtain ⟨P, M⟩ := s
        obtain ⟨a', rfl⟩ := Int.eq_ofNat_of_zero_le hag.1
        obtain ⟨b', rfl⟩ := Int.eq_ofNat_of_zero_le hbe.1
        exact some_ A c l a' b' w h hl hv P M hm (by omega) (by omega)

/-! ### the row's step -/
set_option maxRecDepth 100000 in
theorem lifted (os : Os) (started : os.Started) (H : Type) (enc : TypeId × Value → H) :
    ReturnsInHanded {} Try.checked os 16 .any (Rows.windowNeversSpec.pre6 enc Try.prog Try.f16 Rows.windowNeversRow.domain false) (Rows.windowNeversSpec.post enc Try.prog Try.f16 false true false false) := by
  refine returnsInHanded_of_change (C := Try.checked) own started (by kernel_rfl) Try.func16
    (ChangeSpec.witness6 (enc := enc) (C := Try.checked) false ⟨#[], #[.slice none 0 0, .int .u16 0, .int .u32 0], []⟩ 8 (by kernel_rfl) (by kernel_rfl) (by kernel_rfl) (by kernel_rfl)) ?_
  intro W base args ds gs before hval0 hW hcnd _
  have hval : ∀ (j : Nat) t v, Try.f16.params[j]? = some t → args[j]? = some v → Value.okWide Try.prog W .any base t v := hval0
  have hW' := hW
  obtain ⟨p, q, hA0, hV, rfl, hfz, hnd⟩ := hW
  have hA : DataW.TrodAll enc Try.prog W 0 (fun _ => true) true Try.f16.params.toList args.toList ds p := hA0
  rw [Try.params16] at hA hval
  obtain ⟨v0, vs0, d0, ds0, p0, q0, hargs, rfl, rfl, h0, r0⟩ := trodAll_cons hA
  obtain ⟨v1, vs1, d1, ds1, p1, q1, rfl, rfl, rfl, h1, r1⟩ := trodAll_cons r0
  obtain ⟨v2, vs2, d2, ds2, p2, q2, rfl, rfl, rfl, h2, r2⟩ := trodAll_cons r1
  obtain ⟨rfl, rfl, rfl⟩ := trodAll_nil r2
  obtain rfl : args = #[v0, v1, v2] := by cases args; simp_all
  obtain ⟨rfl, rfl⟩ := trodVars_none hV
  have k0 := h0
  have lt0 : ∀ x ∈ p0, x.block < W.heap.size := by obtain ⟨m, hm⟩ := k0; exact DataW.trod_lt m _ _ _ hm
  obtain ⟨a0, len0, cap0, T0, rfl, rfl, w0⟩ : ∃ A len cap D, v0 = .slice A len cap ∧ D.length = len ∧ Rds W W.heap.size A D := by
    obtain ⟨s0, s1, s2, rfl⟩ := okWide_slice Try.underlying50 (hval 0 50 v0 rfl rfl)
    obtain ⟨fuel, hf⟩ := h0
    exact rds_of (by simpa [Value.cells] using hf)
  obtain ⟨a1, rfl, rfl, rfl, w1⟩ := open_int Try.underlying65 (hval 1 65 v1 rfl rfl) h1
  obtain ⟨a2, rfl, rfl, rfl, w2⟩ := open_int Try.underlying56 (hval 2 56 v2 rfl rfl) h2
  clear hA0 hval0
  refine (walk a0 cap0 T0 a1 a2 W w0 (u16_range w1) (u32_range w2)).mono fun e W' ⟨he, bel⟩ => ?_
  subst he
  exact ⟨_, rfl, _, _, _, [], _, [], hW', trodAll_mk1 (shut_bool Try.underlying4 _), (trodAll_cons_mk (Below.trod laidOut (by kernel_rfl) (of_decide_eq_true (by kernel_rfl)) k0 bel lt0) (trodAll_cons_mk (shut_int Try.underlying65 w1) (trodAll_cons_mk (shut_int Try.underlying56 w2) trodAll_mk0))), rfl, bel.frame _, fun h => by cases h⟩

theorem over : Rows.windowNeversRow.holds Try.pinned (OpenSpec.ofChange Rows.windowNeversSpec) :=
  OpenClaim.holds_of_wide 16 Try.f16 rfl rfl rfl rfl rfl rfl rfl ⟨rfl, rfl, rfl, rfl, rfl⟩ rfl rfl rfl rfl rfl (by kernel_rfl) Try.func16 (by kernel_rfl)
    (of_decide_eq_true (by kernel_rfl)) (by unfold Func.isWrapper; first | (rw [if_pos (by decide +kernel)]; kernel_rfl) | (rw [if_neg (by decide +kernel)]; exact ⟨rfl, rfl⟩))
    (fun os started H enc _ => lifted os started H enc)

/-- The statement. -/
theorem proved : Rows.WindowNeversSaid := over
end Go.Proofs.Ytlnpnfjdcnijhaa.lawWindowNevers
