/-
  For any two tanks and any amount, the law TankTwos returns true: the deeds of Two lead to the amount in the tank 1, with at most as many fills of the tank 0 as the tank 1 holds, and no fill of another tank.
  Conditions: none.
-/
import Derived.Test.YtgonibieeimdoaaK
import Derived.Test.YtgonibieeimdoaaI
import Derived.Test.YtgonibieeimdoaaP
namespace Go.Proofs.Ytgonibieeimdoaa.lawTankTwos
open Go.ChangeShapes Go.WideShapes Go.ChangeAt Go.RowKit Go.Deep Go.Proofs.Ytgonibieeimdoaa M
set_option linter.unusedVariables false
set_option linter.unusedSimpArgs false

/-! ### how many fills there are -/
def one (x : Dd) : Nat := if x.d = 1 then 1 else 0
/-- Are there, when the amount is there, at most so many fills? -/
def reachF (t : List Int) (n : Int) : Nat → List Int → Nat → Bool
  | 0, l, c => decide (el l 1 = n) && decide ((c : Int) ≤ el t 1)
  | f + 1, l, c => if el l 1 = n then decide ((c : Int) ≤ el t 1) else reachF t n f (doL t l (nx t l)) (c + one (nx t l))
theorem reachF_all : ∀ a < 13, ∀ b < 13, ∀ n < 13, (1 ≤ a ∧ 1 ≤ b ∧ n ≤ b ∧ n % Nat.gcd a b = 0) → reachF [(a : Nat), (b : Nat)] (n : Nat) 60 [0, 0] 0 = true := by decide +kernel
def cnt (t : List Int) : Nat → Nat
  | 0 => 0
  | k + 1 => cnt t k + one (nx t (twL t k))
theorem cnt_le (t : List Int) (k : Nat) : cnt t k ≤ k := by
  induction k with
  | zero => exact Nat.le_refl _
  | succ k ih => show cnt t k + one _ ≤ _; unfold one; split <;> omega
theorem reachF_at {t : List Int} {n : Int} {j : Nat} (h : reachF t n 60 [0, 0] 0 = true) (hj : FirstK t n j) (h60 : j ≤ 60) : (cnt t j : Int) ≤ el t 1 := by
  have key : ∀ i, i ≤ j → reachF t n (60 - i) (twL t i) (cnt t i) = true := by
    intro i
    induction i with
    | zero => intro _; exact h
    | succ i ih =>
      intro hi
      have h1 := ih (by omega)
      obtain ⟨f, hf⟩ : ∃ f, 60 - i = f + 1 := ⟨60 - i - 1, by omega⟩
      rw [hf] at h1
      unfold reachF at h1
      rw [if_neg (hj.2 i (by omega))] at h1
      rw [show 60 - (i + 1) = f by omega]
      exact h1
  have h1 := key j (Nat.le_refl _)
  cases hf : 60 - j with
  | zero => rw [hf] at h1; unfold reachF at h1; simp [hj.1] at h1; exact h1
  | succ f => rw [hf] at h1; unfold reachF at h1; rw [if_pos hj.1] at h1; simpa using h1
theorem nx_cases (t l : List Int) : ((nx t l).d = 1 ∧ (nx t l).t = 0) ∨ (nx t l).d ≠ 1 := by
  unfold nx
  split
  · right; decide
  · split
    · left; exact ⟨rfl, rfl⟩
    · right; decide
theorem dd_tw {t : List Int} {j k : Nat} (h : k < j) : dd (twD t j) k = nx t (twL t k) := by
  rw [dd_eq _ _ (by rw [twD_len]; exact h)]
  simp [twD]
theorem af_tw {t : List Int} {j : Nat} : ∀ k, k ≤ j → afN t [0, 0] (twD t j) k = twL t k := by
  intro k
  induction k with
  | zero => intro _; rfl
  | succ k ih =>
    intro hk
    show doL t (afN t [0, 0] (twD t j) k) (dd (twD t j) k) = _
    rw [ih (by omega), dd_tw (by omega)]; rfl
theorem err_tw {t : List Int} {j : Nat} (hv : vT t) (h2 : t.length = 2) (hj : j ≤ 200) : err2 t [0, 0] (twD t j) = 0 := by
  unfold err2
  rw [if_pos (val_true hv), if_pos (show lvlB t [0, 0] = true from lvl_true (twL_ok hv h2 0)), if_pos (ds_true ⟨by rw [twD_len]; exact hj, fun i hi => by rw [twD_len] at hi; rw [dd_tw hi]; exact nx_isD h2⟩)]

set_option maxRecDepth 100000 in
set_option maxHeartbeats 8000000 in
theorem inn (a b m : Nat) (w : World) (x y n : Nat) (hx : x = 1 + a % 12) (hy : y = 1 + b % 12) (hn : n = m % (y + 1)) (ha : a ≤ 255) (hb : b ≤ 255) (hm : m ≤ 255) :
    Calls Try.prog 15 #[.int .u8 a, .int .u8 b, .int .u8 m] w fun e w' => e = .returned (.bool true) ∧ Below w.heap.size w w' := by
  have hx1 : 1 ≤ x ∧ x ≤ 12 := by omega
  have hy1 : 1 ≤ y ∧ y ≤ 12 := by omega
  have hny : n ≤ y := by have := Nat.mod_lt m (show 0 < y + 1 by omega); omega
  have hvT : vT [(x : Int), (y : Int)] := ⟨by simp, fun i hi => by
    have : i = 0 ∨ i = 1 := by have : i < 2 := hi; omega
    rcases this with rfl | rfl
    · show 1 ≤ (x : Int) ∧ (x : Int) ≤ 12; omega
    · show 1 ≤ (y : Int) ∧ (y : Int) ≤ 12; omega⟩
  have hvB := val_true hvT
  have hmr := ret_meas hvB
  have hM1 : 1 ≤ meas [(x : Int), (y : Int)] := by
    rw [meas2, Int.toNat_natCast, Int.toNat_natCast]
    exact Nat.gcd_pos_of_pos_left _ (by omega)
  have hM9 : meas [(x : Int), (y : Int)] ≤ 12 := by
    rw [meas2, Int.toNat_natCast, Int.toNat_natCast]
    exact Nat.le_trans (Nat.gcd_le_left _ (by omega)) hx1.2
  have hcase : ∀ D er, TwoP x y n D er → (((n : Int).tmod (meas [(x : Int), (y : Int)] : Nat) ≠ 0 ∧ D = [] ∧ er = 5) ∨ ((n : Int).tmod (meas [(x : Int), (y : Int)] : Nat) = 0 ∧ er = 0 ∧ ∃ j, FirstK [(x : Int), (y : Int)] n j ∧ j ≤ 60 ∧ D = twD [(x : Int), (y : Int)] j)) := fun D er h => by
    rcases h with ⟨h1, _⟩ | ⟨_, h2, _⟩ | ⟨_, _, h3, h4, h5⟩ | ⟨h1, ⟨j, j1, j2, j3⟩, h3⟩
    · rw [hvB] at h1; cases h1
    · exact absurd ⟨by omega, by omega⟩ h2
    · exact .inl ⟨h3, h4, h5⟩
    · exact .inr ⟨h1.2.2, h3, j, j1, j2, j3⟩
  have hfl : ∀ j, (n : Int).tmod (meas [(x : Int), (y : Int)] : Nat) = 0 → FirstK [(x : Int), (y : Int)] n j → j ≤ 60 → (cnt [(x : Int), (y : Int)] j : Int) ≤ (y : Int) := fun j hz hj h60 => by
    refine reachF_at (reachF_all x (by omega) y (by omega) n (by omega) ⟨hx1.1, hy1.1, hny, ?_⟩) hj h60
    rw [meas2, Int.toNat_natCast, Int.toNat_natCast] at hz
    have e : ((n : Int)).tmod ((Nat.gcd x y : Nat) : Int) = ((n % Nat.gcd x y : Nat) : Int) := rfl
    rw [e] at hz
    omega
  have hr := row2 w x y
  have hb0 := ba1 w (.cells #[.int .i64 x, .int .i64 y] 3)
  have c48 := fun X => Two_any x y n X
  have c24 := fun j (hj : FirstK [(x : Int), (y : Int)] n j) (h60 : j ≤ 60) X A A'' c c'' (hX : Row X X.heap.size A [(x : Int), (y : Int)]) (hD : Dls X X.heap.size A'' (twD [(x : Int), (y : Int)] j)) => show Calls Try.prog 24 #[.slice A 2 c, .slice (some ⟨X.heap.size, 0, none⟩) 2 2, .slice A'' j c''] (X.alloc (.cells #[.int .i64 0, .int .i64 0] 3)) fun e w' => ∃ A1 c1, e = .returned (.tuple #[.slice A1 2 c1, .int .i64 0]) ∧ Below X.heap.size X w' ∧ Row w' w'.heap.size A1 (twL [(x : Int), (y : Int)] j) from by
    have hz := row2 X 0 0
    have hbb := ba1 X (.cells #[.int .i64 0, .int .i64 0] 3)
    have := After_any (X.heap.size + 1) A (some ⟨X.heap.size, 0, none⟩) A'' c 2 c'' [(x : Int), (y : Int)] [0, 0] (twD [(x : Int), (y : Int)] j) _ ((hX.below hbb).more (Nat.le_succ _)) hz ((hD.below hbb).more (Nat.le_succ _)) (by simp)
    unfold AftP at this
    have hA : aftR [(x : Int), (y : Int)] [0, 0] (twD [(x : Int), (y : Int)] j) = (twL [(x : Int), (y : Int)] j, 0) := by
      unfold aftR
      rw [if_pos (err_tw hvT rfl (by omega))]
      show (afN _ _ _ (twD [(x : Int), (y : Int)] j).length, (0 : Int)) = _
      rw [twD_len, af_tw j (Nat.le_refl _)]
    rw [hA] at this
    simp only [] at this
    rw [twL_len, twD_len] at this
    exact this.mono fun e w' ⟨A1, c1, he, hb, hr⟩ => ⟨A1, c1, he, bel_trans hbb hb, hr⟩
  have hnc := nx_cases [(x : Int), (y : Int)]
  have hdt := fun j k (h : k < j) => @dd_tw [(x : Int), (y : Int)] j k h
  have hcl := cnt_le [(x : Int), (y : Int)]
  have hcs := fun k => show cnt [(x : Int), (y : Int)] (k + 1) = cnt [(x : Int), (y : Int)] k + one (nx [(x : Int), (y : Int)] (twL [(x : Int), (y : Int)] k)) from rfl
  obtain ⟨M, hM⟩ : ∃ M, M = meas [(x : Int), (y : Int)] := ⟨_, rfl⟩
  have c28 := fun X A c (hX : Row X X.heap.size A [(x : Int), (y : Int)]) => show Calls Try.prog 28 #[.slice A 2 c] X fun e w' => e = .returned (.tuple #[.int .i64 (M : Nat), .int .i64 0]) ∧ Below X.heap.size X w' from by
    refine (Measure_any X.heap.size A c [(x : Int), (y : Int)] X hX).mono fun e w' ⟨he, n, hw⟩ => ⟨?_, by rw [hw]; exact below_drewN (Below.refl _ _) n⟩
    rw [he, hmr, hM]
  rw [← hM] at hM1 hM9 hcase hfl
  obtain ⟨r, hrr⟩ : ∃ r, (n : Int).tmod (M : Int) = r := ⟨_, rfl⟩
  rw [hrr] at hcase hfl
  obtain ⟨xa, hxa⟩ : ∃ xa, xa = a % 12 := ⟨_, rfl⟩
  obtain ⟨ya, hya⟩ : ∃ ya, ya = b % 12 := ⟨_, rfl⟩
  obtain ⟨y2, hy2⟩ : ∃ y2, y2 = y + 1 := ⟨_, rfl⟩
  have a1 : ((a : Nat) : Int) % 12 = (xa : Int) := by omega
  have a2 : ((a : Nat) : Int).tmod 12 = (xa : Int) := by rw [Int.tmod_eq_emod_of_nonneg (by omega)]; exact a1
  have b1 : ((b : Nat) : Int) % 12 = (ya : Int) := by omega
  have b2 : ((b : Nat) : Int).tmod 12 = (ya : Int) := by rw [Int.tmod_eq_emod_of_nonneg (by omega)]; exact b1
  have a3 : 1 + (xa : Int) = (x : Int) := by omega
  have b3 : 1 + (ya : Int) = (y : Int) := by omega
  have y3 : (y : Int) + 1 = (y2 : Int) := by omega
  have m1 : ((m : Nat) : Int).tmod (y2 : Int) = (n : Int) := by
    have : ((m : Nat) : Int).tmod (y2 : Int) = ((m % y2 : Nat) : Int) := rfl
    rw [this, hy2, ← hn]
  have y4 : ¬ ((y2 : Int) = 0) := by omega
  have y5 : ¬ (y2 = 0) := by omega
  have y6 : (1 : Int) ≤ (y2 : Int) := by omega
  have M4 : ¬ ((M : Int) = 0) := by omega
  have M5 : ¬ (M = 0) := by omega
  have M6 : (1 : Int) ≤ (M : Int) := by omega
  have M7 : ¬ ((M : Int) < 1) := by omega
  have g1 : IntKind.i64.wrap (a : Int) = (a : Int) := IntWalk.i64_in _ (by omega)
  have g2 : IntKind.i64.wrap (b : Int) = (b : Int) := IntWalk.i64_in _ (by omega)
  have g3 : IntKind.i64.wrap (m : Int) = (m : Int) := IntWalk.i64_in _ (by omega)
  have g4 : IntKind.i64.wrap (x : Int) = (x : Int) := IntWalk.i64_in _ (by omega)
  have g5 : IntKind.i64.wrap (y : Int) = (y : Int) := IntWalk.i64_in _ (by omega)
  have g6 : IntKind.i64.wrap (y2 : Int) = (y2 : Int) := IntWalk.i64_in _ (by omega)
  have g7 : IntKind.i64.wrap (n : Int) = (n : Int) := IntWalk.i64_in _ (by omega)
  have hrow0 : Row (w.alloc (.cells #[.int .i64 x, .int .i64 y] 3)) (w.alloc (.cells #[.int .i64 x, .int .i64 y] 3)).heap.size (some ⟨w.heap.size, 0, none⟩) [(x : Int), (y : Int)] := hr.more (by simp)
  obtain ⟨Y, hY⟩ : ∃ Y, Y = w.alloc (.cells #[.int .i64 x, .int .i64 y] 3) := ⟨_, rfl⟩
  rw [← hY] at hrow0 hb0
  clear hr hvT hmr
  replace hY := Lib.hid hY
  replace hx := Lib.hid hx
  replace hy := Lib.hid hy
  replace hn := Lib.hid hn
  replace hxa := Lib.hid hxa
  replace hya := Lib.hid hya
  replace hy2 := Lib.hid hy2
  replace hM := Lib.hid hM
  replace hvB := Lib.hid hvB
  replace hcase := Lib.hid hcase
  replace hfl := Lib.hid hfl
  replace c48 := Lib.hid c48
  replace c28 := Lib.hid c28
  replace c24 := Lib.hid c24
  replace hnc := Lib.hid hnc
  replace hdt := Lib.hid hdt
  replace hcl := Lib.hid hcl
  replace hcs := Lib.hid hcs
  replace hb0 := Lib.hid hb0
  have k48 := Lib.hid (c48.out Y)
  unfold TwoR at k48
  go_enter Try.func15, Try.ntmps15
  go_wp2_with fail
  rw [← hY.out]
  refine k48.out.mono ?_
  rintro e X1 ⟨D, er, A, cA, hP, rfl, hb1, hD⟩
  have hbel := bel_trans hb0.out hb1
  replace hrow0 := hrow0.up hb1
  have k28 := Lib.hid (c28.out X1 _ 2 hrow0)
  have hPc := Lib.hid (hcase.out D er hP)
  clear k48
  replace hP := Lib.hid hP
  replace hbel := Lib.hid hbel
  have hb1' := Lib.hid hb1
  clear hb1
  have hrow1 := Lib.hid hrow0
  clear hrow0
  have hD1 := Lib.hid hD
  clear hD
  go_wp2_with fail
  refine k28.out.mono ?_
  rintro e X2 ⟨rfl, hb2⟩
  have hbel2 := bel_trans hbel.out hb2
  have hrow2 := hrow1.out.up hb2
  have hD2 := hD1.out.up hb2
  clear k28
  rcases hPc.out with ⟨p1, rfl, rfl⟩ | ⟨p1, rfl, j, j1, j2, rfl⟩
  · replace hrow2 := Lib.hid hrow2
    replace hD2 := Lib.hid hD2
    have hbel := hbel2
    have p2 : (r != 0) = true := by simpa using p1
    clear hb2
    have hlen : ([] : List Dd).length = 0 := rfl
    go_wp2_with fail
    refine (Sane_any _).mono ?_
    rintro e XA ⟨rfl, hbA⟩
    replace hbel := bel_trans hbel hbA
    go_wp2
    go_ret
    exact ⟨rfl, hbel⟩
  · subst p1
    have hfy := hfl.out j rfl j1 j2
    have k24 := c24.out j j1 j2 X2 _ A 2 cA hrow2 hD2
    have hlj := twD_len [(x : Int), (y : Int)] j
    obtain ⟨m9, hm9⟩ : ∃ m9, m9 = (twD [(x : Int), (y : Int)] j).length := ⟨_, rfl⟩
    rw [← hm9]
    rw [← hm9] at hlj
    obtain rfl : m9 = j := hlj
    have hd63 := hD2.1
    clear hb2
    replace hm9 := Lib.hid hm9
    replace hfy := Lib.hid hfy
    replace k24 := Lib.hid k24
    replace hD2 := Lib.hid hD2
    replace hrow2 := Lib.hid hrow2
    replace hbel2 := Lib.hid hbel2
    replace hPc := Lib.hid hPc.out
    have j1' := Lib.hid j1
    clear j1
    go_wp2_with fail
    refine k24.out.mono ?_
    rintro e X3 ⟨A1, c1, rfl, hb3, hr3⟩
    have hbel3 := Lib.hid (bel_trans hbel2.out hb3)
    have hD3 := Lib.hid (hD2.out.up hb3)
    obtain ⟨b5, o5, rfl, _, e5⟩ := hr3.at_ 1 (by rw [twL_len]; omega)
    rw [j1'.out.1] at e5
    replace hr3 := Lib.hid hr3
    clear hb3 k24
    go_wp2
    go_loopw [16, 17] (fun f i X => ∃ k : Nat, k ≤ m9 ∧ i = .int .i64 (k : Nat) ∧ f = .int .i64 (cnt [(x : Int), (y : Int)] k : Nat) ∧ X3 = X) (fun _ i _ => m9 - (intOf i).toNat)
    case atStart => exact ⟨0, by omega, rfl, rfl, rfl⟩
    case round =>
      obtain ⟨k, hk, rfl, rfl, rfl⟩ := hrel
      have hck := hcl.out k
      by_cases hlk : k < m9
      · obtain ⟨b, o, rfl, hbb, d0, d1, d2⟩ := hD3.out.at_ k (by rw [← hm9.out]; exact hlk)
        rw [hdt.out m9 k hlk] at d0 d1 d2
        have hs := hcs.out k
        obtain ⟨C, hC⟩ : ∃ C, C = cnt [(x : Int), (y : Int)] k := ⟨_, rfl⟩
        rw [← hC] at hs hck ⊢
        rcases hnc.out (twL [(x : Int), (y : Int)] k) with ⟨n1, n2⟩ | n1
        · rw [n1] at d0
          rw [n2] at d2
          unfold one at hs
          rw [if_pos n1] at hs
          replace hs := Lib.hid hs
          replace hC := Lib.hid hC
          replace n1 := Lib.hid n1
          replace n2 := Lib.hid n2
          clear d1
          go_wp2
          go_roundw
          case rel => exact ⟨k + 1, by omega, by go_num, by rw [hs.out]; go_num, by first | rfl | trivial⟩
          case measure => simp [intOf]; omega
        · unfold one at hs
          rw [if_neg n1] at hs
          generalize (nx [(x : Int), (y : Int)] (twL [(x : Int), (y : Int)] k)).d = z at *
          have n1' : (z == 1) = false := by simpa using n1
          replace hs := Lib.hid hs
          replace hC := Lib.hid hC
          clear d1 d2
          go_wp2
          go_roundw
          case rel => exact ⟨k + 1, by omega, by go_num, by rw [hs.out]; go_num, by first | rfl | trivial⟩
          case measure => simp [intOf]; omega
      · have hk' : k = m9 := by omega
        subst hk'
        have hfy' := hfy.out
        obtain ⟨C, hC⟩ : ∃ C, C = cnt [(x : Int), (y : Int)] k := ⟨_, rfl⟩
        rw [← hC] at hfy' hck ⊢
        replace hC := Lib.hid hC
        have hnn : (n == n) = true := by simp
        go_wp2_with fail
        refine (Sane_any _).mono ?_
        rintro e XA ⟨rfl, hbA⟩
        have hbel := bel_trans hbel3.out hbA
        go_wp2
        go_ret
        exact ⟨rfl, hbel⟩
theorem u8_range {x : Int} (h : (Lit.int .u8 x).wf = true) : 0 ≤ x ∧ x ≤ 255 := bounds_u8 h
theorem walk (a b m : Int) (w : World) (ha : 0 ≤ a ∧ a ≤ 255) (hb : 0 ≤ b ∧ b ≤ 255) (hm : 0 ≤ m ∧ m ≤ 255) :
    Calls Try.prog 15 #[.int .u8 a, .int .u8 b, .int .u8 m] w fun e w' => e = .returned (.bool true) ∧ Below w.heap.size w w' := by
  obtain ⟨a', rfl⟩ := Int.eq_ofNat_of_zero_le ha.1
  obtain ⟨b', rfl⟩ := Int.eq_ofNat_of_zero_le hb.1
  obtain ⟨m', rfl⟩ := Int.eq_ofNat_of_zero_le hm.1
  exact inn a' b' m' w _ _ _ rfl rfl rfl (by omega) (by omega) (by omega)

/-! ### the row's step -/
set_option maxRecDepth 100000 in
theorem lifted (os : Os) (started : os.Started) (H : Type) (enc : TypeId × Value → H) :
    ReturnsInHanded {} Try.checked os 15 .any (Rows.tankTwosSpec.pre6 enc Try.prog Try.f15 Rows.tankTwosRow.domain false) (Rows.tankTwosSpec.post enc Try.prog Try.f15 false true false false) := by
  refine returnsInHanded_of_change (C := Try.checked) own started (by kernel_rfl) Try.func15
    (ChangeSpec.witness6 (enc := enc) (C := Try.checked) false ⟨#[], #[.int .u8 0, .int .u8 0, .int .u8 0], []⟩ 8 (by kernel_rfl) (by kernel_rfl) (by kernel_rfl) (by kernel_rfl)) ?_
  intro W base args ds gs before hval0 hW hcnd _
  have hval : ∀ (j : Nat) t v, Try.f15.params[j]? = some t → args[j]? = some v → Value.okWide Try.prog W .any base t v := hval0
  have hW' := hW
  obtain ⟨p, q, hA0, hV, rfl, hfz, hnd⟩ := hW
  have hA : DataW.TrodAll enc Try.prog W 0 (fun _ => true) true Try.f15.params.toList args.toList ds p := hA0
  rw [Try.params15] at hA hval
  obtain ⟨v0, vs0, d0, ds0, p0, q0, hargs, rfl, rfl, h0, r0⟩ := trodAll_cons hA
  obtain ⟨v1, vs1, d1, ds1, p1, q1, rfl, rfl, rfl, h1, r1⟩ := trodAll_cons r0
  obtain ⟨v2, vs2, d2, ds2, p2, q2, rfl, rfl, rfl, h2, r2⟩ := trodAll_cons r1
  obtain ⟨rfl, rfl, rfl⟩ := trodAll_nil r2
  obtain rfl : args = #[v0, v1, v2] := by cases args; simp_all
  obtain ⟨rfl, rfl⟩ := trodVars_none hV
  obtain ⟨a0, rfl, rfl, rfl, w0⟩ := open_int Try.underlying5 (hval 0 5 v0 rfl rfl) h0
  obtain ⟨a1, rfl, rfl, rfl, w1⟩ := open_int Try.underlying5 (hval 1 5 v1 rfl rfl) h1
  obtain ⟨a2, rfl, rfl, rfl, w2⟩ := open_int Try.underlying5 (hval 2 5 v2 rfl rfl) h2
  clear hA0 hval0
  refine (walk a0 a1 a2 W (u8_range w0) (u8_range w1) (u8_range w2)).mono fun e W' ⟨he, bel⟩ => ?_
  subst he
  exact ⟨_, rfl, _, _, _, [], _, [], hW', trodAll_mk1 (shut_bool Try.underlying4 _), (trodAll_cons_mk (shut_int Try.underlying5 w0) (trodAll_cons_mk (shut_int Try.underlying5 w1) (trodAll_cons_mk (shut_int Try.underlying5 w2) trodAll_mk0))), rfl, bel.frame _, fun h => by cases h⟩

theorem over : Rows.tankTwosRow.holds Try.pinned (OpenSpec.ofChange Rows.tankTwosSpec) :=
  OpenClaim.holds_of_wide 15 Try.f15 rfl rfl rfl rfl rfl rfl rfl ⟨rfl, rfl, rfl, rfl, rfl⟩ rfl rfl rfl rfl rfl (by kernel_rfl) Try.func15 (by kernel_rfl)
    (of_decide_eq_true (by kernel_rfl)) (by unfold Func.isWrapper; first | (rw [if_pos (by decide +kernel)]; kernel_rfl) | (rw [if_neg (by decide +kernel)]; exact ⟨rfl, rfl⟩))
    (fun os started H enc _ => lifted os started H enc)

/-- The statement. -/
theorem proved : Rows.TankTwosSaid := over
end Go.Proofs.Ytgonibieeimdoaa.lawTankTwos
