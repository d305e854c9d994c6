/-
  The hours of a window, Open and Next: the specification's functions.
-/
import Derived.Test.YtlnpnfjdcnijhaaR
namespace Go.Proofs.Ytlnpnfjdcnijhaa
open Go.RowKit Go.Deep M
set_option linter.unusedVariables false
set_option linter.unusedSimpArgs false

/-- What hours hands back. -/
def HrsR (w : World) (p : Nat) (f : Nat → Bool) (e : Ending) (w' : World) : Prop := ∃ g, e = .returned (.slice (some ⟨g, 0, none⟩) p p) ∧ Below w.heap.size w w' ∧ BlB w' g p f ∧ w.heap.size ≤ g
structure HrW (w : World) (p n c : Nat) (A : Option Addr) (f : Nat → Bool) (X : World) : Prop where
  below : Below w.heap.size w X
  b1 : BxW X w.heap.size p A n c
  b4 : BlB X (w.heap.size + 1) p f
theorem hrW_new (w : World) (p n c : Nat) (A : Option Addr) : HrW w p n c A (fun _ => false) (mkB (w.alloc (.cells #[.int .i64 p, .slice A n c] 24)) p) := by
  have hb := ba1 w (.cells #[.int .i64 p, .slice A n c] 24)
  have h2 := mkB_below (w.alloc (.cells #[.int .i64 p, .slice A n c] 24)) p
  have h3 := mkB_blk (w.alloc (.cells #[.int .i64 p, .slice A n c] 24)) p
  rw [show (w.alloc (.cells #[.int .i64 p, .slice A n c] 24)).heap.size = w.heap.size + 1 by simp] at h3
  exact ⟨hb.trans (h2.mono hb.size), (BxW.new w p A n c).up h2, h3⟩
theorem HrW.set {w X : World} {p n c : Nat} {A : Option Addr} {f : Nat → Bool} (h : HrW w p n c A f X) {j : Nat} (hj : j < p) : HrW w p n c A (fun i => if i = j then true else f i) (X.setCell ⟨w.heap.size + 1, j, none⟩ (.bool true)) :=
  ⟨h.below.setCell (Nat.le_succ _) _, h.b1.to (setCell_far (show w.heap.size ≠ w.heap.size + 1 by omega)), h.b4.set hj true⟩
theorem HrW.congr {w X : World} {p n c : Nat} {A : Option Addr} {f f' : Nat → Bool} (h : HrW w p n c A f X) (e : ∀ i, i < p → f i = f' i) : HrW w p n c A f' X := ⟨h.below, h.b1, h.b4.congr e⟩

set_option maxRecDepth 100000 in
set_option maxHeartbeats 4000000 in
theorem hours_ref (B : Nat) (A : Option Addr) (c : Nat) (x : Wn) (p : Nat) (w : World) (h : Row w B A x.hs) (hB : B ≤ w.heap.size) (hv : winB x 3600 = true) (hp : x.p = (p : Int)) :
    Calls Try.prog 67 #[wnV p A x.hs.length c] w (HrsR w p (opN x x.hs.length)) := by
  obtain ⟨⟨p1, p2⟩, hg⟩ := winB_iff.1 hv
  have h63 := h.1
  unfold wnV
  rw [hp] at p1 p2
  have hx := BxW.new w p A x.hs.length c
  have c0 := hx.c0
  have hW := hrW_new w p x.hs.length c A
  have c1 := hW.b1.c1
  have hmk := fun W => run_mkB W p (by omega)
  have hms : (mkB (w.alloc (.cells #[.int .i64 (p : Int), .slice A x.hs.length c] 24)) p).heap.size = w.heap.size + 1 + 1 := by rw [mkB_size]; simp
  replace hW := Lib.hid hW
  replace hg := Lib.hid hg
  replace hx := Lib.hid hx
  go_enter Try.func67, Try.ntmps67
  go_wp2_with fail
  clear hmk hms c0 c1 hx
  go_loopw [12] (fun v X => ∃ k : Nat, k ≤ x.hs.length ∧ v = .int .i64 (k : Nat) ∧ HrW w p x.hs.length c A (opN x k) X) (fun v _ => x.hs.length - (intOf v).toNat)
  case atStart => exact ⟨0, Nat.zero_le _, rfl, hW.out.congr fun i _ => (opN_zero x i).symm⟩
  case round =>
    obtain ⟨k, hk, rfl, hX⟩ := hrel
    by_cases hlt : k < x.hs.length
    · have hr := h.below (hX.below.mono hB)
      obtain ⟨b, o, rfl, hb, hc⟩ := hr.at_ k hlt
      have hz0 := gds_pos hg.out k hlt
      have hz1 := (hg.out k hlt).2
      obtain ⟨z, hz⟩ := Int.eq_ofNat_of_zero_le hz0
      have hs := opN_succ hz
      rw [hz] at hc hz1
      rw [hp] at hz1
      have hzp : z < p := by omega
      have hzc := hX.b4.cell hzp
      have hzf := hX.b4.fz z
      have hY := (hX.set hzp).congr (f' := opN x (k + 1)) fun i _ => (hs i).symm
      have hlt4 := hX.b4.lt
      clear hz0 hs
      replace hX := Lib.hid hX
      replace hr := Lib.hid hr
      replace hz := Lib.hid hz
      replace hY := Lib.hid hY
      go_wp2
      go_roundw
      case rel => exact ⟨k + 1, by omega, by go_num, hY.out⟩
      case measure => simp [intOf]; omega
    · have hk' : k = x.hs.length := by omega
      subst hk'
      replace hX := Lib.hid hX
      go_wp2
      go_ret
      exact ⟨w.heap.size + 1, rfl, hX.out.below, hX.out.b4, by omega⟩
/-- What the specification asks of a window first. -/
theorem wide_on {B : Nat} {A : Option Addr} {c : Nat} {x : Wn} {w X : World} (h : Row w B A x.hs) (hB : B ≤ w.heap.size) (hX : OnW w x.p A x.hs.length c X) :
    Calls Try.prog 58 #[wnV x.p A x.hs.length c] X fun e w' => e = .returned (.bool (winB x 3600)) ∧ OnW w x.p A x.hs.length c w' :=
  (Wide_ref B A c x X (h.below (hX.below.mono hB)) (Nat.le_trans hB hX.below.size)).mono fun e w' ⟨he, hb⟩ => ⟨he, hX.up hb⟩

set_option maxRecDepth 100000 in
set_option maxHeartbeats 2000000 in
theorem Next_ref (B : Nat) (A : Option Addr) (c : Nat) (x : Wn) (hour : Int) (w : World) (h : Row w B A x.hs) (hB : B ≤ w.heap.size) :
    Calls Try.prog 23 #[wnV x.p A x.hs.length c, .int .i64 hour] w fun e w' => e = .returned (.tuple #[.int .i64 (nextR x hour).1, .int .i64 (nextR x hour).2]) ∧ Below w.heap.size w w' := by
  have h63 := h.1
  have hW := onW_new w x.p A x.hs.length c
  have c66 := fun W => isHour_ref hour W
  have c58 := wide_on h hB hW
  have hbad : winB x 3600 = false → nextR x hour = (0, 50) := fun hv => by unfold nextR; rw [hv]; simp
  have harg : winB x 3600 = true → hourB hour = false → nextR x hour = (0, 2) := fun hv hh => by unfold nextR; rw [hv, hh]; simp
  have hgood : winB x 3600 = true → hourB hour = true → nextR x hour = nextO x.p.toNat (opB x) hour := fun hv hh => by unfold nextR; rw [hv, hh]; simp
  generalize nextR x hour = R at *
  obtain ⟨R1, R2⟩ := R
  have c0 := hW.box.c0
  have c1 := hW.box.c1
  replace hW := Lib.hid hW
  cases hv : winB x 3600 with
  | false =>
    have hR := hbad hv
    obtain ⟨rfl, rfl⟩ : R1 = 0 ∧ R2 = 50 := by simpa using hR
    rw [hv] at c58
    clear hR hbad harg hgood
    unfold wnV at *
    replace hv := Lib.hid hv
    replace c58 := Lib.hid c58
    replace c66 := Lib.hid c66
    go_enter Try.func23, Try.ntmps23
    go_wp2_with fail
    refine c58.out.mono ?_
    rintro e X1 ⟨rfl, hX1⟩
    go_wp2
    exact bodyPost_ret (v := .tuple #[.int .i64 0, .int .i64 50]) (by simp [results, Try.results23, go_sem]) rfl ⟨rfl, hX1.below⟩
  | true =>
    rw [hv] at c58
    cases hh : hourB hour with
    | false =>
      have hR := harg hv hh
      obtain ⟨rfl, rfl⟩ : R1 = 0 ∧ R2 = 2 := by simpa using hR
      rw [hh] at c66
      clear hR hbad harg hgood
      unfold wnV at *
      replace hv := Lib.hid hv
      replace hh := Lib.hid hh
      replace c58 := Lib.hid c58
      replace c66 := Lib.hid c66
      go_enter Try.func23, Try.ntmps23
      go_wp2_with fail
      refine c58.out.mono ?_
      rintro e X1 ⟨rfl, hX1⟩
      go_wp2_with fail
      refine (c66.out _).mono ?_
      rintro e X2 ⟨rfl, rfl⟩
      go_wp2
      exact bodyPost_ret (v := .tuple #[.int .i64 0, .int .i64 2]) (by simp [results, Try.results23, go_sem]) rfl ⟨rfl, hX1.below⟩
    | true =>
      have hR := hgood hv hh
      rw [hh] at c66
      obtain ⟨⟨p1, p2⟩, _⟩ := winB_iff.1 hv
      obtain ⟨p, hp⟩ := Int.eq_ofNat_of_zero_le (show 0 ≤ x.p by omega)
      have hqq := hh
      unfold hourB at hqq
      simp only [Bool.and_eq_true, decide_eq_true_eq] at hqq
      obtain ⟨hq0, hq9⟩ := hqq
      have c67 : ∀ X, OnW w x.p A x.hs.length c X → _ := fun X hX => hours_ref B A c x p X (h.below (hX.below.mono hB)) (Nat.le_trans hB hX.below.size) hv hp
      rw [hp, Int.toNat_natCast] at hR
      have hyes := fun k (hk : k < p) (hn : ∀ j : Nat, j < k → opB x (hour + j) = false) (hh : opB x (hour + k) = true) => show nextO p (opB x) hour = (hour + k, 0) by unfold nextO; rw [fstO_some hk hh hn]
      have hno := fun (hn : ∀ j : Nat, j < p → opB x (hour + j) = false) => show nextO p (opB x) hour = (0, 5) by unfold nextO; rw [fstO_none hn]
      have hopq : ∀ (z : Int) (j : Nat), z % (p : Int) = (j : Int) → opN x x.hs.length j = opB x z := fun z j hj => (opB_eq (by rw [hp]; exact hj)).symm
      rw [← hR] at hyes hno
      rw [hp] at c0 c58 p1 p2 ⊢
      clear hR hbad harg hgood
      rw [hp] at c67
      unfold wnV at *
      replace hp := Lib.hid hp
      replace hv := Lib.hid hv
      replace hh := Lib.hid hh
      replace c58 := Lib.hid c58
      replace c66 := Lib.hid c66
      replace c67 := Lib.hid c67
      replace hyes := Lib.hid hyes
      replace hno := Lib.hid hno
      replace hopq := Lib.hid hopq
      go_enter Try.func23, Try.ntmps23
      go_wp2_with fail
      refine c58.out.mono ?_
      rintro e X1 ⟨rfl, hX1⟩
      have f0 := hX1.box.c0
      have f1 := hX1.box.c1
      rw [← hp.out] at hX1
      replace hX1 := Lib.hid hX1
      go_wp2_with fail
      refine (c66.out _).mono ?_
      rintro e X2 ⟨rfl, rfl⟩
      go_wp2_with fail
      refine (c67.out _ (by rw [← hp.out]; exact hX1.out)).mono ?_
      rintro e X3 ⟨g, rfl, hb3, hblk, hge⟩
      have hX3 := hX1.out.up hb3
      have g0 := hX3.box.c0
      have g1 := hX3.box.c1
      rw [hp.out] at g0
      have hgl := hblk.lt
      replace hX1 := Lib.hid hX1
      replace hX3 := Lib.hid hX3
      replace hb3 := Lib.hid hb3
      replace hblk := Lib.hid hblk
      clear f0 f1
      go_wp2
      go_loop [18] (fun v => ∃ k : Nat, k ≤ p ∧ v = .int .i64 (k : Nat) ∧ ∀ j : Nat, j < k → opB x (hour + j) = false) (fun v => p - (intOf v).toNat)
      case atStart => exact ⟨0, Nat.zero_le _, rfl, fun j hj => absurd hj (Nat.not_lt_zero _)⟩
      case round =>
        obtain ⟨k, hk, rfl, hj⟩ := hrel
        by_cases hlt : k < p
        · have m0 := Int.emod_nonneg (hour + k) (show (p : Int) ≠ 0 by omega)
          have m1 := Int.emod_lt_of_pos (hour + k) (show (0 : Int) < p by omega)
          obtain ⟨z, hz⟩ := Int.eq_ofNat_of_zero_le m0
          rw [hz] at m1
          have hzp : z < p := by omega
          have hcell := hblk.out.cell hzp
          rw [hopq.out _ _ hz] at hcell
          have hp0 : ¬ ((p : Int) = 0) := by omega
          clear m0 m1
          cases hq : opB x (hour + k) with
          | true =>
            rw [hq] at hcell
            have hR := hyes.out k hlt hj hq
            obtain ⟨rfl, rfl⟩ : R1 = hour + k ∧ R2 = 0 := by simpa using hR
            clear hR
            replace hj := Lib.hid hj
            replace hq := Lib.hid hq
            go_wp2
            exact bodyPost_ret (v := .tuple #[.int .i64 (hour + k), .int .i64 0]) (by simp [results, Try.results23, go_sem]) rfl ⟨rfl, hX3.out.below⟩
          | false =>
            rw [hq] at hcell
            have hs : ∀ j : Nat, j < k + 1 → opB x (hour + j) = false := fun j hj' => by
              rcases Nat.lt_succ_iff_lt_or_eq.1 hj' with h' | rfl
              · exact hj j h'
              · exact hq
            replace hs := Lib.hid hs
            replace hj := Lib.hid hj
            replace hq := Lib.hid hq
            go_wp2
            go_round
            case rel => exact ⟨k + 1, by omega, by go_num, hs.out⟩
            case measure => simp [intOf]; omega
        · have hR := hno.out fun j hjp => hj j (by omega)
          obtain ⟨rfl, rfl⟩ : R1 = 0 ∧ R2 = 5 := by simpa using hR
          clear hR
          replace hj := Lib.hid hj
          go_wp2
          exact bodyPost_ret (v := .tuple #[.int .i64 0, .int .i64 5]) (by simp [results, Try.results23, go_sem]) rfl ⟨rfl, hX3.out.below⟩
set_option maxRecDepth 100000 in
set_option maxHeartbeats 2000000 in
theorem Open_ref (B : Nat) (A : Option Addr) (c : Nat) (x : Wn) (hour : Int) (w : World) (h : Row w B A x.hs) (hB : B ≤ w.heap.size) :
    Calls Try.prog 21 #[wnV x.p A x.hs.length c, .int .i64 hour] w fun e w' => e = .returned (.tuple #[.bool (openR x hour).1, .int .i64 (openR x hour).2]) ∧ Below w.heap.size w w' := by
  have h63 := h.1
  have hW := onW_new w x.p A x.hs.length c
  have c66 := fun W => isHour_ref hour W
  have c58 := wide_on h hB hW
  have hbad : winB x 3600 = false → openR x hour = (false, 50) := fun hv => by unfold openR; rw [hv]; simp
  have harg : winB x 3600 = true → hourB hour = false → openR x hour = (false, 2) := fun hv hh => by unfold openR; rw [hv, hh]; simp
  have hgood : winB x 3600 = true → hourB hour = true → openR x hour = (opB x hour, 0) := fun hv hh => by unfold openR; rw [hv, hh]; simp
  generalize openR x hour = R at *
  obtain ⟨R1, R2⟩ := R
  have c0 := hW.box.c0
  have c1 := hW.box.c1
  replace hW := Lib.hid hW
  cases hv : winB x 3600 with
  | false =>
    have hR := hbad hv
    obtain ⟨rfl, rfl⟩ : R1 = false ∧ R2 = 50 := by simpa using hR
    rw [hv] at c58
    clear hR hbad harg hgood
    unfold wnV at *
    replace hv := Lib.hid hv
    replace c58 := Lib.hid c58
    replace c66 := Lib.hid c66
    go_enter Try.func21, Try.ntmps21
    go_wp2_with fail
    refine c58.out.mono ?_
    rintro e X1 ⟨rfl, hX1⟩
    go_wp2
    exact bodyPost_ret (v := .tuple #[.bool false, .int .i64 50]) (by simp [results, Try.results21, go_sem]) rfl ⟨rfl, hX1.below⟩
  | true =>
    rw [hv] at c58
    cases hh : hourB hour with
    | false =>
      have hR := harg hv hh
      obtain ⟨rfl, rfl⟩ : R1 = false ∧ R2 = 2 := by simpa using hR
      rw [hh] at c66
      clear hR hbad harg hgood
      unfold wnV at *
      replace hv := Lib.hid hv
      replace hh := Lib.hid hh
      replace c58 := Lib.hid c58
      replace c66 := Lib.hid c66
      go_enter Try.func21, Try.ntmps21
      go_wp2_with fail
      refine c58.out.mono ?_
      rintro e X1 ⟨rfl, hX1⟩
      go_wp2_with fail
      refine (c66.out _).mono ?_
      rintro e X2 ⟨rfl, rfl⟩
      go_wp2
      exact bodyPost_ret (v := .tuple #[.bool false, .int .i64 2]) (by simp [results, Try.results21, go_sem]) rfl ⟨rfl, hX1.below⟩
    | true =>
      have hR := hgood hv hh
      rw [hh] at c66
      obtain ⟨⟨p1, p2⟩, _⟩ := winB_iff.1 hv
      obtain ⟨p, hp⟩ := Int.eq_ofNat_of_zero_le (show 0 ≤ x.p by omega)
      have hqq := hh
      unfold hourB at hqq
      simp only [Bool.and_eq_true, decide_eq_true_eq] at hqq
      obtain ⟨hq0, hq9⟩ := hqq
      have c67 : ∀ X, OnW w x.p A x.hs.length c X → _ := fun X hX => hours_ref B A c x p X (h.below (hX.below.mono hB)) (Nat.le_trans hB hX.below.size) hv hp
      obtain ⟨rfl, rfl⟩ : R1 = opB x hour ∧ R2 = 0 := by simpa using hR
      have m0 := Int.emod_nonneg hour (show (p : Int) ≠ 0 by omega)
      have m1 := Int.emod_lt_of_pos hour (show (0 : Int) < p by omega)
      obtain ⟨z, hz⟩ := Int.eq_ofNat_of_zero_le m0
      rw [hz] at m1
      have hzp : z < p := by omega
      have hopq : opN x x.hs.length z = opB x hour := (opB_eq (by rw [hp]; exact hz)).symm
      have hp0 : ¬ ((p : Int) = 0) := by omega
      generalize opB x hour = R1 at *
      rw [hp] at c0 c58 p1 p2 ⊢
      clear hR hbad harg hgood m0 m1
      rw [hp] at c67
      unfold wnV at *
      replace hp := Lib.hid hp
      replace hv := Lib.hid hv
      replace hh := Lib.hid hh
      replace c58 := Lib.hid c58
      replace c66 := Lib.hid c66
      replace c67 := Lib.hid c67
      replace hopq := Lib.hid hopq
      go_enter Try.func21, Try.ntmps21
      go_wp2_with fail
      refine c58.out.mono ?_
      rintro e X1 ⟨rfl, hX1⟩
      have f0 := hX1.box.c0
      have f1 := hX1.box.c1
      rw [← hp.out] at hX1
      have hXd := hX1.drew
      have k0 := hXd.cells
      rw [hp.out] at k0
      obtain ⟨k01, k02⟩ := k0
      replace hX1 := Lib.hid hX1
      replace hXd := Lib.hid hXd
      go_wp2_with fail
      refine (c66.out _).mono ?_
      rintro e X2 ⟨rfl, rfl⟩
      go_wp2_with fail
      go_region_with (first | (go_at_call 67; refine (c67.out _ (by rw [← hp.out]; exact hXd.out)).mono ?_; rintro _ X3 ⟨g, rfl, hb3, hblk, hge⟩; have hX3 := hXd.out.up hb3; have k1 := hX3.cells; rw [hp.out] at k1; obtain ⟨k11, k12⟩ := k1; have hcell := hblk.cell hzp; rw [hopq.out] at hcell; have hgl := hblk.lt; replace hblk := Lib.hid hblk; replace hb3 := Lib.hid hb3))
      all_goals
        go_wp2
        exact bodyPost_ret (v := .tuple #[.bool R1, .int .i64 0]) (by simp [results, Try.results21, go_sem]) rfl ⟨rfl, hX3.below⟩
end Go.Proofs.Ytlnpnfjdcnijhaa
