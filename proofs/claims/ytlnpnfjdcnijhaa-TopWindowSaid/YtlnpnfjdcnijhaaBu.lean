/-
  The first hour of windows taken together, and how many there are: the program's functions.
-/
import Derived.Test.YtlnpnfjdcnijhaaBt
namespace Go.Proofs.Ytlnpnfjdcnijhaa
open Go.RowKit Go.Deep M
set_option linter.unusedVariables false
set_option linter.unusedSimpArgs false
attribute [local go_sem high] run_fld

theorem togE_cases (D : List Wc) (fits : Bool) : togE D fits = 0 ∨ togE D fits = 2 ∨ togE D fits = 4 ∨ togE D fits = 50 := by
  unfold togE
  split <;> (try split) <;> (try split) <;> simp
theorem together_any (B : Nat) (A : Option Addr) (c : Nat) (D : List Wc) (fits : Bool) (w : World) (h : Wds w B A D) (hB : B ≤ w.heap.size) :
    Calls Try.prog 85 #[.slice A D.length c, .bool fits] w (TogR D fits w) := by
  cases hv : wnsB D 60 with
  | false =>
    have he : togE D fits = 50 := by unfold togE; rw [hv]; simp
    refine (together_bad B A c D fits 50 w h hB (by unfold errW; rw [hv]; simp) (.inr rfl)).mono ?_
    rintro e w' ⟨rfl, hb⟩
    exact ⟨0, .nilFunc, by rw [he], hb, fun _ => ⟨rfl, rfl⟩, fun h => by rw [he] at h; omega⟩
  | true =>
    cases hok : okB D fits with
    | false =>
      have he : togE D fits = 2 := by unfold togE; rw [hv, hok]; simp
      refine (together_bad B A c D fits 2 w h hB (by unfold errW; rw [hv, hok]; simp) (.inl rfl)).mono ?_
      rintro e w' ⟨rfl, hb⟩
      exact ⟨0, .nilFunc, by rw [he], hb, fun _ => ⟨rfl, rfl⟩, fun h => by rw [he] at h; omega⟩
    | true => exact together_good B A c D fits w h hB hv hok
/-- What is known where windows may be taken together. -/
theorem togE_zero {D : List Wc} {fits : Bool} (h : togE D fits = 0) : wnsB D 60 = true ∧ okB D fits = true ∧ 1 ≤ perT D D.length ∧ perT D D.length ≤ 100000 ∧ PerM (opT D D.length) (perT D D.length) := by
  unfold togE at h
  cases hv : wnsB D 60 with
  | false => rw [hv] at h; simp at h
  | true =>
    rw [hv] at h
    cases hok : okB D fits with
    | false => rw [hok] at h; simp at h
    | true =>
      rw [hok] at h
      simp only [if_true] at h
      have hp := perT_le hv D.length (Nat.le_refl _)
      refine ⟨rfl, rfl, hp.1, ?_, opT_per hv _ (Nat.le_refl _)⟩
      by_cases hb : 100000 < perT D D.length
      · rw [if_pos hb] at h; omega
      · omega

set_option maxRecDepth 100000 in
set_option maxHeartbeats 2000000 in
theorem count_any (p : Nat) (F : Value) (f : Int → Bool) (w : World) (hO : Opn w w.heap.size F f) (hp : p ≤ 1000000) :
    Calls Try.prog 87 #[.agg #[.int .i64 p, F]] w fun e w' => e = .returned (.int .i64 ((hrsL (fun j => f (j : Nat)) p).length : Nat)) ∧ Below w.heap.size w w' := by
  have hx := BxO.new w p F
  have hb0 := ba1 w (.cells #[.int .i64 p, F] 74)
  have hW : OpX w p F (w.alloc (.cells #[.int .i64 p, F] 74)) := ⟨hb0, hx⟩
  obtain ⟨g, caps, rfl, hen, hcall⟩ := hO
  have c0 := hx.c0
  have hyes := fun k => @hrsL_yes (fun j => f (j : Nat)) k
  have hno := fun k => @hrsL_no (fun j => f (j : Nat)) k
  have hle := fun k => hrsL_le (fun j => f (j : Nat)) k
  have hs1 : ∀ k : Nat, f (k : Nat) = true → (hrsL (fun j => f (j : Nat)) (k + 1)).length = (hrsL (fun j => f (j : Nat)) k).length + 1 := fun k h => by rw [hyes k h]; simp
  have hs2 : ∀ k : Nat, f (k : Nat) = false → (hrsL (fun j => f (j : Nat)) (k + 1)).length = (hrsL (fun j => f (j : Nat)) k).length := fun k h => by rw [hno k h]
  clear hyes hno
  replace hx := Lib.hid hx
  replace hb0 := Lib.hid hb0
  replace hW := Lib.hid hW
  replace hcall := Lib.hid hcall
  replace hle := Lib.hid hle
  replace hs1 := Lib.hid hs1
  replace hs2 := Lib.hid hs2
  go_enter Try.func87, Try.ntmps87
  go_wp2
  clear c0
  go_loopw [3, 7] (fun n i X => ∃ k : Nat, k ≤ p ∧ i = .int .i64 (k : Nat) ∧ n = .int .i64 ((hrsL (fun j => f (j : Nat)) k).length : Nat) ∧ OpX w p (.func (Fn.func g) #[] caps) X) (fun _ i _ => p - (intOf i).toNat)
  case atStart => exact ⟨0, Nat.zero_le _, rfl, rfl, hW.out⟩
  case round =>
    obtain ⟨k, hk, rfl, rfl, hX⟩ := hrel
    have c0 := hX.box.c0
    have c1 := hX.box.c1
    by_cases hlt : k < p
    · have hc := hcall.out wr hX.below hX.below.size (k : Nat) (by omega)
      have l1 := hle.out k
      cases hq : f (k : Nat) with
      | true =>
        rw [hq] at hc
        have hl := hs1.out k hq
        obtain ⟨L, hL⟩ : ∃ L, L = (hrsL (fun j => f (j : Nat)) k).length := ⟨_, rfl⟩
        rw [← hL] at hl l1 ⊢
        replace hL := Lib.hid hL
        replace hl := Lib.hid hl
        replace hc := Lib.hid hc
        replace hX := Lib.hid hX
        replace hq := Lib.hid hq
        go_wp2_with fail
        refine hc.out.mono ?_
        rintro e w1 ⟨rfl, hb⟩
        have hX1 := Lib.hid (hX.out.up hb)
        go_wp2
        go_roundw
        case rel => exact ⟨k + 1, by omega, by go_num, by rw [hl.out]; go_num, hX1.out⟩
        case measure => simp [intOf]; omega
      | false =>
        rw [hq] at hc
        have hl := hs2.out k hq
        obtain ⟨L, hL⟩ : ∃ L, L = (hrsL (fun j => f (j : Nat)) k).length := ⟨_, rfl⟩
        rw [← hL] at hl l1 ⊢
        replace hL := Lib.hid hL
        replace hl := Lib.hid hl
        replace hc := Lib.hid hc
        replace hX := Lib.hid hX
        replace hq := Lib.hid hq
        go_wp2_with fail
        refine hc.out.mono ?_
        rintro e w1 ⟨rfl, hb⟩
        have hX1 := Lib.hid (hX.out.up hb)
        go_wp2
        go_roundw
        case rel => exact ⟨k + 1, by omega, by go_num, by rw [hl.out], hX1.out⟩
        case measure => simp [intOf]; omega
    · have hk' : k = p := by omega
      subst hk'
      have hbe := hX.below
      replace hX := Lib.hid hX
      replace hbe := Lib.hid hbe
      go_wp2
      exact bodyPost_ret (v := .int .i64 ((hrsL (fun j => f (j : Nat)) k).length : Nat)) (by simp [results, Try.results87, go_sem]) rfl ⟨rfl, hbe.out⟩

/-- The first hour of windows taken together. -/
def firR (D : List Wc) (h : Int) : Int × Int := if togE D (hourB h) = 0 then nextO (perT D D.length) (opT D D.length) h else (0, togE D (hourB h))
/-- How many hours of windows taken together are open, and their period. -/
def numR (D : List Wc) : Int × Int × Int := if togE D true = 0 then (((hrsL (fun j => opT D D.length (j : Nat)) (perT D D.length)).length : Nat), (perT D D.length : Nat), 0) else (0, 0, togE D true)
theorem hourB_iff {h : Int} : hourB h = true ↔ 0 ≤ h ∧ h ≤ 1000000000 := by unfold hourB; simp

set_option maxRecDepth 100000 in
set_option maxHeartbeats 4000000 in
theorem First_any (B : Nat) (A : Option Addr) (c : Nat) (D : List Wc) (hour : Int) (w : World) (h : Wds w B A D) (hB : B ≤ w.heap.size) :
    Calls Try.prog 44 #[.slice A D.length c, .int .i64 hour] w fun e w' => e = .returned (.tuple #[.int .i64 (firR D hour).1, .int .i64 (firR D hour).2]) ∧ Below w.heap.size w w' := by
  have h63 := h.1
  have c64 := isHour_any hour w
  have c85 := together_any B A c D (hourB hour) w h hB
  unfold TogR at c85
  have hcs := togE_cases D (hourB hour)
  have hz := @togE_zero D (hourB hour)
  have hok : togE D (hourB hour) = 0 → 0 ≤ hour ∧ hour ≤ 1000000000 := fun h => by
    have := (hz h).2.1
    unfold okB at this
    rw [Bool.and_eq_true] at this
    exact hourB_iff.1 this.2
  have hbad : ¬ togE D (hourB hour) = 0 → firR D hour = (0, togE D (hourB hour)) := fun h => by unfold firR; rw [if_neg h]
  have hgood : togE D (hourB hour) = 0 → firR D hour = nextO (perT D D.length) (opT D D.length) hour := fun h => by unfold firR; rw [if_pos h]
  generalize hourB hour = fits at *
  obtain ⟨er, her⟩ : ∃ er, er = togE D fits := ⟨_, rfl⟩
  rw [← her] at hcs hz hok hbad hgood c85
  obtain ⟨n, hn⟩ : ∃ n, n = D.length := ⟨_, rfl⟩
  rw [← hn] at h63 c85 hz hgood ⊢
  replace hn := Lib.hid hn
  replace her := Lib.hid her
  replace c64 := Lib.hid c64
  replace c85 := Lib.hid c85
  by_cases h0 : er = 0
  · obtain ⟨_, _, p1, p2, _⟩ := hz h0
    have hR := hgood h0
    have hh := hok h0
    rw [hR]
    clear hz hok hbad hgood hcs
    subst h0
    generalize perT D n = p at *
    generalize opT D n = f at *
    have hnx : ∀ F X, Opn X X.heap.size F f → Calls Try.prog 68 #[.agg #[.int .i64 p, F], .int .i64 hour] X fun e w' => e = .returned (.tuple #[.int .i64 (nextO p f hour).1, .int .i64 (nextO p f hour).2]) ∧ Below X.heap.size X w' := fun F X hO => next_any X.heap.size p F f hour X hO (Nat.le_refl _) (by omega) hh
    obtain ⟨R, hRe⟩ : ∃ R, R = nextO p f hour := ⟨_, rfl⟩
    rw [← hRe] at hnx ⊢
    obtain ⟨R1, R2⟩ := R
    simp only [] at hnx ⊢
    replace hRe := Lib.hid hRe
    replace hR := Lib.hid hR
    replace hnx := Lib.hid hnx
    go_enter Try.func44, Try.ntmps44
    go_wp2_with fail
    refine c64.out.mono ?_
    rintro e X1 ⟨rfl, rfl⟩
    go_wp2_with fail
    refine c85.out.mono ?_
    rintro e X2 ⟨P, F, rfl, hb2, _, hg⟩
    obtain ⟨rfl, hO⟩ := hg (by simp)
    have hO' := hO
    obtain ⟨g, caps, rfl, _⟩ := hO
    clear hg
    have hb3 := ba1 X2 (.cells #[.int .i64 p, .func (Fn.func g) #[] caps] 74)
    have hbx := BxO.new X2 p (.func (Fn.func g) #[] caps)
    have f0 := hbx.c0
    have f1 := hbx.c1
    have k := Lib.hid (hnx.out _ _ (hO'.upp hb3))
    replace hO' := Lib.hid hO'
    replace hbx := Lib.hid hbx
    replace hb2 := Lib.hid hb2
    replace hb3 := Lib.hid hb3
    go_wp2_with fail
    refine k.out.mono ?_
    rintro e X3 ⟨rfl, hb4⟩
    have hz := bel_trans (bel_trans hb2.out hb3.out) hb4
    go_wp2
    exact bodyPost_ret (v := .tuple #[.int .i64 R1, .int .i64 R2]) (by simp [results, Try.results44, go_sem]) rfl ⟨rfl, hz⟩
  · have hR := hbad h0
    rw [hR]
    clear hz hok hbad hgood
    replace hR := Lib.hid hR
    replace hcs := Lib.hid hcs
    simp only []
    go_enter Try.func44, Try.ntmps44
    go_wp2_with fail
    refine c64.out.mono ?_
    rintro e X1 ⟨rfl, rfl⟩
    go_wp2_with fail
    refine c85.out.mono ?_
    rintro e X2 ⟨P, F, rfl, hb2, hg, _⟩
    obtain ⟨rfl, rfl⟩ := hg h0
    have hb3 := ba1 X2 (.cells #[.int .i64 0, .nilFunc] 74)
    have hz := bel_trans hb2 hb3
    clear hg
    replace hb2 := Lib.hid hb2
    replace hb3 := Lib.hid hb3
    replace hz := Lib.hid hz
    go_wp2
    exact bodyPost_ret (v := .tuple #[.int .i64 0, .int .i64 er]) (by simp [results, Try.results44, go_sem]) rfl ⟨rfl, hz.out⟩
end Go.Proofs.Ytlnpnfjdcnijhaa
