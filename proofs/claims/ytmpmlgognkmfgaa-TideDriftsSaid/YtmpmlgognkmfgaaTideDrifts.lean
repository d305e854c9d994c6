/-
  For every tide, hour and numbers of hours, the law TideDrifts returns true: the drift over a round is Net, and drifts add up.
  Conditions: none.
-/
import Derived.Test.YtmpmlgognkmfgaaAwake
import Derived.Test.YtmpmlgognkmfgaaOpen
namespace Go.Proofs.Ytmpmlgognkmfgaa.lawTideDrifts
open Go.ChangeShapes Go.WideShapes Go.ChangeAt Go.RowKit Go.Deep Go.Proofs.Ytmpmlgognkmfgaa M
set_option linter.unusedVariables false
set_option linter.unusedSimpArgs false

/-- The ways out at once: a tide that is too wide, one that is not valid, an hour that is none. -/
def Out (T : List (List Int)) (t n : Int) : Prop := wideB T = true ∨ (wideB T = false ∧ validB T = false) ∨ (wideB T = false ∧ validB T = true ∧ hourB t = false) ∨ (wideB T = false ∧ validB T = true ∧ hourB t = true ∧ hourB (t + n) = false)

set_option maxHeartbeats 2000000 in
theorem out (A : Option Addr) (c : Nat) (T : List (List Int)) (t n m : Int) (w : World) (h : Mat w w.heap.size A T) (hn : 0 ≤ n ∧ n ≤ 65535) (ho : Out T t n) :
    Calls Try.prog 9 #[.slice A T.length c, .int .i64 t, .int .u16 n, .int .u16 m] w fun e w' => e = .returned (.bool true) ∧ Below w.heap.size w w' := by
  obtain ⟨n1, n2⟩ := hn
  rcases ho with hw | ⟨hw, hv⟩ | ⟨hw, hv, ha⟩ | ⟨hw, hv, ha, hb⟩
  · replace hw := Lib.hid hw
    go_enter Try.func9, Try.ntmps9
    go_wp2_with fail
    refine (wide_any _ A c T w h).mono ?_
    rintro e w' ⟨rfl, rfl⟩
    rw [hw.out]
    go_wp2_with fail
    refine (awake_any _).mono ?_
    rintro e w' ⟨rfl, hb⟩
    go_wp2
    go_ret
    exact ⟨rfl, hb⟩
  · replace hw := Lib.hid hw
    replace hv := Lib.hid hv
    go_enter Try.func9, Try.ntmps9
    go_wp2_with fail
    refine (wide_any _ A c T w h).mono ?_
    rintro e w' ⟨rfl, rfl⟩
    rw [hw.out]
    go_wp2_with fail
    refine (valid_ref _ A c T w h).mono ?_
    rintro e w' ⟨rfl, rfl⟩
    rw [hv.out]
    go_wp2_with fail
    refine (awake_any _).mono ?_
    rintro e w' ⟨rfl, hb⟩
    go_wp2
    go_ret
    exact ⟨rfl, hb⟩
  · replace hw := Lib.hid hw
    replace hv := Lib.hid hv
    replace ha := Lib.hid ha
    go_enter Try.func9, Try.ntmps9
    go_wp2_with fail
    refine (wide_any _ A c T w h).mono ?_
    rintro e w' ⟨rfl, rfl⟩
    rw [hw.out]
    go_wp2_with fail
    refine (valid_ref _ A c T w h).mono ?_
    rintro e w' ⟨rfl, rfl⟩
    rw [hv.out]
    go_wp2_with fail
    refine (isHour_ref _ _).mono ?_
    rintro e w' ⟨rfl, rfl⟩
    rw [ha.out]
    go_wp2_with fail
    refine (awake_any _).mono ?_
    rintro e w' ⟨rfl, hb⟩
    go_wp2
    go_ret
    exact ⟨rfl, hb⟩
  · have hh := of_hourB ha
    obtain ⟨t1, t2⟩ := hh
    replace hw := Lib.hid hw
    replace hv := Lib.hid hv
    replace ha := Lib.hid ha
    replace hb := Lib.hid hb
    go_enter Try.func9, Try.ntmps9
    go_wp2_with fail
    refine (wide_any _ A c T w h).mono ?_
    rintro e w' ⟨rfl, rfl⟩
    rw [hw.out]
    go_wp2_with fail
    refine (valid_ref _ A c T w h).mono ?_
    rintro e w' ⟨rfl, rfl⟩
    rw [hv.out]
    go_wp2_with fail
    refine (isHour_ref _ _).mono ?_
    rintro e w' ⟨rfl, rfl⟩
    rw [ha.out]
    go_wp2_with fail
    refine (isHour_ref _ _).mono ?_
    rintro e w' ⟨rfl, rfl⟩
    rw [hb.out]
    go_wp2_with fail
    refine (awake_any _).mono ?_
    rintro e w' ⟨rfl, hb⟩
    go_wp2
    go_ret
    exact ⟨rfl, hb⟩

/-- A drift of a valid tide, from an hour. -/
theorem dOK {A : Option Addr} {c : Nat} {T : List (List Int)} {w : World} (h : Mat w w.heap.size A T) (hv : Val T) (f : Int) (hf : hourB f = true) (x : Int) (k : Nat) (v : Int) (hx : x = k) (hk : k ≤ 1000000) (hd : drf T f k = v) :
    ∀ W, Below w.heap.size w W → Calls Try.prog 19 #[.slice A T.length c, .int .i64 f, .int .i64 x] W fun e w' => e = .returned (.tuple #[.int .i64 v, .int .i64 0]) ∧ Below w.heap.size w w' := fun W hb => by
  subst hx
  refine (Drift_any w.heap.size A c T f k W (h.below hb) hb.size).mono fun e w' ⟨he, hb'⟩ => ⟨?_, hb.trans (hb'.mono hb.size)⟩
  have : driftR T f k = (v, 0) := by unfold driftR; rw [validB_true hv, hf, spanB_true (by omega)]; simp [two, hd]
  rw [he, this]; rfl

set_option maxHeartbeats 4000000 in
theorem inn (A : Option Addr) (c : Nat) (T : List (List Int)) (t : Int) (n m : Nat) (w : World) (h : Mat w w.heap.size A T) (hn : n ≤ 65535) (hm : m ≤ 65535) (hw : wideB T = false) (hv : validB T = true) (ha : hourB t = true) (hb : hourB (t + n) = true) :
    Calls Try.prog 9 #[.slice A T.length c, .int .i64 t, .int .u16 n, .int .u16 m] w fun e w' => e = .returned (.bool true) ∧ Below w.heap.size w w' := by
  have hV := val_of hv
  obtain ⟨t1, t2⟩ := of_hourB ha
  obtain ⟨r1, r2⟩ := rnd_bound hV
  have cR : ∀ W, Below w.heap.size w W → Calls Try.prog 23 #[.slice A T.length c] W fun e w' => e = .returned (.tuple #[.int .i64 (rnd T), .int .i64 0]) ∧ Below w.heap.size w w' := fun W hb =>
    (Round_any w.heap.size A c T W (h.below hb)).mono fun e w' ⟨he, hb'⟩ => ⟨by rw [he]; unfold roundR; rw [hv]; rfl, hb.trans (hb'.mono hb.size)⟩
  have cN : ∀ W, Below w.heap.size w W → Calls Try.prog 25 #[.slice A T.length c] W fun e w' => e = .returned (.tuple #[.int .i64 (drf T 0 (rnd T)), .int .i64 0]) ∧ Below w.heap.size w w' := fun W hb =>
    (Net_any w.heap.size A c T W (h.below hb)).mono fun e w' ⟨he, hb'⟩ => ⟨by rw [he]; unfold netR; rw [hv]; rfl, hb.trans (hb'.mono hb.size)⟩
  have hmod : n % rnd T ≤ 1000000 := by have := Nat.mod_le n (rnd T); omega
  have eA : drf T t n = (n : Int) / (rnd T : Int) * drf T 0 (rnd T) + drf T t (n % rnd T) := by rw [drf_round T t n]; simp
  have eC : drf T t (n + m) = (n : Int) / (rnd T : Int) * drf T 0 (rnd T) + drf T t (n % rnd T) + drf T (t + n) m := by rw [← eA]; exact sg_add _ _ _ _
  have cO := dOK (c := c) h hV t ha (rnd T) (rnd T) (drf T 0 (rnd T)) rfl (by omega) (sg_any _ _ _ _ (fun x => spd_period T x _ (Nat.dvd_refl _)))
  have cA := dOK (c := c) h hV t ha n n _ rfl (by omega) eA
  have cB := dOK (c := c) h hV (t + n) hb m m _ rfl (by omega) rfl
  have cC := dOK (c := c) h hV t ha ((n : Int) + m) (n + m) _ (by simp) (by omega) eC
  have cL := dOK (c := c) h hV t ha ((n : Int) % (rnd T : Int)) (n % rnd T) _ (by simp) hmod rfl
  obtain ⟨p1, p2⟩ := far_parts hV t n (by omega)
  obtain ⟨q1, q2⟩ := quo_range n (rnd T) (by omega)
  obtain ⟨l1, l2⟩ := drf_bd hV t (n % rnd T) hmod
  obtain ⟨b1, b2⟩ := drf_bd hV (t + n) m (by omega)
  obtain ⟨o1, o2⟩ := drf_bd hV 0 (rnd T) (by omega)
  clear eA eC hV hmod
  generalize drf T t (n % rnd T) = xl at *
  generalize drf T (t + n) m = xb at *
  generalize drf T 0 (rnd T) = xn at *
  generalize rnd T = r at *
  replace cR := Lib.hid cR
  replace cN := Lib.hid cN
  replace cO := Lib.hid cO
  replace cA := Lib.hid cA
  replace cB := Lib.hid cB
  replace cC := Lib.hid cC
  replace cL := Lib.hid cL
  replace hw := Lib.hid hw
  replace hv := Lib.hid hv
  replace ha := Lib.hid ha
  replace hb := Lib.hid hb
  have hr : 1 ≤ (r : Int) := by omega
  go_enter Try.func9, Try.ntmps9
  go_wp2_with fail
  refine (wide_any _ A c T w h).mono ?_
  rintro e w' ⟨rfl, rfl⟩
  rw [hw.out]
  go_wp2_with fail
  refine (valid_ref _ A c T w h).mono ?_
  rintro e w' ⟨rfl, rfl⟩
  rw [hv.out]
  go_wp2_with fail
  refine (isHour_ref _ _).mono ?_
  rintro e w' ⟨rfl, rfl⟩
  rw [ha.out]
  go_wp2_with fail
  refine (isHour_ref _ _).mono ?_
  rintro e w' ⟨rfl, rfl⟩
  rw [hb.out]
  go_wp2_with fail
  refine (cR.out _ (Below.refl _ _)).mono ?_
  rintro e w1 ⟨rfl, hb1⟩
  go_wp2_with fail
  refine (cN.out _ hb1).mono ?_
  rintro e w2 ⟨rfl, hb2⟩
  go_wp2_with fail
  refine (cO.out _ hb2).mono ?_
  rintro e w3 ⟨rfl, hb3⟩
  go_wp2_with fail
  refine (cA.out _ hb3).mono ?_
  rintro e w4 ⟨rfl, hb4⟩
  go_wp2_with fail
  refine (cB.out _ hb4).mono ?_
  rintro e w5 ⟨rfl, hb5⟩
  go_wp2_with fail
  refine (cC.out _ hb5).mono ?_
  rintro e w6 ⟨rfl, hb6⟩
  go_wp2_with fail
  refine (cL.out _ hb6).mono ?_
  rintro e w7 ⟨rfl, hb7⟩
  go_wp2_with fail
  refine (awake_any _).mono ?_
  rintro e w8 ⟨rfl, hb8⟩
  go_wp2
  go_ret
  exact ⟨rfl, hb7.trans (hb8.mono hb7.size)⟩

theorem walk (A : Option Addr) (c : Nat) (T : List (List Int)) (t n m : Int) (w : World) (h : Mat w w.heap.size A T) (ht : -9223372036854775808 ≤ t ∧ t ≤ 9223372036854775807) (hn : 0 ≤ n ∧ n ≤ 65535) (hm : 0 ≤ m ∧ m ≤ 65535) :
    Calls Try.prog 9 #[.slice A T.length c, .int .i64 t, .int .u16 n, .int .u16 m] w fun e w' => e = .returned (.bool true) ∧ Below w.heap.size w w' := by
  cases hw : wideB T with
  | true => exact out A c T t n m w h hn (.inl hw)
  | false =>
    cases hv : validB T with
    | false => exact out A c T t n m w h hn (.inr (.inl ⟨hw, hv⟩))
    | true =>
      cases ha : hourB t with
      | false => exact out A c T t n m w h hn (.inr (.inr (.inl ⟨hw, hv, ha⟩)))
      | true =>
        cases hb : hourB (t + n) with
        | false => exact out A c T t n m w h hn (.inr (.inr (.inr ⟨hw, hv, ha, hb⟩)))
        | true =>
          obtain ⟨n', rfl⟩ := Int.eq_ofNat_of_zero_le hn.1
          obtain ⟨m', rfl⟩ := Int.eq_ofNat_of_zero_le hm.1
          exact inn A c T t n' m' w h (by omega) (by omega) hw hv ha hb

/-! ### the row's step -/
set_option maxRecDepth 100000 in
theorem lifted (os : Os) (started : os.Started) (H : Type) (enc : TypeId × Value → H) :
    ReturnsInHanded {} Try.checked os 9 .any (Rows.tideDriftsSpec.pre6 enc Try.prog Try.f9 Rows.tideDriftsRow.domain false) (Rows.tideDriftsSpec.post enc Try.prog Try.f9 false true false false) := by
  refine returnsInHanded_of_change (C := Try.checked) own started (by kernel_rfl) Try.func9
    (ChangeSpec.witness6 (enc := enc) (C := Try.checked) false ⟨#[], #[.slice none 0 0, .int .i64 0, .int .u16 0, .int .u16 0], []⟩ 8 (by kernel_rfl) (by kernel_rfl) (by kernel_rfl) (by kernel_rfl)) ?_
  intro W base args ds gs before hval0 hW hcnd _
  have hval : ∀ (j : Nat) t v, Try.f9.params[j]? = some t → args[j]? = some v → Value.okWide Try.prog W .any base t v := hval0
  have hW' := hW
  obtain ⟨p, q, hA0, hV, rfl, hfz, hnd⟩ := hW
  have hA : DataW.TrodAll enc Try.prog W 0 (fun _ => true) true Try.f9.params.toList args.toList ds p := hA0
  rw [Try.params9] at hA hval
  obtain ⟨v0, vs0, d0, ds0, p0, q0, hargs, rfl, rfl, h0, r0⟩ := trodAll_cons hA
  obtain ⟨v1, vs1, d1, ds1, p1, q1, rfl, rfl, rfl, h1, r1⟩ := trodAll_cons r0
  obtain ⟨v2, vs2, d2, ds2, p2, q2, rfl, rfl, rfl, h2, r2⟩ := trodAll_cons r1
  obtain ⟨v3, vs3, d3, ds3, p3, q3, rfl, rfl, rfl, h3, r3⟩ := trodAll_cons r2
  obtain ⟨rfl, rfl, rfl⟩ := trodAll_nil r3
  obtain rfl : args = #[v0, v1, v2, v3] := by cases args; simp_all
  obtain ⟨rfl, rfl⟩ := trodVars_none hV
  obtain ⟨a0, len0, cap0, rfl⟩ := okWide_slice Try.underlying22 (hval 0 22 v0 rfl rfl)
  have k0 := h0
  have lt0 : ∀ x ∈ p0, x.block < W.heap.size := by obtain ⟨m, hm⟩ := k0; exact DataW.trod_lt m _ _ _ hm
  obtain ⟨T0, rfl, w0⟩ : ∃ T : List (List Int), T.length = len0 ∧ Mat W W.heap.size a0 T := by
    obtain ⟨fuel, hf⟩ := h0
    exact mat_of hf
  obtain ⟨a1, rfl, rfl, rfl, w1⟩ := open_int Try.underlying3 (hval 1 3 v1 rfl rfl) h1
  obtain ⟨a2, rfl, rfl, rfl, w2⟩ := open_int Try.underlying46 (hval 2 46 v2 rfl rfl) h2
  obtain ⟨a3, rfl, rfl, rfl, w3⟩ := open_int Try.underlying46 (hval 3 46 v3 rfl rfl) h3
  clear hA0 hval0
  refine (walk a0 cap0 T0 a1 a2 a3 W w0 (i64_range w1) (u16_range w2) (u16_range w3)).mono fun e W' ⟨he, bel⟩ => ?_
  subst he
  exact ⟨_, rfl, _, _, _, [], _, [], hW', trodAll_mk1 (shut_bool Try.underlying4 _), (trodAll_cons_mk (Below.trod laidOut (by kernel_rfl) (of_decide_eq_true (by kernel_rfl)) k0 bel lt0) (trodAll_cons_mk (shut_int Try.underlying3 w1) (trodAll_cons_mk (shut_int Try.underlying46 w2) (trodAll_cons_mk (shut_int Try.underlying46 w3) trodAll_mk0)))), rfl, bel.frame _, fun h => by cases h⟩

theorem over : Rows.tideDriftsRow.holds Try.pinned (OpenSpec.ofChange Rows.tideDriftsSpec) :=
  OpenClaim.holds_of_wide 9 Try.f9 rfl rfl rfl rfl rfl rfl rfl ⟨rfl, rfl, rfl, rfl, rfl⟩ rfl rfl rfl rfl rfl (by kernel_rfl) Try.func9 (by kernel_rfl)
    (of_decide_eq_true (by kernel_rfl)) (by unfold Func.isWrapper; first | (rw [if_pos (by decide +kernel)]; kernel_rfl) | (rw [if_neg (by decide +kernel)]; exact ⟨rfl, rfl⟩))
    (fun os started H enc _ => lifted os started H enc)

/-- The statement. -/
theorem proved : Rows.TideDriftsSaid := over
end Go.Proofs.Ytmpmlgognkmfgaa.lawTideDrifts
