/-
  For any claims, estate and two numbers, the law FundSplits returns true: in proportion it makes no difference to split a claim, by equal awards it never is less, by equal losses never more, and a greater claim never gets less.
  Conditions: none.
-/
import Derived.Test.YthleekdkbgnabaaKb
import Derived.Test.YthleekdkbgnabaaKc
import Derived.Deep.DeepCutAuto
namespace Go.Proofs.Ythleekdkbgnabaa.lawFundSplits
open Go.Joins Go.ChangeShapes Go.WideShapes Go.ChangeAt Go.RowKit Go.Deep Go.Proofs.Ythleekdkbgnabaa M
set_option linter.unusedVariables false
set_option linter.unusedSimpArgs false

/-- Two small numbers in a box. -/
def Bu (X : World) (b : Nat) (x y : Int) : Prop := X.heap[b]? = some (.cells #[.int .u16 x, .int .u16 y] 62 (0, 0))
theorem Bu.new (w : World) (x y : Int) : Bu (w.alloc (.cells #[.int .u16 x, .int .u16 y] 62)) w.heap.size x y := heap_alloc_new w _
theorem Bu.c0 {w : World} {b : Nat} {x y : Int} (h : Bu w b x y) : w.cell? ⟨b, 0, none⟩ = some (.int .u16 x) := by simp [World.cell?, show w.heap[b]? = _ from h]
theorem Bu.c1 {w : World} {b : Nat} {x y : Int} (h : Bu w b x y) : w.cell? ⟨b, 1, none⟩ = some (.int .u16 y) := by simp [World.cell?, show w.heap[b]? = _ from h]
theorem Bu.drew {w : World} {b : Nat} {x y : Int} (h : Bu w b x y) : Bu w.drew b x y := h

set_option maxRecDepth 100000 in
set_option maxHeartbeats 4000000 in
theorem out (A : Option Addr) (c n : Nat) (e x y : Int) (w : World) (hn : n ≤ 9223372036854775807) (hl : 40 < n) :
    Calls Try.prog 14 #[.slice A n c, .int .i64 e, .agg #[.int .u16 x, .int .u16 y]] w fun r w' => r = .returned (.bool true) ∧ Below w.heap.size w w' := by
  have k1 := fun X => Long_any A c n X hn
  rw [show decide (40 < (n : Int)) = true from decide_eq_true (by omega)] at k1
  have hb := Bu.new w x y
  have c0 := hb.c0
  have c1 := hb.c1
  have c2 := hb.drew.c0
  have c3 := hb.drew.c1
  have hbe := fun N => below_drewN (ba1 w (.cells #[.int .u16 x, .int .u16 y] 62)) N
  replace k1 := Lib.hid k1
  replace hb := Lib.hid hb
  replace hbe := Lib.hid hbe
  go_enter Try.func14, Try.ntmps14
  go_wp2_with fail
  go_quiet (fail)
  go_wp2_with fail
  refine (k1.out _).mono ?_
  rintro _ X ⟨rfl, rfl⟩
  go_wp2_with fail
  refine (Sane_any _).mono ?_
  rintro _ X2 ⟨rfl, hb2⟩
  go_wp2
  go_ret
  exact ⟨rfl, bel_trans (hbe.out _) hb2⟩
set_option maxRecDepth 100000 in
set_option maxHeartbeats 4000000 in
theorem out3 (A : Option Addr) (c : Nat) (l : List Int) (e x y : Int) (w : World) (h : Row w w.heap.size A l) (hl : ¬ 40 < l.length) (hv : valB l = false) :
    Calls Try.prog 14 #[.slice A l.length c, .int .i64 e, .agg #[.int .u16 x, .int .u16 y]] w fun r w' => r = .returned (.bool true) ∧ Below w.heap.size w w' := by
  have k1 := fun X => Long_any A c l.length X h.1
  rw [show decide (40 < (l.length : Int)) = false from decide_eq_false (by omega)] at k1
  have hb := Bu.new w x y
  have c0 := hb.c0
  have c1 := hb.c1
  have c2 := hb.drew.c0
  have c3 := hb.drew.c1
  have hbe := fun N => below_drewN (ba1 w (.cells #[.int .u16 x, .int .u16 y] 62)) N
  have k2 := fun N => Valid_ref w.heap.size A c l _ (h.below (hbe N))
  rw [hv] at k2
  generalize l.length = n at *
  replace k1 := Lib.hid k1
  replace k2 := Lib.hid k2
  replace hb := Lib.hid hb
  replace hbe := Lib.hid hbe
  replace h := Lib.hid h
  replace hl := Lib.hid hl
  replace hv := Lib.hid hv
  go_enter Try.func14, Try.ntmps14
  go_wp2_with fail
  go_quiet (fail)
  go_wp2_with fail
  refine (k1.out _).mono ?_
  rintro _ X ⟨rfl, rfl⟩
  go_wp2_with fail
  refine (k2.out _).mono ?_
  rintro _ X ⟨rfl, rfl⟩
  go_wp2_with fail
  refine (Sane_any _).mono ?_
  rintro _ X2 ⟨rfl, hb2⟩
  go_wp2
  go_ret
  exact ⟨rfl, bel_trans (hbe.out _) hb2⟩
set_option maxRecDepth 100000 in
set_option maxHeartbeats 8000000 in
theorem inn (A : Option Addr) (c : Nat) (l : List Int) (e : Int) (x y : Nat) (w : World) (h : Row w w.heap.size A l) (hcap : l.length ≤ c) (hc9 : c ≤ 9223372036854775807) (hx : x ≤ 65535) (hy : y ≤ 65535) (hl : ¬ 40 < l.length) (hv : vC l) :
    Calls Try.prog 14 #[.slice A l.length c, .int .i64 e, .agg #[.int .u16 x, .int .u16 y]] w fun r w' => r = .returned (.bool true) ∧ Below w.heap.size w w' := by
  have hn := val_len hv
  have k1 := fun X => Long_any A c l.length X h.1
  rw [show decide (40 < (l.length : Int)) = false from decide_eq_false (by omega)] at k1
  have hb := Bu.new w x y
  have c0 := hb.c0
  have c1 := hb.c1
  have c2 := hb.drew.c0
  have c3 := hb.drew.c1
  have hbe := fun N => below_drewN (ba1 w (.cells #[.int .u16 (x : Int), .int .u16 (y : Int)] 62)) N
  have k2 := fun N => Valid_ref w.heap.size A c l _ (h.below (hbe N))
  rw [show valB l = true from decide_eq_true hv] at k2
  have hi : x % l.length < l.length := Nat.mod_lt _ (by omega)
  have m1 : ((x : Nat) : Int).tmod (l.length : Nat) = ((x % l.length : Nat) : Int) := by rw [Int.tmod_eq_emod_of_nonneg (by omega)]; push_cast; rfl
  have m1' : (x : Int) % (l.length : Int) = ((x % l.length : Nat) : Int) := by push_cast; rfl
  obtain ⟨i, hie⟩ : ∃ i, i = x % l.length := ⟨_, rfl⟩
  rw [← hie] at hi m1 m1'
  have hxi := hv.2 i hi
  unfold okC at hxi
  have m2 : ((y : Nat) : Int).tmod (el l i + 1) = (y : Int) % (el l i + 1) := Int.tmod_eq_emod_of_nonneg (by omega)
  have m3 : 0 ≤ (y : Int) % (el l i + 1) ∧ (y : Int) % (el l i + 1) ≤ el l i := ⟨Int.emod_nonneg _ (by omega), by have := Int.emod_lt_of_pos (y : Int) (show 0 < el l i + 1 by omega); omega⟩
  obtain ⟨a, hae⟩ : ∃ a, a = (y : Int) % (el l i + 1) := ⟨_, rfl⟩
  rw [← hae] at m2 m3
  have m4 := hae.symm
  have hat := fun X (hX : Below w.heap.size w X) => (h.below hX).at_ i hi
  have sp := fun q hq => sp_facts (e := e) (q := q) hv hi m3 hq
  have mo := fun q hq => mo_facts (e := e) (q := q) hv hi hq
  have kS := fun q X (hX : Below w.heap.size w X) => Split_any w.heap.size A c l e q i a X (h.below hX) hX.size hcap hc9
  have kM := fun q X (hX : Below w.heap.size w X) => More_any w.heap.size A c l e q i X (h.below hX) hX.size
  have hi2 : (i : Int) < (l.length : Int) := by omega
  have hn0 : ¬ l.length = 0 := by omega
  have hn3 : ¬ (l.length : Int) = 0 := by omega
  have hn4 : 1 ≤ (l.length : Int) := by omega
  generalize l.length = n at *
  replace k1 := Lib.hid k1
  replace k2 := Lib.hid k2
  replace hb := Lib.hid hb
  replace hbe := Lib.hid hbe
  replace h := Lib.hid h
  replace hl := Lib.hid hl
  replace hv := Lib.hid hv
  replace hie := Lib.hid hie
  replace hae := Lib.hid hae
  replace m1' := Lib.hid m1'
  replace m4 := Lib.hid m4
  replace hat := Lib.hid hat
  replace sp := Lib.hid sp
  replace mo := Lib.hid mo
  replace kS := Lib.hid kS
  replace kM := Lib.hid kM
  obtain ⟨hn1, hn8⟩ := hn
  go_enter Try.func14, Try.ntmps14
  go_wp2_with fail
  go_quiet (fail)
  go_wp2_with fail
  refine (k1.out _).mono ?_
  rintro _ X ⟨rfl, rfl⟩
  go_wp2_with fail
  refine (k2.out _).mono ?_
  rintro _ X ⟨rfl, rfl⟩
  obtain ⟨b, o, rfl, _, a0⟩ := hat.out _ (hbe.out nq)
  go_wp2
  go_loopw [11, 12, 13, 14, 15] (fun q _ _ _ _ wr => ∃ k : Nat, k ≤ 4 ∧ q = .int .i64 (k + 1 : Nat) ∧ Below w.heap.size w wr) (fun q _ _ _ _ _ => (5 - intOf q).toNat)
  case atStart => exact ⟨0, by omega, rfl, hbe.out _⟩
  case round =>
    obtain ⟨k, hk4, rfl, hX⟩ := hrel
    by_cases hk : k < 4
    · have hq : 1 ≤ ((k + 1 : Nat) : Int) ∧ ((k + 1 : Nat) : Int) ≤ 4 := by omega
      have f1 := sp.out _ hq
      have f2 := mo.out _ hq
      have s1 := kS.out ((k + 1 : Nat) : Int) wr hX
      have t1 := fun X hX => kM.out ((k + 1 : Nat) : Int) X hX
      unfold rtV at s1 t1
      generalize spR l e ((k + 1 : Nat) : Int) i a = P at *
      generalize spE l e ((k + 1 : Nat) : Int) i a = E at *
      generalize moR l e ((k + 1 : Nat) : Int) i = Q at *
      generalize moE l e ((k + 1 : Nat) : Int) i = F at *
      replace s1 := Lib.hid s1
      replace t1 := Lib.hid t1
      replace hX := Lib.hid hX
      obtain ⟨z, hz⟩ : ∃ z : Int, z = ((k + 1 : Nat) : Int) := ⟨_, rfl⟩
      rw [← hz] at s1 t1 f1 hq ⊢
      have hX1 := fun X1 (hb : Below wr.heap.size wr X1) => bel_trans (bel_trans hX.out hb) (ba1 X1 (.cells #[.int .i64 P.n, .int .i64 P.d] 37))
      replace hz := Lib.hid hz
      replace hX1 := Lib.hid hX1
      obtain ⟨pn, pd⟩ := P
      obtain ⟨qn, qd⟩ := Q
      simp only at s1 t1 f1 f2 hX1
      replace f1 := Lib.hid f1
      replace f2 := Lib.hid f2
      go_wp2_with fail
      replace hq := Lib.hid hq
      refine s1.out.mono ?_
      rintro _ X1 ⟨rfl, hb1⟩
      have x1 := hX1.out X1 hb1
      have t2 := Lib.hid (t1.out _ x1)
      have bp := Bxr.new X1 pn pd
      replace x1 := Lib.hid x1
      replace hb1 := Lib.hid hb1
      go_wp2_with fail
      refine t2.out.mono ?_
      rintro _ X3 ⟨rfl, hb3⟩
      have bp3 := bp.up hb3
      have bp4 := bp3.up (ba1 X3 (.cells #[.int .i64 qn, .int .i64 qd] 37))
      have bq := Bxr.new X3 qn qd
      have p0 := bp4.c0
      have p1 := bp4.c1
      have q0 := bq.c0
      have q1 := bq.c1
      have fin := Lib.hid (bel_trans (bel_trans x1.out hb3) (ba1 X3 (.cells #[.int .i64 qn, .int .i64 qd] 37)))
      have hall := Lib.hid (And.intro fin.out (And.intro bp4 bq))
      clear bp bp3 bp4 bq hb3 s1 t1 t2 hb1 x1 hX1 hX k1 k2 hat sp mo kS kM h hl hv hie hae m1' m4 hb hbe p0 p1 q0 q1
      have hEr : E = 2 ∨ E = 5 ∨ E = 0 := by rcases f1.out with (h | h) | h <;> omega
      have hFr : F = 2 ∨ F = 5 ∨ F = 0 := by rcases f2.out with (h | h) | h <;> omega
      replace hEr := Lib.hid hEr
      replace hFr := Lib.hid hFr
      go_upto_region 11 with fail
      go_cut [83] from 62 to 83 (fun v wx => v = .bool false ∧ Below w.heap.size w wx ∧ Bxr wx X1.heap.size pn pd ∧ Bxr wx X3.heap.size qn qd)
      case first =>
        rcases hEr.out with h1 | h1 | h1
        all_goals
          rcases hFr.out with h2 | h2 | h2
        all_goals
          subst h1 h2
          go_wp2_with fail
          go_meet
          exact ⟨rfl, hall.out⟩
      case rest =>
      obtain ⟨rfl, hw9, bp, bq⟩ := hcut
      have p0 := bp.c0
      have p1 := bp.c1
      have q0 := bq.c0
      have q1 := bq.c1
      clear hall
      replace bp := Lib.hid bp
      replace bq := Lib.hid bq
      replace hw9 := Lib.hid hw9
      go_upto_region 13 with fail
      go_cut [131] from 84 to 131 (fun v wx => v = .bool false ∧ Below w.heap.size w wx)
      case first =>
        have hE2 : E = 0 ∨ (E == 0) = false := by rcases hEr.out with h | h | h <;> simp [h]
        have hF2 : F = 0 ∨ (F == 0) = false := by rcases hFr.out with h | h | h <;> simp [h]
        have f1 := f1.out
        have f2 := f2.out
        have hq := hq.out
        rcases hF2 with h2 | h2
        · subst h2
          rcases f2 with (f2 | f2) | ⟨_, j1, j2⟩
          · cases f2
          · cases f2
          have j3 : ¬ qd < 1 := by omega
          have j4 : ¬ qn < 0 := by omega
          rcases hE2 with h1 | h1
          · subst h1
            rcases f1 with (f1 | f1) | ⟨_, g1, g2, g3, g4⟩
            · cases f1
            · cases f1
            have g5 : ¬ pd < 1 := by omega
            rcases (show z = 1 ∨ z = 2 ∨ z = 3 ∨ z = 4 by omega) with h3 | h3 | h3 | h3
            · have g6 : pn = 0 := g2 h3
              subst h3 g6
              clear g2 g3 g4 hq
              go_wp2_with fail
              go_meet
              exact ⟨rfl, hw9.out⟩
            · have g6 : ¬ pn < 0 := by have := g3 h3; omega
              subst h3
              clear g2 g3 g4 hq
              go_wp2_with fail
              go_meet
              exact ⟨rfl, hw9.out⟩
            · have g6 : ¬ 0 < pn := by have := g4 h3; omega
              subst h3
              clear g2 g3 g4 hq
              go_wp2_with fail
              go_meet
              exact ⟨rfl, hw9.out⟩
            · subst h3
              clear g2 g3 g4 hq
              go_wp2_with fail
              go_meet
              exact ⟨rfl, hw9.out⟩
          · clear f1 hq
            go_wp2_with fail
            go_meet
            exact ⟨rfl, hw9.out⟩
        · clear f2
          rcases hE2 with h1 | h1
          · subst h1
            rcases f1 with (f1 | f1) | ⟨_, g1, g2, g3, g4⟩
            · cases f1
            · cases f1
            have g5 : ¬ pd < 1 := by omega
            rcases (show z = 1 ∨ z = 2 ∨ z = 3 ∨ z = 4 by omega) with h3 | h3 | h3 | h3
            · have g6 : pn = 0 := g2 h3
              subst h3 g6
              clear g2 g3 g4 hq
              go_wp2_with fail
              go_meet
              exact ⟨rfl, hw9.out⟩
            · have g6 : ¬ pn < 0 := by have := g3 h3; omega
              subst h3
              clear g2 g3 g4 hq
              go_wp2_with fail
              go_meet
              exact ⟨rfl, hw9.out⟩
            · have g6 : ¬ 0 < pn := by have := g4 h3; omega
              subst h3
              clear g2 g3 g4 hq
              go_wp2_with fail
              go_meet
              exact ⟨rfl, hw9.out⟩
            · subst h3
              clear g2 g3 g4 hq
              go_wp2_with fail
              go_meet
              exact ⟨rfl, hw9.out⟩
          · clear f1 hq
            go_wp2_with fail
            go_meet
            exact ⟨rfl, hw9.out⟩
      case rest =>
      obtain ⟨rfl, hwf⟩ := hcut
      replace hwf := Lib.hid hwf
      have hq := hq.out
      clear f1 f2 hEr hFr
      go_wp2
      go_roundw
      case rel => exact ⟨k + 1, by omega, by have := hz.out; congr 1; omega, hwf.out⟩
      case measure => simp [intOf]; omega
    · have : k = 4 := by omega
      subst this
      replace hX := Lib.hid hX
      go_wp2_with fail
      refine (Sane_any _).mono ?_
      rintro _ X5 ⟨rfl, hb5⟩
      have z5 := Lib.hid (bel_trans hX.out hb5)
      clear hb5
      go_wp2
      go_ret
      exact ⟨rfl, z5.out⟩
theorem walk (A : Option Addr) (c : Nat) (l : List Int) (e x y : Int) (w : World) (hh : Row w w.heap.size A l ∧ l.length ≤ c ∧ c ≤ 9223372036854775807) (_ : -9223372036854775808 ≤ e ∧ e ≤ 9223372036854775807) (hx : 0 ≤ x ∧ x ≤ 65535) (hy : 0 ≤ y ∧ y ≤ 65535) :
    Calls Try.prog 14 #[.slice A l.length c, .int .i64 e, .agg #[.int .u16 x, .int .u16 y]] w fun r w' => r = .returned (.bool true) ∧ Below w.heap.size w w' := by
  obtain ⟨h, hcap, hc9⟩ := hh
  by_cases hl : 40 < l.length
  · exact out A c l.length e x y w h.1 hl
  · cases hv : valB l with
    | false => exact out3 A c l e x y w h hl hv
    | true =>
      obtain ⟨x', rfl⟩ := Int.eq_ofNat_of_zero_le hx.1
      obtain ⟨y', rfl⟩ := Int.eq_ofNat_of_zero_le hy.1
      exact inn A c l e x' y' w h hcap hc9 (by omega) (by omega) hl (val_of hv)

/-! ### the row's step -/
set_option maxRecDepth 100000 in
theorem lifted (os : Os) (started : os.Started) (H : Type) (enc : TypeId × Value → H) :
    ReturnsInHanded {} Try.checked os 14 .any (Rows.fundSplitsSpec.pre6 enc Try.prog Try.f14 Rows.fundSplitsRow.domain false) (Rows.fundSplitsSpec.post enc Try.prog Try.f14 false true false false) := by
  refine returnsInHanded_of_change (C := Try.checked) own started (by kernel_rfl) Try.func14
    (ChangeSpec.witness6 (enc := enc) (C := Try.checked) false ⟨#[], #[.slice none 0 0, .int .i64 0, .agg #[.int .u16 0, .int .u16 0]], []⟩ 8 (by kernel_rfl) (by kernel_rfl) (by kernel_rfl) (by kernel_rfl)) ?_
  intro W base args ds gs before hval0 hW hcnd _
  have hval : ∀ (j : Nat) t v, Try.f14.params[j]? = some t → args[j]? = some v → Value.okWide Try.prog W .any base t v := hval0
  have hW' := hW
  obtain ⟨p, q, hA0, hV, rfl, hfz, hnd⟩ := hW
  have hA : DataW.TrodAll enc Try.prog W 0 (fun _ => true) true Try.f14.params.toList args.toList ds p := hA0
  rw [Try.params14] at hA hval
  obtain ⟨v0, vs0, d0, ds0, p0, q0, hargs, rfl, rfl, h0, r0⟩ := trodAll_cons hA
  obtain ⟨v1, vs1, d1, ds1, p1, q1, rfl, rfl, rfl, h1, r1⟩ := trodAll_cons r0
  obtain ⟨v2, vs2, d2, ds2, p2, q2, rfl, rfl, rfl, h2, r2⟩ := trodAll_cons r1
  obtain ⟨rfl, rfl, rfl⟩ := trodAll_nil r2
  obtain rfl : args = #[v0, v1, v2] := by cases args; simp_all
  obtain ⟨rfl, rfl⟩ := trodVars_none hV
  have k0 := h0
  have lt0 : ∀ x ∈ p0, x.block < W.heap.size := by obtain ⟨m, hm⟩ := k0; exact DataW.trod_lt m _ _ _ hm
  obtain ⟨a0, len0, cap0, T0, rfl, rfl, w0⟩ : ∃ A len cap D, v0 = .slice A len cap ∧ D.length = len ∧ Row W W.heap.size A D ∧ D.length ≤ cap ∧ cap ≤ 9223372036854775807 := by
    obtain ⟨s0, s1, s2, rfl⟩ := okWide_slice Try.underlying22 (hval 0 22 v0 rfl rfl)
    obtain ⟨fuel, hf⟩ := h0
    obtain ⟨A, len, cap, D, e1, e2, e3, e4, e5⟩ := row_cap9 (by simpa [Value.cells] using hf)
    exact ⟨A, len, cap, D, e1, e2, e3, by omega, e5⟩
  obtain ⟨a1, rfl, rfl, rfl, w1⟩ := open_int Try.underlying3 (hval 1 3 v1 rfl rfl) h1
  have k2 := h2
  have lt2 : ∀ x ∈ p2, x.block < W.heap.size := by obtain ⟨m, hm⟩ := k2; exact DataW.trod_lt m _ _ _ hm
  obtain ⟨x20, x21, rfl, y20, y21⟩ := arr2u_in (hval 2 62 v2 rfl rfl) h2
  clear hA0 hval0
  refine (walk a0 cap0 T0 a1 x20 x21 W w0 (i64_range w1) y20 y21).mono fun e W' ⟨he, bel⟩ => ?_
  subst he
  exact ⟨_, rfl, _, _, _, [], _, [], hW', trodAll_mk1 (shut_bool Try.underlying4 _), (trodAll_cons_mk (Below.trod laidOut (by kernel_rfl) (of_decide_eq_true (by kernel_rfl)) k0 bel lt0) (trodAll_cons_mk (shut_int Try.underlying3 w1) (trodAll_cons_mk (Below.trod laidOut (by kernel_rfl) (of_decide_eq_true (by kernel_rfl)) k2 bel lt2) trodAll_mk0))), rfl, bel.frame _, fun h => by cases h⟩

theorem over : Rows.fundSplitsRow.holds Try.pinned (OpenSpec.ofChange Rows.fundSplitsSpec) :=
  OpenClaim.holds_of_wide 14 Try.f14 rfl rfl rfl rfl rfl rfl rfl ⟨rfl, rfl, rfl, rfl, rfl⟩ rfl rfl rfl rfl rfl (by kernel_rfl) Try.func14 (by kernel_rfl)
    (of_decide_eq_true (by kernel_rfl)) (by unfold Func.isWrapper; first | (rw [if_pos (by decide +kernel)]; kernel_rfl) | (rw [if_neg (by decide +kernel)]; exact ⟨rfl, rfl⟩))
    (fun os started H enc _ => lifted os started H enc)

/-- The statement. -/
theorem proved : Rows.FundSplitsSaid := over
end Go.Proofs.Ythleekdkbgnabaa.lawFundSplits
