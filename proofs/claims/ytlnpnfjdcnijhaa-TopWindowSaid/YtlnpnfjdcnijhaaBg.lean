/-
  Are two lists of hours equal: the shelf's function; the state of a region in which two windows are made.
-/
import Derived.Test.YtlnpnfjdcnijhaaBd
import Derived.Test.YtlnpnfjdcnijhaaBf
namespace Go.Proofs.Ytlnpnfjdcnijhaa
open Go.RowKit Go.Deep M
set_option linter.unusedVariables false
set_option linter.unusedSimpArgs false

theorem eqL_n {l l' : List Int} (h : ¬ l.length = l'.length) : decide (l = l') = false := decide_eq_false (fun e => h (by rw [e]))
theorem eqL_e (l l' : List Int) (k : Nat) (h : ¬ el l k = el l' k) : decide (l = l') = false := decide_eq_false (fun e => h (by rw [e]))
theorem eqL_yes {l l' : List Int} (h : l.length = l'.length) (h' : ∀ i, i < l.length → el l i = el l' i) : decide (l = l') = true := decide_eq_true (ints_ext h h')
set_option maxHeartbeats 2000000 in
theorem eqInts (B : Nat) (A A' : Option Addr) (c c' : Nat) (l l' : List Int) (w : World) (h : Row w B A l) (h' : Row w B A' l') (hB : B ≤ w.heap.size) :
    Calls Try.prog 83 #[.slice A l.length c, .slice A' l'.length c'] w fun e w' => e = .returned (.bool (decide (l = l'))) ∧ Below w.heap.size w w' := by
  have h63 := h.1
  have h63' := h'.1
  have hn2 := @eqL_n l l'
  have hn3 := eqL_e l l'
  have hyy := @eqL_yes l l'
  obtain ⟨n, hn⟩ : ∃ n, n = l.length := ⟨_, rfl⟩
  obtain ⟨n', hn'⟩ : ∃ n, n = l'.length := ⟨_, rfl⟩
  rw [← hn] at h63 hn2 hyy ⊢
  rw [← hn'] at h63' hn2 hyy ⊢
  replace hn := Lib.hid hn
  replace hn' := Lib.hid hn'
  replace h := Lib.hid h
  replace h' := Lib.hid h'
  by_cases hnn : n = n'
  · subst hnn
    clear hn2
    replace hyy := Lib.hid (hyy rfl)
    replace hn3 := Lib.hid hn3
    generalize decide (l = l') = R at *
    go_enter Try.func83, Try.ntmps83
    go_wp2
    go_loopw [13] (fun i wr => ∃ k m : Nat, k ≤ n ∧ i = .int .i64 (k : Nat) ∧ wr = w.drewN m ∧ ∀ j, j < k → el l j = el l' j) (fun i _ => n - (intOf i).toNat)
    case atStart => exact ⟨0, 0, Nat.zero_le _, rfl, rfl, fun j hj => absurd hj (Nat.not_lt_zero _)⟩
    case round =>
      obtain ⟨k, m, hk, rfl, hw, hel⟩ := hrel
      have hq : Row wr B A l := h.out.keep fun p _ => by rw [hw]; rfl
      have hq' : Row wr B A' l' := h'.out.keep fun p _ => by rw [hw]; rfl
      have hbr : Below w.heap.size w wr := by rw [hw]; exact below_drewN (Below.refl _ _) m
      replace hw := Lib.hid hw
      by_cases hlt : k < n
      · obtain ⟨b, o, rfl, hb, hc⟩ := hq.at_ k (hn.out ▸ hlt)
        obtain ⟨b', o', rfl, hb', hc'⟩ := hq'.at_ k (hn'.out ▸ hlt)
        have hkb : (k : Int) < (n : Int) := by omega
        have hst : el l k = el l' k → ∀ j, j < k + 1 → el l j = el l' j := fun h1 j hj => by
          rcases Nat.lt_succ_iff_lt_or_eq.1 hj with h' | rfl
          · exact hel j h'
          · exact h1
        have hno := hn3.out k
        generalize el l k = a at *
        generalize el l' k = a' at *
        replace hel := Lib.hid hel
        replace hq := Lib.hid hq
        replace hq' := Lib.hid hq'
        by_cases ha : a = a'
        · subst ha
          replace hst := Lib.hid (hst rfl)
          have hne : (a != a) = false := by simp
          replace hbr := Lib.hid hbr
          clear hno
          go_wp2_with fail
          go_quiet (fail)
          go_wp2
          go_roundw
          case rel => exact ⟨k + 1, m + nq, by omega, by go_num, by rw [hw.out, World.drewN_drewN], hst.out⟩
          case measure => simp [intOf]; omega
        · have hR := hno ha
          subst hR
          clear hst hno
          have hne : (a != a') = true := by simp [ha]
          replace hbr := Lib.hid hbr
          go_wp2_with fail
          go_quiet (fail)
          go_wp2
          go_ret
          exact ⟨rfl, below_drewN hbr.out nq⟩
      · have hk' : k = n := by omega
        subst hk'
        have hR := hyy.out hel
        subst hR
        replace hel := Lib.hid hel
        replace hbr := Lib.hid hbr
        replace hq := Lib.hid hq
        replace hq' := Lib.hid hq'
        go_wp2
        go_ret
        exact ⟨rfl, hbr.out⟩
  · have hR := hn2 hnn
    rw [hR]
    clear hn2 hyy
    replace hR := Lib.hid hR
    replace hn3 := Lib.hid hn3
    have hni : ¬ (n : Int) = (n' : Int) := by omega
    go_enter Try.func83, Try.ntmps83
    go_wp2
    go_ret
    exact ⟨rfl, Below.refl _ _⟩




/-- The hours of a window that was made in a call, apart from two variables. -/
def Rw (X : World) (z : Wn) (t t7 t8 : Value) : Prop := ∃ A c, t = wnV z.p A z.hs.length c ∧ Row X X.heap.size A z.hs ∧ ∀ b, (t7 = .pointer (some ⟨b, 0, none⟩) ∨ t8 = .pointer (some ⟨b, 0, none⟩)) → ∀ a, A = some a → a.block ≠ b ∨ z.hs.length = 0
theorem Rw.up {X Y : World} {z : Wn} {t t7 t8 : Value} (h : Rw X z t t7 t8) (hb : Below X.heap.size X Y) : Rw Y z t t7 t8 := by
  obtain ⟨A, c, h1, h2, h3⟩ := h
  exact ⟨A, c, h1, h2.up hb, h3⟩
/-- A variable for a window: not yet set, or set. -/
def Vr (w X : World) (z : Wn) (t7 t : Value) (st : Bool) : Prop := ∃ b, t7 = .pointer (some ⟨b, 0, none⟩) ∧ w.heap.size + 1 < b ∧ b < X.heap.size ∧ (st = false → BxW X b 0 none 0 0) ∧ (st = true → ∃ A c, t = wnV z.p A z.hs.length c ∧ BxW X b z.p A z.hs.length c)
theorem Vr.up {w X Y : World} {z : Wn} {t u : Value} {st : Bool} (h : Vr w X z t u st) (hb : Below X.heap.size X Y) : Vr w Y z t u st := by
  obtain ⟨b, h1, h2, h3, h4, h5⟩ := h
  refine ⟨b, h1, h2, Nat.lt_of_lt_of_le h3 hb.size, fun e => (h4 e).up hb, fun e => ?_⟩
  obtain ⟨A, c, h6, h7⟩ := h5 e
  exact ⟨A, c, h6, h7.up hb⟩
structure SmI (w : World) (x y : Wn) (A A' : Option Addr) (c c' : Nat) (g : Nat → Bool) (t7 t8 t16 t17 t18 t19 t20 t21 t22 t23 : Value) (X : World) : Prop where
  on : TwO w x.p y.p A A' x.hs.length y.hs.length c c' X
  f0 : g 0 = true → t16 = .agg #[.int .i64 x.p, .slice A x.hs.length c]
  f1 : g 1 = true → g 2 = false → ∃ F, t17 = .agg #[.int .i64 x.p, F] ∧ Opn X X.heap.size F (opB x)
  f2 : g 2 = true → g 3 = false → ∃ F, t18 = .agg #[.int .i64 (plW x).p, F] ∧ Opn X X.heap.size F (opB x)
  f3 : g 3 = true → Rw X (plW x) t19 t7 t8
  f4 : g 4 = true → t20 = .agg #[.int .i64 y.p, .slice A' y.hs.length c']
  f5 : g 5 = true → g 6 = false → ∃ F, t21 = .agg #[.int .i64 y.p, F] ∧ Opn X X.heap.size F (opB y)
  f6 : g 6 = true → g 7 = false → ∃ F, t22 = .agg #[.int .i64 (plW y).p, F] ∧ Opn X X.heap.size F (opB y)
  f7 : g 7 = true → Rw X (plW y) t23 t7 t8
  c6 : g 7 = true → g 6 = true
  f8 : g 8 = true → Vr w X (plW x) t7 t19 (g 10)
  f9 : g 9 = true → Vr w X (plW y) t8 t23 (g 11)
  c10 : g 10 = true → g 8 = true
  c11 : g 11 = true → g 9 = true
  d10 : g 10 = true → g 3 = true
  d11 : g 11 = true → g 7 = true
  c12 : g 11 = true → g 10 = true
  n8 : g 8 = false → t7 = undef
  n9 : g 9 = false → t8 = undef
  ne : ∀ b, t7 = .pointer (some ⟨b, 0, none⟩) → t8 = .pointer (some ⟨b, 0, none⟩) → False
section
variable {w X Y : World} {x y : Wn} {A A' : Option Addr} {c c' : Nat} {g : Nat → Bool} {t7 t8 t16 t17 t18 t19 t20 t21 t22 t23 : Value}
theorem SmI.up (h : SmI w x y A A' c c' g t7 t8 t16 t17 t18 t19 t20 t21 t22 t23 X) (hb : Below X.heap.size X Y) : SmI w x y A A' c c' g t7 t8 t16 t17 t18 t19 t20 t21 t22 t23 Y where
  on := h.on.up hb
  f0 := h.f0
  f1 := fun a b => by obtain ⟨F, e, hO⟩ := h.f1 a b; exact ⟨F, e, hO.upp hb⟩
  f2 := fun a b => by obtain ⟨F, e, hO⟩ := h.f2 a b; exact ⟨F, e, hO.upp hb⟩
  f3 := fun a => (h.f3 a).up hb
  f4 := h.f4
  f5 := fun a b => by obtain ⟨F, e, hO⟩ := h.f5 a b; exact ⟨F, e, hO.upp hb⟩
  f6 := fun a b => by obtain ⟨F, e, hO⟩ := h.f6 a b; exact ⟨F, e, hO.upp hb⟩
  f7 := fun a => (h.f7 a).up hb
  c6 := h.c6
  f8 := fun a => (h.f8 a).up hb
  f9 := fun a => (h.f9 a).up hb
  c10 := h.c10
  c11 := h.c11
  d10 := h.d10
  d11 := h.d11
  c12 := h.c12
  n8 := h.n8
  n9 := h.n9
  ne := h.ne
theorem undef_ptr {a : Option Addr} (h : undef = Value.pointer a) : False := by unfold undef at h; cases h
/-- The variables lie below what is there. -/
theorem SmI.low (h : SmI w x y A A' c c' g t7 t8 t16 t17 t18 t19 t20 t21 t22 t23 X) {b : Nat} (hb : t7 = .pointer (some ⟨b, 0, none⟩) ∨ t8 = .pointer (some ⟨b, 0, none⟩)) : b < X.heap.size := by
  rcases hb with hb | hb
  · cases h8 : g 8 with
    | false => have := h.n8 h8; rw [hb] at this; exact (undef_ptr this.symm).elim
    | true =>
      obtain ⟨b', e, _, h3, _⟩ := h.f8 h8
      rw [hb] at e; injection e with e; injection e with e; injection e with e; omega
  · cases h9 : g 9 with
    | false => have := h.n9 h9; rw [hb] at this; exact (undef_ptr this.symm).elim
    | true =>
      obtain ⟨b', e, _, h3, _⟩ := h.f9 h9
      rw [hb] at e; injection e with e; injection e with e; injection e with e; omega
theorem SmI.zero (hX : TwO w x.p y.p A A' x.hs.length y.hs.length c c' X) : SmI w x y A A' c c' (fun _ => false) undef undef t16 t17 t18 t19 t20 t21 t22 t23 X where
  on := hX
  f0 := fun h => by cases h
  f1 := fun h => by cases h
  f2 := fun h => by cases h
  f3 := fun h => by cases h
  f4 := fun h => by cases h
  f5 := fun h => by cases h
  f6 := fun h => by cases h
  f7 := fun h => by cases h
  c6 := fun h => by cases h
  f8 := fun h => by cases h
  f9 := fun h => by cases h
  c10 := fun h => by cases h
  c11 := fun h => by cases h
  d10 := fun h => by cases h
  d11 := fun h => by cases h
  c12 := fun h => by cases h
  n8 := fun _ => rfl
  n9 := fun _ => rfl
  ne := fun b e _ => undef_ptr e
theorem SmI.s0 (h : SmI w x y A A' c c' g t7 t8 t16 t17 t18 t19 t20 t21 t22 t23 X) : SmI w x y A A' c c' (upd g 0) t7 t8 (.agg #[.int .i64 x.p, .slice A x.hs.length c]) t17 t18 t19 t20 t21 t22 t23 X :=
  ⟨h.on, fun _ => rfl, h.f1, h.f2, h.f3, h.f4, h.f5, h.f6, h.f7, h.c6, h.f8, h.f9, h.c10, h.c11, h.d10, h.d11, h.c12, h.n8, h.n9, h.ne⟩
theorem SmI.s1 {F : Value} (h : SmI w x y A A' c c' g t7 t8 t16 t17 t18 t19 t20 t21 t22 t23 X) (hO : Opn X X.heap.size F (opB x)) : SmI w x y A A' c c' (upd g 1) t7 t8 t16 (.agg #[.int .i64 x.p, F]) t18 t19 t20 t21 t22 t23 X :=
  ⟨h.on, h.f0, fun _ _ => ⟨F, rfl, hO⟩, h.f2, h.f3, h.f4, h.f5, h.f6, h.f7, h.c6, h.f8, h.f9, h.c10, h.c11, h.d10, h.d11, h.c12, h.n8, h.n9, h.ne⟩
theorem SmI.s2 {F : Value} (h : SmI w x y A A' c c' g t7 t8 t16 t17 t18 t19 t20 t21 t22 t23 X) (hO : Opn X X.heap.size F (opB x)) : SmI w x y A A' c c' (upd g 2) t7 t8 t16 t17 (.agg #[.int .i64 (plW x).p, F]) t19 t20 t21 t22 t23 X :=
  ⟨h.on, h.f0, fun _ hh => (by cases hh), fun _ _ => ⟨F, rfl, hO⟩, h.f3, h.f4, h.f5, h.f6, h.f7, h.c6, h.f8, h.f9, h.c10, h.c11, h.d10, h.d11, h.c12, h.n8, h.n9, h.ne⟩
theorem Vr.off {z : Wn} {t u v : Value} {st : Bool} (h : Vr w X z t u st) (hs : st = false) : Vr w X z t v st := by
  obtain ⟨b, h1, h2, h3, h4, h5⟩ := h
  exact ⟨b, h1, h2, h3, h4, fun e => by rw [hs] at e; cases e⟩
theorem SmI.s3 (h : SmI w x y A A' c c' g t7 t8 t16 t17 t18 t19 t20 t21 t22 t23 X) (h10 : g 10 = false) {t : Value} (hr : Rw X (plW x) t t7 t8) : SmI w x y A A' c c' (upd g 3) t7 t8 t16 t17 t18 t t20 t21 t22 t23 X :=
  ⟨h.on, h.f0, h.f1, fun _ hh => (by cases hh), fun _ => hr, h.f4, h.f5, h.f6, h.f7, h.c6, fun e => (h.f8 e).off h10, h.f9, h.c10, h.c11, fun _ => rfl, h.d11, h.c12, h.n8, h.n9, h.ne⟩
theorem SmI.s4 (h : SmI w x y A A' c c' g t7 t8 t16 t17 t18 t19 t20 t21 t22 t23 X) : SmI w x y A A' c c' (upd g 4) t7 t8 t16 t17 t18 t19 (.agg #[.int .i64 y.p, .slice A' y.hs.length c']) t21 t22 t23 X :=
  ⟨h.on, h.f0, h.f1, h.f2, h.f3, fun _ => rfl, h.f5, h.f6, h.f7, h.c6, h.f8, h.f9, h.c10, h.c11, h.d10, h.d11, h.c12, h.n8, h.n9, h.ne⟩
theorem SmI.s5 {F : Value} (h : SmI w x y A A' c c' g t7 t8 t16 t17 t18 t19 t20 t21 t22 t23 X) (hO : Opn X X.heap.size F (opB y)) : SmI w x y A A' c c' (upd g 5) t7 t8 t16 t17 t18 t19 t20 (.agg #[.int .i64 y.p, F]) t22 t23 X :=
  ⟨h.on, h.f0, h.f1, h.f2, h.f3, h.f4, fun _ _ => ⟨F, rfl, hO⟩, h.f6, h.f7, h.c6, h.f8, h.f9, h.c10, h.c11, h.d10, h.d11, h.c12, h.n8, h.n9, h.ne⟩
theorem SmI.s6 {F : Value} (h : SmI w x y A A' c c' g t7 t8 t16 t17 t18 t19 t20 t21 t22 t23 X) (hO : Opn X X.heap.size F (opB y)) : SmI w x y A A' c c' (upd g 6) t7 t8 t16 t17 t18 t19 t20 t21 (.agg #[.int .i64 (plW y).p, F]) t23 X :=
  ⟨h.on, h.f0, h.f1, h.f2, h.f3, h.f4, fun _ hh => (by cases hh), fun _ _ => ⟨F, rfl, hO⟩, h.f7, fun _ => rfl, h.f8, h.f9, h.c10, h.c11, h.d10, h.d11, h.c12, h.n8, h.n9, h.ne⟩
theorem SmI.s7 (h : SmI w x y A A' c c' g t7 t8 t16 t17 t18 t19 t20 t21 t22 t23 X) {t : Value} (h6 : g 6 = true) (h11 : g 11 = false) (hr : Rw X (plW y) t t7 t8) : SmI w x y A A' c c' (upd g 7) t7 t8 t16 t17 t18 t19 t20 t21 t22 t X :=
  ⟨h.on, h.f0, h.f1, h.f2, h.f3, h.f4, h.f5, fun _ hh => (by cases hh), fun _ => hr, fun _ => h6, h.f8, fun e => (h.f9 e).off h11, h.c10, h.c11, h.d10, fun _ => rfl, h.c12, h.n8, h.n9, h.ne⟩
/-- A new variable. -/
def zb (X : World) : World := X.alloc (.cells #[.int .i64 0, .slice none 0 0] 24)
theorem Rw.var7 {z : Wn} {t : Value} (h : Rw X z t t7 t8) : Rw (zb X) z t (.pointer (some ⟨X.heap.size, 0, none⟩)) t8 := by
  obtain ⟨A, c, h1, h2, h3⟩ := h
  refine ⟨A, c, h1, h2.up (ba1 _ _), fun b hb a ha => ?_⟩
  rcases hb with hb | hb
  · injection hb with e; injection e with e; injection e with e
    subst e
    rcases Nat.eq_zero_or_pos z.hs.length with h0 | h0
    · exact .inr h0
    · obtain ⟨b', o, e, hlt, _⟩ := h2.2 h0
      rw [ha] at e; injection e with e
      exact .inl (by rw [e]; simp; omega)
  · exact h3 b (.inr hb) a ha
theorem Rw.var8 {z : Wn} {t : Value} (h : Rw X z t t7 t8) : Rw (zb X) z t t7 (.pointer (some ⟨X.heap.size, 0, none⟩)) := by
  obtain ⟨A, c, h1, h2, h3⟩ := h
  refine ⟨A, c, h1, h2.up (ba1 _ _), fun b hb a ha => ?_⟩
  rcases hb with hb | hb
  · exact h3 b (.inl hb) a ha
  · injection hb with e; injection e with e; injection e with e
    subst e
    rcases Nat.eq_zero_or_pos z.hs.length with h0 | h0
    · exact .inr h0
    · obtain ⟨b', o, e, hlt, _⟩ := h2.2 h0
      rw [ha] at e; injection e with e
      exact .inl (by rw [e]; simp; omega)
theorem Vr.new (hX : TwO w x.p y.p A A' x.hs.length y.hs.length c c' X) (z : Wn) (u : Value) {st : Bool} (hs : st = false) : Vr w (zb X) z (.pointer (some ⟨X.heap.size, 0, none⟩)) u st :=
  ⟨X.heap.size, rfl, hX.b2.lt, by simp [zb], fun _ => BxW.new X 0 none 0 0, fun h => by rw [hs] at h; cases h⟩
theorem SmI.s8 (h : SmI w x y A A' c c' g t7 t8 t16 t17 t18 t19 t20 t21 t22 t23 X) (hg : g 8 = false) : SmI w x y A A' c c' (upd g 8) (.pointer (some ⟨X.heap.size, 0, none⟩)) t8 t16 t17 t18 t19 t20 t21 t22 t23 (zb X) := by
  have h' := h.up (ba1 X (.cells #[.int .i64 0, .slice none 0 0] 24))
  have h10 : g 10 = false := by
    cases e : g 10 with
    | false => rfl
    | true => have := h.c10 e; rw [hg] at this; cases this
  refine ⟨h'.on, h'.f0, h'.f1, h'.f2, fun e => (h.f3 e).var7, h'.f4, h'.f5, h'.f6, fun e => (h.f7 e).var7, h'.c6, fun _ => Vr.new h.on _ _ h10, h'.f9, fun _ => rfl, h'.c11, h'.d10, h'.d11, h'.c12, fun hh => (by cases hh), h'.n9, fun b e1 e2 => ?_⟩
  injection e1 with e; injection e with e; injection e with e
  have := h.low (.inr e2)
  omega
theorem SmI.s9 (h : SmI w x y A A' c c' g t7 t8 t16 t17 t18 t19 t20 t21 t22 t23 X) (hg : g 9 = false) : SmI w x y A A' c c' (upd g 9) t7 (.pointer (some ⟨X.heap.size, 0, none⟩)) t16 t17 t18 t19 t20 t21 t22 t23 (zb X) := by
  have h' := h.up (ba1 X (.cells #[.int .i64 0, .slice none 0 0] 24))
  have h11 : g 11 = false := by
    cases e : g 11 with
    | false => rfl
    | true => have := h.c11 e; rw [hg] at this; cases this
  refine ⟨h'.on, h'.f0, h'.f1, h'.f2, fun e => (h.f3 e).var8, h'.f4, h'.f5, h'.f6, fun e => (h.f7 e).var8, h'.c6, h'.f8, fun _ => Vr.new h.on _ _ h11, h'.c10, fun _ => rfl, h'.d10, h'.d11, h'.c12, h'.n8, fun hh => (by cases hh), fun b e1 e2 => ?_⟩
  injection e2 with e; injection e with e; injection e with e
  have := h.low (.inl e1)
  omega
/-- The store into a variable. -/
def stW (X : World) (b : Nat) (p : Int) (A : Option Addr) (n c : Nat) : World := (X.setCell ⟨b, 0, none⟩ (.int .i64 p)).setCell ⟨b, 1, none⟩ (.slice A n c)
theorem stW_far (X : World) (b : Nat) (p : Int) (A : Option Addr) (n c : Nat) {k : Nat} (h : k ≠ b) : (stW X b p A n c).heap[k]? = X.heap[k]? := set2_far h _ _
theorem stW_size (X : World) (b : Nat) (p : Int) (A : Option Addr) (n c : Nat) : (stW X b p A n c).heap.size = X.heap.size := by simp [stW, setCell_sz]
theorem stW_box {X : World} {b : Nat} (h : BxW X b 0 none 0 0) (p : Int) (A : Option Addr) (n c : Nat) : BxW (stW X b p A n c) b p A n c := by
  unfold BxW stW at *
  simp [World.setCell, Array.getElem?_modify, h]
theorem row_stW {X : World} {b : Nat} {p : Int} {A B : Option Addr} {n c : Nat} {l : List Int} (h : Row X X.heap.size B l) (hne : ∀ a, B = some a → a.block ≠ b ∨ l.length = 0) : Row (stW X b p A n c) (stW X b p A n c).heap.size B l := by
  refine ⟨h.1, fun hn => ?_⟩
  obtain ⟨b', o, rfl, hb, hc⟩ := h.2 hn
  have hbb : b' ≠ b := by
    rcases hne _ rfl with h1 | h1
    · exact h1
    · omega
  refine ⟨b', o, rfl, by rw [stW_size]; exact hb, fun i hi => ?_⟩
  have h1 := hc i hi
  unfold World.cell? at h1 ⊢
  rw [stW_far X b p A n c hbb]; exact h1
theorem two_stW (hX : TwO w x.p y.p A A' x.hs.length y.hs.length c c' X) {b : Nat} (hb : w.heap.size + 1 < b) (p : Int) (D : Option Addr) (n k : Nat) : TwO w x.p y.p A A' x.hs.length y.hs.length c c' (stW X b p D n k) :=
  ⟨set2_below hX.below (by omega) _ _, hX.b1.to (stW_far X b p D n k (by omega)), hX.b2.to (stW_far X b p D n k (by omega))⟩
theorem SmI.s10 (h : SmI w x y A A' c c' g t7 t8 t16 t17 t18 t19 t20 t21 t22 t23 X) (h2 : g 2 = true) (h3 : g 3 = true) (h7 : g 7 = true) (h8 : g 8 = true) (h9 : g 9 = true) (h10 : g 10 = false) (h11 : g 11 = false) :
    ∃ b D k, t7 = .pointer (some ⟨b, 0, none⟩) ∧ t19 = wnV (plW x).p D (plW x).hs.length k ∧ BxW X b 0 none 0 0 ∧ SmI w x y A A' c c' (upd g 10) t7 t8 t16 t17 t18 t19 t20 t21 t22 t23 (stW X b (plW x).p D (plW x).hs.length k) := by
  obtain ⟨b, e7, v1, v2, v3, _⟩ := h.f8 h8
  obtain ⟨b', e8, u1, u2, u3, _⟩ := h.f9 h9
  obtain ⟨D, k, e19, r1, r2⟩ := h.f3 h3
  obtain ⟨D', k', e23, q1, q2⟩ := h.f7 h7
  have hbb : b' ≠ b := fun e => h.ne b e7 (by rw [e8, e])
  refine ⟨b, D, k, e7, e19, v3 h10, two_stW h.on v1 _ _ _ _, h.f0, fun _ hh => ?_, fun _ hh => ?_, fun _ => ⟨D, k, e19, row_stW r1 (r2 b (.inl e7)), r2⟩, h.f4, fun _ hh => ?_, fun _ hh => ?_, fun _ => ⟨D', k', e23, row_stW q1 (q2 b (.inl e7)), q2⟩, h.c6, fun _ => ?_, fun _ => ?_, fun _ => h8, h.c11, fun _ => h3, h.d11, fun _ => rfl, h.n8, h.n9, h.ne⟩
  · have : g 2 = false := hh
    rw [h2] at this; cases this
  · have : g 3 = false := hh
    rw [h3] at this; cases this
  · have : g 6 = false := hh
    rw [h.c6 h7] at this; cases this
  · have : g 7 = false := hh
    rw [h7] at this; cases this
  · exact ⟨b, e7, v1, by rw [stW_size]; exact v2, fun hh => (by cases hh), fun _ => ⟨D, k, e19, stW_box (v3 h10) _ _ _ _⟩⟩
  · exact ⟨b', e8, u1, by rw [stW_size]; exact u2, fun _ => (u3 h11).to (stW_far X b _ _ _ _ hbb), fun hh => absurd (show g 11 = true from hh) (by rw [h11]; simp)⟩
theorem SmI.s11 (h : SmI w x y A A' c c' g t7 t8 t16 t17 t18 t19 t20 t21 t22 t23 X) (h2 : g 2 = true) (h3 : g 3 = true) (h6 : g 6 = true) (h7 : g 7 = true) (h8 : g 8 = true) (h9 : g 9 = true) (h10 : g 10 = true) (h11 : g 11 = false) :
    ∃ b D k, t8 = .pointer (some ⟨b, 0, none⟩) ∧ t23 = wnV (plW y).p D (plW y).hs.length k ∧ BxW X b 0 none 0 0 ∧ SmI w x y A A' c c' (upd g 11) t7 t8 t16 t17 t18 t19 t20 t21 t22 t23 (stW X b (plW y).p D (plW y).hs.length k) := by
  obtain ⟨b', e7, v1, v2, _, v4⟩ := h.f8 h8
  obtain ⟨b, e8, u1, u2, u3, _⟩ := h.f9 h9
  obtain ⟨D', k', e19, r1, r2⟩ := h.f3 h3
  obtain ⟨D, k, e23, q1, q2⟩ := h.f7 h7
  have hbb : b' ≠ b := fun e => h.ne b' e7 (by rw [e8, e])
  refine ⟨b, D, k, e8, e23, u3 h11, two_stW h.on u1 _ _ _ _, h.f0, fun _ hh => ?_, fun _ hh => ?_, fun _ => ⟨D', k', e19, row_stW r1 (r2 b (.inr e8)), r2⟩, h.f4, fun _ hh => ?_, fun _ hh => ?_, fun _ => ⟨D, k, e23, row_stW q1 (q2 b (.inr e8)), q2⟩, h.c6, fun _ => ?_, fun _ => ?_, h.c10, fun _ => h9, h.d10, fun _ => h7, fun _ => h10, h.n8, h.n9, h.ne⟩
  · have : g 2 = false := hh
    rw [h2] at this; cases this
  · have : g 3 = false := hh
    rw [h3] at this; cases this
  · have : g 6 = false := hh
    rw [h6] at this; cases this
  · have : g 7 = false := hh
    rw [h7] at this; cases this
  · obtain ⟨D2, k2, w1, w2⟩ := v4 h10
    refine ⟨b', e7, v1, by rw [stW_size]; exact v2, fun hh => ?_, fun _ => ⟨D2, k2, w1, w2.to (stW_far X b _ _ _ _ hbb)⟩⟩
    have : g 10 = false := hh
    rw [h10] at this; cases this
  · exact ⟨b, e8, u1, by rw [stW_size]; exact u2, fun hh => (by cases hh), fun _ => ⟨D, k, e23, stW_box (u3 h11) _ _ _ _⟩⟩
end
end Go.Proofs.Ytlnpnfjdcnijhaa
