/-
  Windows taken together: the program's function.
-/
import Derived.Test.YtlnpnfjdcnijhaaBr
namespace Go.Proofs.Ytlnpnfjdcnijhaa
open Go.RowKit Go.Deep M
set_option linter.unusedVariables false
set_option linter.unusedSimpArgs false

/-- The period of the first windows taken together. -/
def perT (D : List Wc) : Nat → Nat
  | 0 => 1
  | k + 1 => mulN (perT D k) (wc D k).x.p.toNat
/-- Are the first windows all open? -/
def opT (D : List Wc) : Nat → Int → Bool
  | 0 => fun _ => true
  | k + 1 => fun h => opT D k h && opB (wc D k).x h
theorem perT_succ {D : List Wc} {k q : Nat} (hq : (wc D k).x.p = (q : Int)) : perT D (k + 1) = mulN (perT D k) q := by
  show mulN (perT D k) (wc D k).x.p.toNat = _
  rw [hq, Int.toNat_natCast]
theorem opT_succ (D : List Wc) (k : Nat) : opT D (k + 1) = fun h => opT D k h && opB (wc D k).x h := rfl
theorem wns_at {D : List Wc} {most : Int} (h : wnsB D most = true) {k : Nat} (hk : k < D.length) : winB (wc D k).x most = true := by
  unfold wnsB at h
  rw [decide_eq_true_iff] at h
  exact h k hk
theorem perT_le {D : List Wc} (h : wnsB D 60 = true) : ∀ k, k ≤ D.length → 1 ≤ perT D k ∧ perT D k ≤ 60 ^ k := by
  intro k
  induction k with
  | zero => intro _; exact ⟨Nat.le_refl _, Nat.le_refl _⟩
  | succ k ih =>
    intro hk
    obtain ⟨a, b⟩ := ih (by omega)
    obtain ⟨q, hq, q1, q2, _⟩ := win_nat (wns_at h (show k < D.length by omega))
    rw [perT_succ hq]
    refine ⟨mulN_pos a q1, ?_⟩
    have h1 := mulN_le (perT D k) q
    have h2 : perT D k * q ≤ 60 ^ k * 60 := Nat.mul_le_mul b (by omega)
    rw [Nat.pow_succ]; omega
theorem opT_per {D : List Wc} (h : wnsB D 60 = true) : ∀ k, k ≤ D.length → PerM (opT D k) (perT D k) := by
  intro k
  induction k with
  | zero => intro _ z; rfl
  | succ k ih =>
    intro hk
    obtain ⟨q, hq, q1, q2, _⟩ := win_nat (wns_at h (show k < D.length by omega))
    rw [perT_succ hq, opT_succ]
    exact ((ih (by omega)).dvd (dvd_mulN_left _ _)).and ((opB_perM hq).dvd (dvd_mulN_right _ _))
def okB (D : List Wc) (fits : Bool) : Bool := decide (1 ≤ D.length) && decide (D.length ≤ 4) && fits
/-- The error of windows taken together. -/
def togE (D : List Wc) (fits : Bool) : Int := if wnsB D 60 = true then (if okB D fits = true then (if 100000 < perT D D.length then 4 else 0) else 2) else 50
theorem BxO.zero (w : World) : BxO (w.alloc (.cells #[.int .i64 0, .nilFunc] 74)) w.heap.size 0 .nilFunc := BxO.new w 0 .nilFunc

set_option maxRecDepth 100000 in
set_option maxHeartbeats 4000000 in
theorem together_bad (B : Nat) (A : Option Addr) (c : Nat) (D : List Wc) (fits : Bool) (er : Int) (w : World) (h : Wds w B A D) (hB : B ≤ w.heap.size) (he : errW D 60 (okB D fits) = er) (her : er = 2 ∨ er = 50) :
    Calls Try.prog 85 #[.slice A D.length c, .bool fits] w fun e w' => e = .returned (.tuple #[.agg #[.int .i64 0, .nilFunc], .int .i64 er]) ∧ Below w.heap.size w w' := by
  have h63 := h.1
  have hb1 := ba1 w (.cells #[.int .i64 0, .nilFunc] 74)
  have hr := BxO.zero w
  have c63 := checkedW_any B A c D 60 (okB D fits) _ (h.below (hb1.mono hB)) (Nat.le_trans hB hb1.size) (by omega)
  rw [he] at c63
  clear he
  unfold okB at c63
  have hne : ¬ (er = 0) := by omega
  obtain ⟨n, hn⟩ : ∃ n, n = D.length := ⟨_, rfl⟩
  rw [← hn] at h63 c63 ⊢
  replace hn := Lib.hid hn
  replace her := Lib.hid her
  replace hb1 := Lib.hid hb1
  replace hr := Lib.hid hr
  have hend : ∀ X1, Below (w.alloc (.cells #[.int .i64 0, .nilFunc] 74)).heap.size (w.alloc (.cells #[.int .i64 0, .nilFunc] 74)) X1 → BxO X1 w.heap.size 0 .nilFunc ∧ Below w.heap.size w X1 := fun X1 hb => ⟨hr.out.up hb, hb1.out.trans (hb.mono hb1.out.size)⟩
  replace hend := Lib.hid hend
  by_cases g1 : 1 ≤ n
  · by_cases g2 : n ≤ 4
    · rw [decide_eq_true g1, decide_eq_true g2, Bool.true_and, Bool.true_and] at c63
      cases fits
      all_goals
        replace c63 := Lib.hid c63
        go_enter Try.func85, Try.ntmps85
        go_wp2_with fail
        refine c63.out.mono ?_
        rintro e X1 ⟨rfl, hb⟩
        obtain ⟨hX1, hbe⟩ := hend.out X1 hb
        have z0 := hX1.c0
        have z1 := hX1.c1
        have z2 : X1.frozen? ⟨w.heap.size, 0, none⟩ = false := by simp [World.frozen?, show X1.heap[w.heap.size]? = _ from hX1]
        have z3 : X1.frozen? ⟨w.heap.size, 1, none⟩ = false := by simp [World.frozen?, show X1.heap[w.heap.size]? = _ from hX1]
        have zl := hX1.lt
        obtain ⟨y0, y1⟩ := res_cells hX1 (.int .i64 0) .nilFunc
        have hz := set2_below hbe (Nat.le_refl w.heap.size) (.int .i64 0) .nilFunc
        replace hX1 := Lib.hid hX1
        replace hbe := Lib.hid hbe
        replace hb := Lib.hid hb
        replace hz := Lib.hid hz
        go_wp2
        exact bodyPost_ret (v := .tuple #[.agg #[.int .i64 0, .nilFunc], .int .i64 er]) (by simp [results, Try.results85, go_sem, y0, y1]) rfl ⟨rfl, hz.out⟩
    · rw [decide_eq_true g1, decide_eq_false g2, Bool.true_and, Bool.false_and] at c63
      replace c63 := Lib.hid c63
      go_enter Try.func85, Try.ntmps85
      go_wp2_with fail
      refine c63.out.mono ?_
      rintro e X1 ⟨rfl, hb⟩
      obtain ⟨hX1, hbe⟩ := hend.out X1 hb
      have z0 := hX1.c0
      have z1 := hX1.c1
      have z2 : X1.frozen? ⟨w.heap.size, 0, none⟩ = false := by simp [World.frozen?, show X1.heap[w.heap.size]? = _ from hX1]
      have z3 : X1.frozen? ⟨w.heap.size, 1, none⟩ = false := by simp [World.frozen?, show X1.heap[w.heap.size]? = _ from hX1]
      have zl := hX1.lt
      obtain ⟨y0, y1⟩ := res_cells hX1 (.int .i64 0) .nilFunc
      have hz := set2_below hbe (Nat.le_refl w.heap.size) (.int .i64 0) .nilFunc
      replace hX1 := Lib.hid hX1
      replace hbe := Lib.hid hbe
      replace hb := Lib.hid hb
      replace hz := Lib.hid hz
      go_wp2
      exact bodyPost_ret (v := .tuple #[.agg #[.int .i64 0, .nilFunc], .int .i64 er]) (by simp [results, Try.results85, go_sem, y0, y1]) rfl ⟨rfl, hz.out⟩
  · rw [decide_eq_false g1, Bool.false_and, Bool.false_and] at c63
    replace c63 := Lib.hid c63
    go_enter Try.func85, Try.ntmps85
    go_wp2_with fail
    refine c63.out.mono ?_
    rintro e X1 ⟨rfl, hb⟩
    obtain ⟨hX1, hbe⟩ := hend.out X1 hb
    have z0 := hX1.c0
    have z1 := hX1.c1
    have z2 : X1.frozen? ⟨w.heap.size, 0, none⟩ = false := by simp [World.frozen?, show X1.heap[w.heap.size]? = _ from hX1]
    have z3 : X1.frozen? ⟨w.heap.size, 1, none⟩ = false := by simp [World.frozen?, show X1.heap[w.heap.size]? = _ from hX1]
    have zl := hX1.lt
    obtain ⟨y0, y1⟩ := res_cells hX1 (.int .i64 0) .nilFunc
    have hz := set2_below hbe (Nat.le_refl w.heap.size) (.int .i64 0) .nilFunc
    replace hX1 := Lib.hid hX1
    replace hbe := Lib.hid hbe
    replace hb := Lib.hid hb
    replace hz := Lib.hid hz
    go_wp2
    exact bodyPost_ret (v := .tuple #[.agg #[.int .i64 0, .nilFunc], .int .i64 er]) (by simp [results, Try.results85, go_sem, y0, y1]) rfl ⟨rfl, hz.out⟩

/-- The world in which windows are taken together. -/
structure TgW (w : World) (b8 : Nat) (D : List Wc) (k : Nat) (F : Value) (X : World) : Prop where
  below : Below w.heap.size w X
  res : BxO X w.heap.size 0 .nilFunc
  box : BxO X b8 (perT D k : Nat) F
  lt : w.heap.size < b8
  op : ∃ S, OpnF X S F (opT D k) ∧ ∀ b, S b → w.heap.size < b ∧ b ≠ b8
theorem TgW.up {w X Y : World} {b8 k : Nat} {D : List Wc} {F : Value} (h : TgW w b8 D k F X) (hb : Below X.heap.size X Y) : TgW w b8 D k F Y :=
  ⟨h.below.trans (hb.mono h.below.size), h.res.up hb, h.box.up hb, h.lt, by obtain ⟨S, h1, h2⟩ := h.op; exact ⟨S, h1.up hb, h2⟩⟩
theorem TgW.drew {w X : World} {b8 k : Nat} {D : List Wc} {F : Value} (h : TgW w b8 D k F X) : TgW w b8 D k F X.drew :=
  ⟨below_drew h.below, h.res, h.box, h.lt, by obtain ⟨S, h1, h2⟩ := h.op; exact ⟨S, h1.to fun _ _ => rfl, h2⟩⟩
theorem BxO.set {w : World} {b : Nat} {p q : Int} {F G : Value} (h : BxO w b p F) : BxO ((w.setCell ⟨b, 0, none⟩ (.int .i64 q)).setCell ⟨b, 1, none⟩ G) b q G := by
  unfold BxO at *
  simp [World.setCell, Array.getElem?_modify, h]
theorem TgW.next {w X : World} {b8 k m : Nat} {D : List Wc} {F H : Value} (h : TgW w b8 D k F X) (hm : perT D (k + 1) = m) (hH : ∃ S, OpnF X S H (opT D (k + 1)) ∧ ∀ b, S b → w.heap.size < b ∧ b ≠ b8) :
    TgW w b8 D (k + 1) H ((X.setCell ⟨b8, 0, none⟩ (.int .i64 (m : Nat))).setCell ⟨b8, 1, none⟩ H) := by
  have hl := h.lt
  refine ⟨set2_below h.below (by omega) _ _, (set2_far (show w.heap.size ≠ b8 by omega) _ _).trans h.res, by rw [hm]; exact h.box.set, h.lt, ?_⟩
  obtain ⟨S, h1, h2⟩ := hH
  exact ⟨S, h1.to fun b hb => set2_far (h2 b hb).2 _ _, h2⟩
end Go.Proofs.Ytlnpnfjdcnijhaa
