/-
  The pairs' bound: the program's functions.
-/
import Derived.Test.YtgjgpcpghglnnaaO
namespace Go.Proofs.Ytgjgpcpghglnnaa
open Go.RowKit Go.Deep M
set_option linter.unusedVariables false
set_option linter.unusedSimpArgs false

namespace M
/-- The least harm that comes about because one of two jobs is done before the other one. -/
def lsP (same : Bool) (x y : Jb) : Int := if same = true then x.h * y.m else min (x.h * y.m) (y.h * x.m)
/-- The same of the jobs at two places of an order. -/
def lsF (J : List (List Jb)) (o : List Int) (i k : Nat) : Int := lsP (decide (el o i = el o k)) (jbAt J o i) (jbAt J o k)
/-- What a place tells with the next t places. -/
def bi (J : List (List Jb)) (o : List Int) (i : Nat) : Nat → Int
  | 0 => 0
  | t + 1 => bi J o i t + lsF J o i (i + 1 + t)
/-- What the first i places tell. -/
def bs (J : List (List Jb)) (o : List Int) : Nat → Int
  | 0 => 0
  | i + 1 => bs J o i + (jbAt J o i).h * (jbAt J o i).m + bi J o i (o.length - (i + 1))
theorem bi_succ (J : List (List Jb)) (o : List Int) (i t : Nat) : bi J o i (t + 1) = bi J o i t + lsF J o i (i + 1 + t) := rfl
theorem bs_succ (J : List (List Jb)) (o : List Int) (i : Nat) : bs J o (i + 1) = bs J o i + (jbAt J o i).h * (jbAt J o i).m + bi J o i (o.length - (i + 1)) := rfl
theorem lsP_b {x y : Jb} (hx : okJ x) (hy : okJ y) (q : Bool) : 0 ≤ lsP q x y ∧ lsP q x y ≤ 10000 := by
  obtain ⟨⟨a, b⟩, c, d⟩ := hx
  obtain ⟨⟨a', b'⟩, c', d'⟩ := hy
  have h1 : 0 ≤ x.h * y.m := Int.mul_nonneg (by omega) c'
  have h2 : 0 ≤ y.h * x.m := Int.mul_nonneg (by omega) c
  have h3 : x.h * y.m ≤ 100 * 100 := Int.mul_le_mul b d' c' (by omega)
  unfold lsP
  split
  · omega
  · omega
theorem bi_b {J : List (List Jb)} {o : List Int} (hv : vJ J) (hr' : Runs J o) {i : Nat} (hi : i < o.length) : ∀ t, i + 1 + t ≤ o.length → 0 ≤ bi J o i t ∧ bi J o i t ≤ 10000 * t := by
  intro t
  induction t with
  | zero => intro _; exact ⟨Int.le_refl _, Int.le_refl _⟩
  | succ t ih =>
    intro ht
    have h1 := ih (by omega)
    have h2 := lsP_b (at_ok hv hr' hi) (at_ok hv hr' (show i + 1 + t < o.length by omega)) (decide (el o i = el o (i + 1 + t)))
    rw [bi_succ]
    unfold lsF
    omega
theorem bs_b {J : List (List Jb)} {o : List Int} (hv : vJ J) (hr' : Runs J o) (h12 : o.length ≤ 12) : ∀ i, i ≤ o.length → 0 ≤ bs J o i ∧ bs J o i ≤ 130000 * i := by
  intro i
  induction i with
  | zero => intro _; exact ⟨Int.le_refl _, Int.le_refl _⟩
  | succ i ih =>
    intro hi
    have h1 := ih (by omega)
    have h2 := bi_b hv hr' (show i < o.length by omega) (o.length - (i + 1)) (by omega)
    obtain ⟨⟨a, b⟩, c, d⟩ := at_ok hv hr' (show i < o.length by omega)
    have h3 : 0 ≤ (jbAt J o i).h * (jbAt J o i).m := Int.mul_nonneg (by omega) c
    have h4 : (jbAt J o i).h * (jbAt J o i).m ≤ 100 * 100 := Int.mul_le_mul b d c (by omega)
    rw [bs_succ]
    omega
end M

def Bxv (w : World) (b : Nat) (h m p d : Int) : Prop := w.heap[b]? = some (.cells #[.int .i64 h, .int .i64 m, .int .i64 p, .int .i64 d] 67 (0, 0))
theorem Bxv.cell {w : World} {b : Nat} {h m p d : Int} (x : Bxv w b h m p d) : w.cell? ⟨b, 0, none⟩ = some (.int .i64 h) ∧ w.cell? ⟨b, 1, none⟩ = some (.int .i64 m) ∧ w.cell? ⟨b, 2, none⟩ = some (.int .i64 p) ∧ w.cell? ⟨b, 3, none⟩ = some (.int .i64 d) := by
  unfold Bxv at x
  exact ⟨by simp [World.cell?, x], by simp [World.cell?, x], by simp [World.cell?, x], by simp [World.cell?, x]⟩
theorem Bxv.new (w : World) (h m p d : Int) : Bxv (w.alloc (.cells #[.int .i64 h, .int .i64 m, .int .i64 p, .int .i64 d] 67)) w.heap.size h m p d := heap_alloc_new w _
theorem Bxv.up {w w' : World} {b : Nat} {h m p d : Int} (x : Bxv w b h m p d) (hb : Below w.heap.size w w') : Bxv w' b h m p d := (hb.block b (blk_lt x)).trans x

set_option maxRecDepth 100000 in
set_option maxHeartbeats 2000000 in
theorem least_any (x y : Jb) (p d p' d' : Int) (w : World) (hx : okJ x) (hy : okJ y) (q : Bool) (hq : q = decide (p = p')) :
    Calls Try.prog 84 #[.agg #[.int .i64 x.h, .int .i64 x.m, .int .i64 p, .int .i64 d], .agg #[.int .i64 y.h, .int .i64 y.m, .int .i64 p', .int .i64 d']] w fun e w' => e = .returned (.int .i64 (lsP q x y)) ∧ Below w.heap.size w w' := by
  obtain ⟨⟨x1, x2⟩, x3, x4⟩ := hx
  obtain ⟨⟨y1, y2⟩, y3, y4⟩ := hy
  obtain ⟨xh, xm⟩ := x
  obtain ⟨yh, ym⟩ := y
  simp only [] at *
  have hb2 : Below w.heap.size w ((w.alloc (.cells #[.int .i64 xh, .int .i64 xm, .int .i64 p, .int .i64 d] 67)).alloc (.cells #[.int .i64 yh, .int .i64 ym, .int .i64 p', .int .i64 d'] 67)) := ((Below.refl _ _).alloc (Nat.le_refl _) _).alloc (by simp) _
  have p1 : 0 ≤ xh * ym ∧ xh * ym ≤ 100 * 100 := ⟨Int.mul_nonneg (by omega) y3, Int.mul_le_mul x2 y4 y3 (by omega)⟩
  have p2 : 0 ≤ yh * xm ∧ yh * xm ≤ 100 * 100 := ⟨Int.mul_nonneg (by omega) x3, Int.mul_le_mul y2 x4 x3 (by omega)⟩
  have hls : lsP q ⟨xh, xm⟩ ⟨yh, ym⟩ = if q = true then xh * ym else min (xh * ym) (yh * xm) := rfl
  rw [hls]
  obtain ⟨a, ha⟩ : ∃ a, a = xh * ym := ⟨_, rfl⟩
  obtain ⟨b, hb⟩ : ∃ a, a = yh * xm := ⟨_, rfl⟩
  rw [← ha] at p1 ⊢
  rw [← hb] at p2 ⊢
  have w1 : IntKind.i64.wrap (xh * ym) = a := by rw [← ha]; exact IntWalk.i64_in _ (by omega)
  have w2 : IntKind.i64.wrap (yh * xm) = b := by rw [← hb]; exact IntWalk.i64_in _ (by omega)
  have v1 : xh * ym = a := ha.symm
  have v2 : yh * xm = b := hb.symm
  replace ha := Lib.hid ha
  replace hb := Lib.hid hb
  replace hls := Lib.hid hls
  replace hb2 := Lib.hid hb2
  by_cases hpp : p = p'
  · subst hpp
    rw [decide_eq_true rfl] at hq
    subst hq
    rw [if_pos rfl]
    go_enter Try.func84, Try.ntmps84
    go_wp2
    go_ret
    exact ⟨rfl, hb2.out⟩
  · rw [decide_eq_false hpp] at hq
    subst hq
    rw [if_neg (by decide)]
    have hpb : (p == p') = false := by simpa using hpp
    by_cases hab : a ≤ b
    · rw [Int.min_eq_left hab]
      go_enter Try.func84, Try.ntmps84
      go_wp2
      go_ret
      exact ⟨ret_int (by omega), hb2.out⟩
    · rw [Int.min_eq_right (by omega)]
      go_enter Try.func84, Try.ntmps84
      go_wp2
      go_ret
      exact ⟨ret_int (by omega), hb2.out⟩

set_option maxRecDepth 100000 in
set_option maxHeartbeats 8000000 in
theorem bound_any (B : Nat) (A : Option Addr) (c : Nat) (D : List Bc) (w : World) (h : Bcs w B A D) (hB : B ≤ w.heap.size) (hv : vJ (bl D)) :
    Calls Try.prog 66 #[.slice A D.length c] w fun e w' => e = .returned (.int .i64 (bs (bl D) (fo (bl D) D.length) (fo (bl D) D.length).length)) ∧ Below w.heap.size w w' := by
  have h63 := h.1
  have hlen := bl_len D
  have c59 := inTurn_any B A c D w h hB hv
  have hr := (fo_runs (bl D) D.length (by rw [hlen]; exact Nat.le_refl _)).2
  have h12 : (fo (bl D) D.length).length ≤ 12 := by
    rw [fo_len]; exact Nat.le_trans (tn_mono (bl D) (show D.length ≤ (bl D).length by rw [hlen]; exact Nat.le_refl _)) hv.2.1
  obtain ⟨o, ho⟩ : ∃ o, o = fo (bl D) D.length := ⟨_, rfl⟩
  rw [← ho] at c59 h12 hr ⊢
  have hbs := bs_b hv hr h12
  have hbi := fun i (hi : i < o.length) => bi_b hv hr hi
  have hok := fun i (hi : i < o.length) => at_ok hv hr hi
  have hss := bs_succ (bl D) o
  have his := bi_succ (bl D) o
  obtain ⟨J, hJ⟩ : ∃ J, J = bl D := ⟨_, rfl⟩
  rw [← hJ] at c59 hbs hbi hok hss his ⊢
  obtain ⟨m, hm⟩ : ∃ m, m = o.length := ⟨_, rfl⟩
  rw [← hm] at c59 h12 hbs hbi hok hss ⊢
  obtain ⟨R, hR⟩ : ∃ R, R = bs J o m := ⟨_, rfl⟩
  rw [← hR]
  have hz := Lib.hid (show bs J o 0 = 0 from rfl)
  generalize D.length = n at *
  replace hR := Lib.hid hR
  replace hlen := Lib.hid hlen
  replace c59 := Lib.hid c59
  replace hbs := Lib.hid hbs
  replace hbi := Lib.hid hbi
  replace hok := Lib.hid hok
  replace hss := Lib.hid hss
  replace his := Lib.hid his
  replace hJ := Lib.hid hJ
  replace ho := Lib.hid ho
  replace hm := Lib.hid hm
  replace hr := Lib.hid hr
  replace hv := Lib.hid hv
  replace h := Lib.hid h
  go_enter Try.func66, Try.ntmps66
  go_wp2_with fail
  refine c59.out.mono ?_
  rintro e X ⟨g, rfl, hX, hV⟩
  replace hX := Lib.hid hX
  replace hV := Lib.hid hV
  go_wp2
  go_loopw [3, 5, 6, 8, 13] (fun s _ _ _ i X => ∃ k : Nat, k ≤ m ∧ i = .int .i64 (k : Nat) ∧ s = .int .i64 (bs J o k) ∧ Below w.heap.size w X ∧ BlV X g m (vv J o)) (fun _ _ _ _ i _ => m - (intOf i).toNat)
  case atStart => exact ⟨0, by omega, rfl, by rw [hz.out], hX.out, hV.out⟩
  case round =>
    clear hX hV
    obtain ⟨k, hk, rfl, rfl, hX, hV⟩ := hrel
    by_cases hlk : k < m
    · have v0 := hV.cell hlk 0 (by omega)
      have v1 := hV.cell hlk 1 (by omega)
      have v2 := hV.cell hlk 2 (by omega)
      have v3 := hV.cell hlk 3 (by omega)
      rw [Nat.add_zero] at v0
      have hx := hok.out k hlk
      obtain ⟨b1, b2⟩ := hbs.out k hk
      obtain ⟨b3, b4⟩ := hbs.out (k + 1) hlk
      have hs1 := hss.out k
      have hib := hbi.out k hlk
      have hie := his.out k
      have e0 : vv J o k 0 = (jbAt J o k).h := rfl
      have e1 : vv J o k 1 = (jbAt J o k).m := rfl
      have e2 : vv J o k 2 = el o k := rfl
      rw [e0] at v0
      rw [e1] at v1
      rw [e2] at v2
      obtain ⟨dn, hdn⟩ : ∃ d, d = vv J o k 3 := ⟨_, rfl⟩
      rw [← hdn] at v3
      have hls : ∀ t, lsF J o k (k + 1 + t) = lsP (decide (el o k = el o (k + 1 + t))) (jbAt J o k) (jbAt J o (k + 1 + t)) := fun t => rfl
      obtain ⟨x, hxx⟩ : ∃ x, x = jbAt J o k := ⟨_, rfl⟩
      rw [← hxx] at v0 v1 hx hs1 hls
      obtain ⟨p, hp⟩ : ∃ p, p = el o k := ⟨_, rfl⟩
      rw [← hp] at v2 hls
      obtain ⟨S, hS⟩ : ∃ S, S = bs J o k := ⟨_, rfl⟩
      rw [← hS] at b1 b2 hs1 ⊢
      obtain ⟨S2, hS2⟩ : ∃ S, S = bs J o (k + 1) := ⟨_, rfl⟩
      rw [← hS2] at b3 b4 hs1
      have hk84 := fun (y : Jb) (p' d' : Int) X (hy : okJ y) q hq => least_any x y p dn p' d' X hx hy q hq
      obtain ⟨⟨x1, x2⟩, x3, x4⟩ := hx
      obtain ⟨xh, xm⟩ := x
      simp only [] at v0 v1 hs1 x1 x2 x3 x4 hk84
      obtain ⟨Q, hQ⟩ : ∃ Q, Q = xh * xm := ⟨_, rfl⟩
      have q1 : 0 ≤ Q ∧ Q ≤ 100 * 100 := by rw [hQ]; exact ⟨Int.mul_nonneg (by omega) x3, Int.mul_le_mul x2 x4 x3 (by omega)⟩
      rw [← hQ] at hs1
      have m1 : xh * xm = Q := hQ.symm
      have m2 : IntKind.i64.wrap (xh * xm) = Q := by rw [m1]; exact IntWalk.i64_in _ (by omega)
      have hSb : 0 ≤ S ∧ S ≤ 2000000 := by omega
      obtain ⟨T, hT⟩ : ∃ T, T = S + Q := ⟨_, rfl⟩
      have m3 : S + Q = T := hT.symm
      have hTb : 0 ≤ T ∧ T ≤ 3000000 := by omega
      have m4 : IntKind.i64.wrap (S + Q) = T := by rw [m3]; exact IntWalk.i64_in _ (by omega)
      rw [← hT] at hs1
      have hz2 := Lib.hid (show T + bi J o k 0 = T from Int.add_zero _)
      have hX1 := bel_trans hX (ba1 wr (.cells #[.int .i64 xh, .int .i64 xm, .int .i64 p, .int .i64 dn] 67))
      have hV1 := hV.up (ba1 wr (.cells #[.int .i64 xh, .int .i64 xm, .int .i64 p, .int .i64 dn] 67))
      have hb1 := Bxv.new wr xh xm p dn
      have hvb := hV.lt
      obtain ⟨L, hL⟩ : ∃ L, L = m - (k + 1) := ⟨_, rfl⟩
      rw [← hL] at hs1
      have hkw : IntKind.i64.wrap ((k : Int) + 1) = (k : Int) + 1 := IntWalk.i64_in _ (by omega)
      have hkm : (k : Int) + 1 ≤ (m : Int) := by omega
      clear b1 b2 b3 b4
      replace hX1 := Lib.hid hX1
      replace hV1 := Lib.hid hV1
      replace hb1 := Lib.hid hb1
      replace hS := Lib.hid hS
      replace hS2 := Lib.hid hS2
      replace hs1 := Lib.hid hs1
      replace hib := Lib.hid hib
      replace hie := Lib.hid hie
      replace hls := Lib.hid hls
      replace hk84 := Lib.hid hk84
      replace hxx := Lib.hid hxx
      replace hp := Lib.hid hp
      replace hdn := Lib.hid hdn
      replace hQ := Lib.hid hQ
      replace hT := Lib.hid hT
      replace e0 := Lib.hid e0
      replace e1 := Lib.hid e1
      replace e2 := Lib.hid e2
      replace hX := Lib.hid hX
      replace hV := Lib.hid hV
      obtain ⟨bx, hbx⟩ : ∃ b, b = wr.heap.size := ⟨_, rfl⟩
      by_cases hlast : k + 1 = m
      · have hL0 : L = 0 := by omega
        have hend : S2 = T := by have := hs1.out; rw [hL0] at this; rw [this]; exact Int.add_zero _
        replace hL := Lib.hid hL
        replace hbx := Lib.hid hbx
        replace hend := Lib.hid hend
        subst hlast
        go_wp2
        go_loopw [3, 8, 32] (fun s _ i X => i = .int .i64 0 ∧ s = .int .i64 T ∧ Below w.heap.size w X ∧ BlV X g (k + 1) (vv J o)) (fun _ _ _ _ => 0)
        case atStart => exact ⟨rfl, rfl, hX1.out, hV1.out⟩
        case round =>
          obtain ⟨rfl, rfl, hX3, hV3⟩ := hrel
          replace hX3 := Lib.hid hX3
          replace hV3 := Lib.hid hV3
          rw [← hend.out]
          go_wp2
          go_roundw
          case rel => exact ⟨k + 1, by omega, by go_num, by rw [← hS2.out], hX3.out, hV3.out⟩
          case measure => simp [intOf]; try omega
      · have hlast' : ¬ k + 1 = m := hlast
        have hLm : m - (k + 1) = L := hL.symm
        replace hL := Lib.hid hL
        replace hLm := Lib.hid hLm
        replace hbx := Lib.hid hbx
        go_wp2
        rw [← hbx.out, hLm.out]
        rw [← hbx.out] at hb1
        go_loopw [3, 8, 32] (fun s _ i X => ∃ t : Nat, t ≤ L ∧ i = .int .i64 (t : Nat) ∧ s = .int .i64 (T + bi J o k t) ∧ Below w.heap.size w X ∧ BlV X g m (vv J o) ∧ Bxv X bx xh xm p dn) (fun _ _ i _ => L - (intOf i).toNat)
        case atStart => exact ⟨0, by omega, rfl, by rw [hz2.out], hX1.out, hV1.out, hb1.out⟩
        case round =>
          clear hX1 hV1 hb1
          obtain ⟨t, ht, rfl, rfl, hX3, hV3, hb3⟩ := hrel
          by_cases hlt : t < L
          · have hjm : k + 1 + t < m := by have := hL.out; omega
            have u0 := hV3.cell hjm 0 (by omega)
            have u1 := hV3.cell hjm 1 (by omega)
            have u2 := hV3.cell hjm 2 (by omega)
            have u3 := hV3.cell hjm 3 (by omega)
            have ea : (k + 1 + t) * 4 = (k + 1) * 4 + t * 4 := by omega
            rw [ea] at u0 u1 u2 u3
            rw [Nat.add_zero] at u0
            have hy := hok.out (k + 1 + t) hjm
            have e3 : vv J o (k + 1 + t) 0 = (jbAt J o (k + 1 + t)).h := rfl
            have e4 : vv J o (k + 1 + t) 1 = (jbAt J o (k + 1 + t)).m := rfl
            have e5 : vv J o (k + 1 + t) 2 = el o (k + 1 + t) := rfl
            rw [e3] at u0
            rw [e4] at u1
            rw [e5] at u2
            obtain ⟨d', hd'⟩ : ∃ d, d = vv J o (k + 1 + t) 3 := ⟨_, rfl⟩
            rw [← hd'] at u3
            have hl1 := hls.out t
            have hi1 := hie.out t
            obtain ⟨r1, r2⟩ := hib.out t (by have := hL.out; omega)
            obtain ⟨r3, r4⟩ := hib.out (t + 1) (by have := hL.out; omega)
            rw [hl1] at hi1
            obtain ⟨y, hyy⟩ : ∃ y, y = jbAt J o (k + 1 + t) := ⟨_, rfl⟩
            rw [← hyy] at u0 u1 hy hi1
            obtain ⟨p', hp'⟩ : ∃ p, p = el o (k + 1 + t) := ⟨_, rfl⟩
            rw [← hp'] at u2 hi1
            obtain ⟨c0, c1, c2, c3⟩ := (hb3.up (ba1 wr (.cells #[.int .i64 y.h, .int .i64 y.m, .int .i64 p', .int .i64 d'] 67))).cell
            obtain ⟨c4, c5, c6, c7⟩ := (Bxv.new wr y.h y.m p' d').cell
            have hX4 := bel_trans hX3 (ba1 wr (.cells #[.int .i64 y.h, .int .i64 y.m, .int .i64 p', .int .i64 d'] 67))
            have hV4 := hV3.up (ba1 wr (.cells #[.int .i64 y.h, .int .i64 y.m, .int .i64 p', .int .i64 d'] 67))
            have hb4 := hb3.up (ba1 wr (.cells #[.int .i64 y.h, .int .i64 y.m, .int .i64 p', .int .i64 d'] 67))
            have k84 := hk84.out y p' d' (wr.alloc (.cells #[.int .i64 y.h, .int .i64 y.m, .int .i64 p', .int .i64 d'] 67)) hy _ rfl
            obtain ⟨E, hE⟩ : ∃ E, E = lsP (decide (p = p')) ⟨xh, xm⟩ y := ⟨_, rfl⟩
            rw [← hE] at k84
            have hEi : bi J o k (t + 1) = bi J o k t + E := by rw [hi1, hE]
            obtain ⟨T1, hT1⟩ : ∃ T1, T1 = T + bi J o k t := ⟨_, rfl⟩
            obtain ⟨T2, hT2⟩ : ∃ T1, T1 = T + bi J o k (t + 1) := ⟨_, rfl⟩
            have hTT : T1 + E = T2 := by omega
            have hTw : IntKind.i64.wrap (T1 + E) = T2 := by rw [hTT]; exact IntWalk.i64_in _ (by omega)
            have hT9 : 0 ≤ T1 ∧ T1 ≤ 4000000 ∧ 0 ≤ T2 ∧ T2 ≤ 4000000 := by omega
            rw [← hT1]
            have htL : (t : Int) < (L : Int) := by omega
            clear r1 r2 r3 r4 c0 c1 c2 c3 c4 c5 c6 c7
            obtain ⟨w0, w1, w2, w3⟩ := hb4.cell
            obtain ⟨yh, ym⟩ := y
            simp only [] at *
            replace hy := Lib.hid hy
            replace hE := Lib.hid hE
            replace hEi := Lib.hid hEi
            replace hT1 := Lib.hid hT1
            replace hT2 := Lib.hid hT2
            replace hTT := Lib.hid hTT
            replace hi1 := Lib.hid hi1
            replace hl1 := Lib.hid hl1
            replace hyy := Lib.hid hyy
            replace hp' := Lib.hid hp'
            replace hd' := Lib.hid hd'
            replace e3 := Lib.hid e3
            replace e4 := Lib.hid e4
            replace e5 := Lib.hid e5
            replace ea := Lib.hid ea
            replace hX3 := Lib.hid hX3
            replace hV3 := Lib.hid hV3
            replace hb3 := Lib.hid hb3
            replace hX4 := Lib.hid hX4
            replace hV4 := Lib.hid hV4
            replace hb4 := Lib.hid hb4
            replace k84 := Lib.hid k84
            go_wp2_with fail
            refine k84.out.mono ?_
            rintro e X5 ⟨rfl, hb5⟩
            have hX6 := Lib.hid (bel_trans hX4.out hb5)
            have hV6 := Lib.hid (hV4.out.up hb5)
            have hb6 := Lib.hid (hb4.out.up hb5)
            clear hb5 k84 w0 w1 w2 w3
            go_wp2
            go_roundw
            case rel => exact ⟨t + 1, by omega, by go_num, by rw [← hT2.out], hX6.out, hV6.out, hb6.out⟩
            case measure => simp [intOf]; omega
          · have ht' : L = t := by omega
            subst ht'
            have hs1' := hs1.out
            rw [← hs1']
            replace hX3 := Lib.hid hX3
            replace hV3 := Lib.hid hV3
            replace hb3 := Lib.hid hb3
            clear hs1'
            go_wp2
            go_roundw
            case rel => exact ⟨k + 1, by omega, by go_num, by rw [← hS2.out], hX3.out, hV3.out⟩
            case measure => simp [intOf]; omega
    · have hk' : k = m := by omega
      subst hk'
      rw [← hR.out]
      replace hX := Lib.hid hX
      replace hV := Lib.hid hV
      go_wp2
      go_ret
      exact ⟨rfl, hX.out⟩

/-- What Bound answers. -/
def boR (J : List (List Jb)) : Int × Int := if valB J = true then (bs J (fo J J.length) (fo J J.length).length, 0) else (0, 60)
set_option maxRecDepth 100000 in
set_option maxHeartbeats 4000000 in
theorem Bound_any (B : Nat) (A : Option Addr) (c : Nat) (D : List Bc) (w : World) (h : Bcs w B A D) (hB : B ≤ w.heap.size) (hL : ∀ i, i < D.length → (be (bl D) i).length ≤ 100) :
    Calls Try.prog 33 #[.slice A D.length c] w fun e w' => e = .returned (.tuple #[.int .i64 (boR (bl D)).1, .int .i64 (boR (bl D)).2]) ∧ Below w.heap.size w w' := by
  have h63 := h.1
  have hlen := bl_len D
  have c51 := checked_any B A c D w h hB hL
  unfold errV at c51
  unfold boR
  by_cases hv : valB (bl D) = true
  · rw [if_pos hv] at c51 ⊢
    have c66 := fun X (hX : Below w.heap.size w X) => bound_any B A c D X (h.below (hX.mono hB)) (Nat.le_trans hB hX.size) (val_of hv)
    rw [hlen]
    simp only []
    obtain ⟨R, hR⟩ : ∃ R, R = bs (bl D) (fo (bl D) D.length) (fo (bl D) D.length).length := ⟨_, rfl⟩
    rw [← hR] at c66 ⊢
    generalize D.length = n at *
    replace hR := Lib.hid hR
    replace hlen := Lib.hid hlen
    replace c51 := Lib.hid c51
    replace c66 := Lib.hid c66
    replace hv := Lib.hid hv
    replace hL := Lib.hid hL
    replace h := Lib.hid h
    go_enter Try.func33, Try.ntmps33
    go_wp2_with fail
    refine c51.out.mono ?_
    rintro e X1 ⟨rfl, hb1⟩
    have k66 := Lib.hid (c66.out X1 hb1)
    replace hb1 := Lib.hid hb1
    go_wp2_with fail
    refine k66.out.mono ?_
    rintro e X2 ⟨rfl, hb2⟩
    have hend := Lib.hid (bel_trans hb1.out hb2)
    clear hb2
    go_wp2
    exact bodyPost_ret (v := .tuple #[.int .i64 R, .int .i64 0]) (by simp [results, Try.results33, go_sem]) rfl ⟨rfl, hend.out⟩
  · rw [if_neg hv] at c51 ⊢
    simp only []
    generalize D.length = n at *
    replace c51 := Lib.hid c51
    replace hv := Lib.hid hv
    replace hL := Lib.hid hL
    replace hlen := Lib.hid hlen
    replace h := Lib.hid h
    go_enter Try.func33, Try.ntmps33
    go_wp2_with fail
    refine c51.out.mono ?_
    rintro e X1 ⟨rfl, hb1⟩
    replace hb1 := Lib.hid hb1
    go_wp2
    exact bodyPost_ret (v := .tuple #[.int .i64 0, .int .i64 60]) (by simp [results, Try.results33, go_sem]) rfl ⟨rfl, hb1.out⟩
end Go.Proofs.Ytgjgpcpghglnnaa
