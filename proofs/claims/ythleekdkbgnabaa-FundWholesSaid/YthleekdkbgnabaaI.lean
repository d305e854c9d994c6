/-
  The level of equal awards: the program's function.
-/
import Derived.Test.YthleekdkbgnabaaH
namespace Go.Proofs.Ythleekdkbgnabaa
open Go.RowKit Go.Deep M
set_option linter.unusedVariables false
set_option linter.unusedSimpArgs false

namespace M
theorem lvS_drop {s : List Int} {k : Nat} (hk : k < s.length) (e : Int) : lvS (s.drop k) e = if e < el s k * ((s.length - k : Nat) : Int) then (e, ((s.length - k : Nat) : Int)) else lvS (s.drop (k + 1)) (e - el s k) := by
  rw [List.drop_eq_getElem_cons hk, ← el_eq s k hk]
  show (if e < el s k * (((s.drop (k + 1)).length : Int) + 1) then _ else _) = _
  have : ((s.drop (k + 1)).length : Int) + 1 = ((s.length - k : Nat) : Int) := by simp; omega
  rw [this]
theorem srt_ok {l : List Int} (h : vC l) {k : Nat} (hk : k < (srt l).length) : okC (el (srt l) k) := by
  rw [el_eq _ _ hk]
  exact mem_ok h.2 ((srt_perm l).mem_iff.1 (List.getElem_mem hk))
theorem levR_pos {p : Int × Int} {m : Int} (h : 1 ≤ p.2) : levR p m = mk p.1 p.2 := by unfold levR; rw [if_neg (by omega)]
theorem levR_zero {e m : Int} : levR (e, 0) m = mk m 1 := by unfold levR; rw [if_pos rfl, mk_one]
end M

set_option maxRecDepth 100000 in
set_option maxHeartbeats 4000000 in
theorem level_any (B : Nat) (A : Option Addr) (c : Nat) (l : List Int) (e : Int) (w : World) (h : Row w B A l) (hB : B ≤ w.heap.size) (hv : vC l) (he : 0 ≤ e ∧ e ≤ 8000) :
    Calls Try.prog 67 #[.slice A l.length c, .int .i64 e] w fun r w' => r = .returned (rtV (levR (lvl l e) (mx l))) ∧ Below w.heap.size w w' := by
  have h63 := h.1
  have hn := val_len hv
  have hr0 := Bxr.new w 0 0
  have hb0 := ba1 w (.cells #[.int .i64 0, .int .i64 0] 37)
  have kv := fun X => Values_any A l.length c X
  have ks := fun (X : World) (hX : Below w.heap.size w X) => Sorted_any X.heap.size A c l (X.alloc (.cells #[.slice A l.length c] 65)) (by simp) (by have := heap_alloc_new X (.cells #[.slice A l.length c] 65); unfold World.cell?; rw [this]; rfl) (((h.below (hX.mono hB)).more (Nat.le_trans hB hX.size)).up (ba1 X (.cells #[.slice A l.length c] 65))) (by omega)
  have km := fun X (hX : Below w.heap.size w X) => Max_any B A c l X (h.below (hX.mono hB)) hv
  have hmx := mx_b hv
  have kmr := fun X => ratio_any (mx l) 1 X (by unfold okC at hmx; omega) (by omega)
  have kr := fun X (p q : Int) (hp : 0 ≤ p ∧ p ≤ 8000) (hq : 1 ≤ q ∧ q ≤ 8) => ratio_any p q X (by omega) (by omega)
  have hls : lvS ((srt l).drop 0) e = lvl l e := rfl
  have hdr := fun k (hk : k < (srt l).length) => @lvS_drop (srt l) k hk
  have hok := fun k (hk : k < (srt l).length) => @srt_ok l hv k hk
  have hend : ∀ x, lvS ((srt l).drop (srt l).length) x = (x, 0) := fun x => by rw [List.drop_length]; rfl
  have hsl := srt_len l
  have hown := fun (X : World) base v (ho : X.ownsRow base 3 1 v (srt l).length (vals (srt l))) => own_row ho (by omega)
  obtain ⟨P, hP⟩ : ∃ P, P = lvl l e := ⟨_, rfl⟩
  obtain ⟨m, hm⟩ : ∃ m, m = mx l := ⟨_, rfl⟩
  rw [← hP] at hls ⊢
  rw [← hm] at km hmx kmr ⊢
  obtain ⟨s, hs⟩ : ∃ s, s = srt l := ⟨_, rfl⟩
  rw [← hs] at hls hdr hok hend hsl hown ks
  rw [hsl] at hdr hok hend hown ks
  have hres : ∀ Q, Q = rtV (levR P m) → Q = rtV (levR P m) := fun _ h => h
  obtain ⟨Q, hQ⟩ : ∃ Q, Q = levR P m := ⟨_, rfl⟩
  rw [← hQ]
  unfold rtV at *
  generalize l.length = n at *
  obtain ⟨Y, hY⟩ : ∃ Y, Y = w.alloc (.cells #[.int .i64 0, .int .i64 0] 37) := ⟨_, rfl⟩
  rw [← hY] at hr0 hb0
  have kv1 := Lib.hid (kv Y)
  have ks1 := Lib.hid (ks Y hb0)
  clear kv ks hres
  replace hY := Lib.hid hY
  replace hP := Lib.hid hP
  replace hm := Lib.hid hm
  replace hs := Lib.hid hs
  replace hQ := Lib.hid hQ
  replace hr0 := Lib.hid hr0
  replace hb0 := Lib.hid hb0
  replace km := Lib.hid km
  replace kmr := Lib.hid kmr
  replace kr := Lib.hid kr
  replace hls := Lib.hid hls
  replace hdr := Lib.hid hdr
  replace hok := Lib.hid hok
  replace hend := Lib.hid hend
  replace hsl := Lib.hid hsl
  replace hown := Lib.hid hown
  replace h := Lib.hid h
  replace hv := Lib.hid hv
  replace hmx := Lib.hid hmx
  obtain ⟨hn1, hn8⟩ := hn
  obtain ⟨he0, he8⟩ := he
  go_enter Try.func67, Try.ntmps67
  go_wp2_with fail
  rw [← hY.out]
  refine kv1.out.mono ?_
  rintro _ X1 ⟨rfl, rfl⟩
  go_wp2_with fail
  refine ks1.out.mono ?_
  rintro _ X2 ⟨v, rfl, hb2, ho2⟩
  obtain ⟨A2, c2, rfl, hr2⟩ := hown.out X2 _ _ ho2
  have hat := fun k (hk : k < s.length) => hr2.at_ k hk
  rw [hsl.out] at hat
  have hbY := bel_trans hb0.out (bel_trans (ba1 Y (.cells #[.slice A n c] 65)) hb2)
  have hrX := (hr0.out.up (ba1 Y (.cells #[.slice A n c] 65))).up hb2
  have hbX := Lib.hid hbY
  have km1 := Lib.hid (km.out X2 hbY)
  replace hat := Lib.hid hat
  replace hrX := Lib.hid hrX
  replace ho2 := Lib.hid ho2
  replace hr2 := Lib.hid hr2
  replace hb2 := Lib.hid hb2
  clear hbY
  go_wp2
  go_loop [14, 6, 7, 8, 5] (fun i _ _ _ lf => ∃ (k : Nat) (y : Int), k ≤ n ∧ i = .int .i64 (k : Nat) ∧ lf = .int .i64 y ∧ 0 ≤ y ∧ y ≤ 8000 ∧ lvS (s.drop k) y = P) (fun i _ _ _ _ => n - (intOf i).toNat)
  case atStart => exact ⟨0, e, by omega, rfl, rfl, he0, he8, hls.out⟩
  case round =>
    obtain ⟨k, y, hk, rfl, rfl, hy0, hy8, hP2⟩ := hrel
    by_cases hkn : k < n
    · obtain ⟨b, o, rfl, hb', e0⟩ := hat.out k hkn
      have hx := hok.out k hkn
      have hd := hdr.out k hkn y
      rw [hP2] at hd
      obtain ⟨q, hq⟩ : ∃ q : Nat, q = n - k := ⟨_, rfl⟩
      rw [← hq] at hd
      have hq1 : 1 ≤ q := by omega
      have hq8 : q ≤ 8 := by omega
      have hqi : (n : Int) - (k : Int) = (q : Int) := by omega
      unfold okC at hx
      generalize el s k = x at *
      have p1 : x * (q : Int) ≤ 1000 * (q : Int) := Int.mul_le_mul_of_nonneg_right hx.2 (by omega)
      have p2 : 0 ≤ x * (q : Int) := Int.mul_nonneg hx.1 (by omega)
      obtain ⟨xq, hxq⟩ : ∃ z, z = x * (q : Int) := ⟨_, rfl⟩
      rw [← hxq] at p1 p2 hd
      have w1 : IntKind.i64.wrap ((n : Int) - (k : Int)) = (q : Int) := by rw [hqi]; exact IntWalk.i64_in _ (by omega)
      have w2 : IntKind.i64.wrap (x * (q : Int)) = xq := by rw [← hxq]; exact IntWalk.i64_in _ (by omega)
      replace hP2 := Lib.hid hP2
      replace hq := Lib.hid hq
      replace hxq := Lib.hid hxq
      replace hqi := Lib.hid hqi
      by_cases hc : y < xq
      · rw [if_pos hc] at hd
        have hQ2 : mk y q = Q := by rw [hQ.out, hd, levR_pos (by simp; omega)]
        have kk := kr.out X2 y q ⟨hy0, hy8⟩ (by omega)
        rw [hQ2] at kk
        replace kk := Lib.hid kk
        replace hd := Lib.hid hd
        replace hQ2 := Lib.hid hQ2
        go_wp2_with fail
        refine kk.out.mono ?_
        rintro _ X3 ⟨rfl, hb3⟩
        have hr := hrX.out.up hb3
        have r0 := hr.c0
        have r1 := hr.c1
        have f0 := hr.fz 0
        have f1 := hr.fz 1
        have hr3 := hr.set Q.n Q.d
        have d0 := hr3.c0
        have d1 := hr3.c1
        have hfin := Lib.hid (set2_below (bel_trans hbX.out hb3) (Nat.le_refl _) (.int .i64 Q.n) (.int .i64 Q.d))
        replace hr := Lib.hid hr
        replace hr3 := Lib.hid hr3
        replace hb3 := Lib.hid hb3
        go_wp2
        exact bodyPost_ret (v := .agg #[.int .i64 Q.n, .int .i64 Q.d]) (by simp [results, Try.results67, go_sem, d0, d1]) rfl ⟨rfl, hfin.out⟩
      · rw [if_neg hc] at hd
        have hx1 : x ≤ xq := by
          rw [hxq.out]
          have := Int.mul_le_mul_of_nonneg_left (show (1 : Int) ≤ (q : Int) by omega) hx.1
          omega
        replace hd := Lib.hid hd
        go_wp2
        go_round
        case rel => exact ⟨k + 1, y - x, by omega, by simp, rfl, by omega, by omega, hd.out.symm⟩
        case measure => simp [intOf]; omega
    · have : k = n := by omega
      subst this
      rw [hend.out] at hP2
      have hQ2 : mk m 1 = Q := by rw [hQ.out, ← hP2, levR_zero]
      have kk := kmr.out
      rw [hQ2] at kk
      replace kk := Lib.hid kk
      replace hP2 := Lib.hid hP2
      replace hQ2 := Lib.hid hQ2
      go_wp2_with fail
      refine km1.out.mono ?_
      rintro _ X ⟨rfl, rfl⟩
      go_wp2_with fail
      refine (kk.out _).mono ?_
      rintro _ X3 ⟨rfl, hb3⟩
      have hr := hrX.out.up hb3
      have r0 := hr.c0
      have r1 := hr.c1
      have f0 := hr.fz 0
      have f1 := hr.fz 1
      have hr3 := hr.set Q.n Q.d
      have d0 := hr3.c0
      have d1 := hr3.c1
      have hfin := Lib.hid (set2_below (bel_trans hbX.out hb3) (Nat.le_refl _) (.int .i64 Q.n) (.int .i64 Q.d))
      replace hr := Lib.hid hr
      replace hr3 := Lib.hid hr3
      replace hb3 := Lib.hid hb3
      go_wp2
      exact bodyPost_ret (v := .agg #[.int .i64 Q.n, .int .i64 Q.d]) (by simp [results, Try.results67, go_sem, d0, d1]) rfl ⟨rfl, hfin.out⟩
end Go.Proofs.Ythleekdkbgnabaa
