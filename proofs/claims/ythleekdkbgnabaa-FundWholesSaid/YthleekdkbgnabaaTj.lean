/-
  The means over all orders: the specification's function.
-/
import Derived.Test.YthleekdkbgnabaaTh
import Derived.Test.YthleekdkbgnabaaS
import Derived.Deep.RegionLaw
import Derived.Deep.DeepCutAuto
namespace Go.Proofs.Ythleekdkbgnabaa
open Go.RowKit Go.Deep M
set_option linter.unusedVariables false
set_option linter.unusedSimpArgs false

namespace M
/-- The factorials up to k. -/
def waL (k : Nat) : List Int := (List.range (k + 1)).map fac
theorem waL_len (k : Nat) : (waL k).length = k + 1 := by simp [waL]
theorem waL_at (k i : Nat) (h : i ≤ k) : el (waL k) i = fac i := by
  rw [el_eq _ _ (by rw [waL_len]; omega)]; simp [waL]
theorem waL_snoc (k : Nat) : vals (waL (k + 1)) = vals (waL k) ++ [.int .i64 (fac (k + 1))] := by
  rw [show waL (k + 1) = waL k ++ [fac (k + 1)] by unfold waL; rw [List.range_succ, List.map_append]; rfl, vals_app]; rfl
end M
theorem one_own (w : World) (z : Int) : (w.alloc (.cells #[.int .i64 z] 3)).ownsRow w.heap.size 3 1 (.slice (some ⟨w.heap.size, 0, none⟩) 1 1) 1 [.int .i64 z] :=
  ⟨rfl, .inr ⟨w.heap.size, 1, #[.int .i64 z], rfl, Nat.le_refl _, heap_alloc_new w _, Nat.le_refl _, by unfold maxLen; omega, rfl, rfl⟩⟩

set_option maxRecDepth 100000 in
set_option maxHeartbeats 4000000 in
theorem MiddleR_walk (A : Option Addr) (c : Nat) (l : List Int) (e : Int) (w : World) (h : Row w w.heap.size A l) (hk : okE l e) (hl : l.length ≤ 7) :
    Calls Try.prog 48 #[.slice A l.length c, .int .i64 e] w fun r w' => ∃ g cp, r = .returned (.tuple #[.slice (some ⟨g, 0, none⟩) l.length cp, .int .i64 0]) ∧ AwW w l.length g (meR l e) w' := by
  obtain ⟨i3, ji, jz0, jz1, jz2⟩ := info_parts info3
  obtain ⟨i37, mi, mz0, mz1, mz2⟩ := info_parts info37
  have hn := val_len hk.1
  have hsm := sm_b hk.1
  have he8 : 0 ≤ e ∧ e ≤ 8000 := by have := hk.2; omega
  have k1 := asked_any w.heap.size A c l e w h
  rw [errC_ok hk] at k1
  have hat := fun X (hX : Below w.heap.size w X) k (hk : k < l.length) => (h.below hX).at_ k hk
  have hx := fun k (hkl : k < l.length) => hk.1.2 k hkl
  have hp2 := pow_le7 hl
  have hsu := fun S k (hkl : k ≤ l.length) => suS_b hk.1.2 S k hkl
  have hb := fun S k (hkl : k < l.length) => toS_b he8 hk.1.2 hl hkl S
  have hlf : ∀ S, max 0 (e - suS l S l.length) = lfS l e S := fun S => rfl
  have hlfb := fun S => lfS_b he8 hk.1.2 S
  have htr := fun i S (h : inS S i = false) => trS_out (l := l) (e := e) h
  have htrn := fun i S (h : inS S i = true) => trS_in (l := l) (e := e) h
  have htrb := fun i S (hi : i < l.length) => trS_b he8 hk.1.2 hl hi S
  have hcl := fun S k => cnS_le S k
  have hct := fun i S (h : inS S i = false) (hi : i < l.length) => cnS_lt h l.length hi
  have hts := fun i S => toS_succ l e i S
  have hz := fun i => (show toS l e i 0 = 0 from rfl)
  have hus1 := fun S k (h : inS S k = true) => suS_in (l := l) h
  have hus0 := fun S k (h : inS S k = false) => suS_out (l := l) h
  have huz := fun S => (show suS l S 0 = 0 from rfl)
  have hfb := fun k (hk : k ≤ l.length) => fac_b7 k (by omega)
  have hmeR : ∀ i, mk (toS l e i (2 ^ l.length)) (fac l.length) = meR l e i := fun i => rfl
  generalize meR l e = ME at *
  generalize l.length = n at *
  generalize toS l e = TS at *
  generalize trS l e = RS at *
  generalize suS l = US at *
  generalize lfS l e = LS at *
  obtain ⟨N2, hN2⟩ : ∃ N2, N2 = 2 ^ n := ⟨_, rfl⟩
  have hpw : wrap64 ((2 : Int) ^ n) = (N2 : Nat) := by
    have e1 : (2 : Int) ^ n = ((2 ^ n : Nat) : Int) := by push_cast; rfl
    rw [e1, ← hN2]; exact IntWalk.wrap64_in _ (by omega)
  replace hpw := Lib.hid hpw
  rw [← hN2] at hp2 hmeR
  replace hN2 := Lib.hid hN2
  have ho0 : (w.alloc (.cells #[.int .i64 1] 3)).ownsRow w.heap.size 3 1 (.slice (some ⟨w.heap.size, 0, none⟩) 1 1) (0 + 1) (vals (waL 0)) := one_own w 1
  have hb0 := ba1 w (.cells #[.int .i64 1] 3)
  replace ji := Lib.hid ji
  replace jz0 := Lib.hid jz0
  replace jz1 := Lib.hid jz1
  replace jz2 := Lib.hid jz2
  replace mi := Lib.hid mi
  replace mz0 := Lib.hid mz0
  replace mz1 := Lib.hid mz1
  replace mz2 := Lib.hid mz2
  replace k1 := Lib.hid k1
  replace hat := Lib.hid hat
  replace hx := Lib.hid hx
  replace hsu := Lib.hid hsu
  replace hb := Lib.hid hb
  replace hlf := Lib.hid hlf
  replace hlfb := Lib.hid hlfb
  replace htr := Lib.hid htr
  replace htrn := Lib.hid htrn
  replace htrb := Lib.hid htrb
  replace hcl := Lib.hid hcl
  replace hct := Lib.hid hct
  replace hts := Lib.hid hts
  replace hz := Lib.hid hz
  replace hus1 := Lib.hid hus1
  replace hus0 := Lib.hid hus0
  replace huz := Lib.hid huz
  replace hfb := Lib.hid hfb
  replace hmeR := Lib.hid hmeR
  replace h := Lib.hid h
  replace hk := Lib.hid hk
  replace hsm := Lib.hid hsm
  replace ho0 := Lib.hid ho0
  replace hb0 := Lib.hid hb0
  obtain ⟨hn1, hn8⟩ := hn
  obtain ⟨he0, he1⟩ := he8
  go_enter Try.func48, Try.ntmps48
  go_wp2_with fail
  refine k1.out.mono ?_
  rintro _ X ⟨rfl, rfl⟩
  go_wp2
  go_loopw [8, 7] (fun i v wr => ∃ k : Nat, k ≤ n ∧ i = .int .i64 (k + 1 : Nat) ∧ Below X.heap.size X wr ∧ wr.ownsRow X.heap.size 3 1 v (k + 1) (vals (waL k))) (fun i _ _ => n + 1 - (intOf i).toNat)
  case atStart => exact ⟨0, by omega, rfl, hb0.out, ho0.out⟩
  case round =>
    clear ho0 hb0
    obtain ⟨k, hkk, rfl, hX, hown⟩ := hrel
    have hlen := waL_len k
    rw [← hlen] at hown
    obtain ⟨g, cap, rfl, hcap, hge, hbl⟩ := own_blk hown (by omega)
    rw [hlen] at hown hcap hbl ⊢
    replace hbl := hbl.congr (f' := fac) fun i hi => waL_at k i (by omega)
    have sn := Lib.hid (waL_snoc k)
    by_cases hkn : k < n
    · have c0 := hbl.cell (i := k) (by omega)
      have f0 := hfb.out k (by omega)
      have f1 := hfb.out (k + 1) (by omega)
      have f2 := fac_succ k
      obtain ⟨fk, hfk⟩ : ∃ z, z = fac (k + 1) := ⟨_, rfl⟩
      have w1 : wrap64 (fac k * ((k : Int) + 1)) = fk := by rw [hfk, f2]; rw [f2] at f1; exact IntWalk.wrap64_in _ (by omega)
      rw [← hfk] at f1
      rw [← hfk] at sn
      have ho2 := own_up hown (ba1 wr (.cells #[.int .i64 fk] 3))
      have hsz : X.heap.size ≤ (wr.alloc (.cells #[.int .i64 fk] 3)).heap.size := Nat.le_trans hX.size (ba1 wr (.cells #[.int .i64 fk] 3)).size
      have rest : ∀ z v, z.ownsRow X.heap.size 3 1 v (k + 1 + 1) (vals (waL k) ++ [.int .i64 fk]) → (wr.alloc (.cells #[.int .i64 fk] 3)).grownBy z (Value.slice (some ⟨g, 0, none⟩) (k + 1) cap).ownBlock → Below X.heap.size X z ∧ z.ownsRow X.heap.size 3 1 v (k + 1 + 1) (vals (waL (k + 1))) := fun z v ho hg => by
        have hbw : Below X.heap.size X z := (bel_trans hX (ba1 wr (.cells #[.int .i64 fk] 3))).grown hg hsz (fun x hx => ((ho2.lt x hx).1))
        exact ⟨hbw, by rw [sn.out]; exact ho⟩
      have hkn2 : (k : Int) + 1 ≤ (n : Int) := by omega
      generalize fac k = fk0 at *
      replace rest := Lib.hid rest
      replace ho2 := Lib.hid ho2
      replace hsz := Lib.hid hsz
      replace hown := Lib.hid hown
      replace hX := Lib.hid hX
      replace hlen := Lib.hid hlen
      replace hbl := Lib.hid hbl
      replace f2 := Lib.hid f2
      replace hfk := Lib.hid hfk
      go_wp2_with (at_builtin; (refine wpList_append_own _ rfl (.tmp 32) (.tmp 40) 22 rfl X.heap.size 3 i3 (.int .i64 0) 1 8 Try.underlying22 ji.out jz0.out jz1.out jz2.out rfl (by decide) _ _ _ rfl ho2.out ⟨wr.heap.size, 0, none⟩ 1 1 [.int .i64 fk] rfl rfl (one_new wr fk) (fun u hu => by cases List.mem_singleton.1 hu; rfl) (by unfold maxLen; omega) (by omega) hsz.out ?_
                                intro v z ho3 hg3 _
                                have fin := Lib.hid (rest.out z v ho3 hg3)
                                clear ho3 hg3))
      go_roundw
      case rel => exact ⟨k + 1, by omega, by simp, fin.out.1, fin.out.2⟩
      case measure => simp [intOf]; omega
    · have : n = k := by omega
      subst this
      have hXs := hX.size
      have hgl := hbl.lt
      have hat1 := fun Y (hY : Below wr.heap.size wr Y) k (hk : k < n) => hat.out Y (bel_trans hX hY) k hk
      have hwy := fun Y (hY : Below wr.heap.size wr Y) => hbl.up hY
      have hown0 : wr.ownsRow wr.heap.size 37 2 (.slice none 0 0) 0 (rvals (mkQ ME 0)) := ⟨rfl, .inl ⟨rfl, rfl⟩⟩
      have hfx := Lib.hid hX
      obtain ⟨W1, hW1⟩ : ∃ W1, W1 = wr := ⟨_, rfl⟩
      rw [← hW1] at hat1 hwy hown0 hfx hXs hgl ⊢
      clear hat hX hown hbl hW1 sn
      replace hat1 := Lib.hid hat1
      replace hwy := Lib.hid hwy
      replace hown0 := Lib.hid hown0
      replace hlen := Lib.hid hlen
      replace hXs := Lib.hid hXs
      rw [show ((n + 1 : Nat) : Int) = (n : Int) + 1 from by simp]
      go_wp2
      go_loopw [10, 9, 11, 12, 13, 14, 15] (fun i v _ _ _ _ _ wr => ∃ k : Nat, k ≤ n ∧ i = .int .i64 (k : Nat) ∧ Below W1.heap.size W1 wr ∧ wr.ownsRow W1.heap.size 37 2 v k (rvals (mkQ ME k))) (fun i _ _ _ _ _ _ _ => n - (intOf i).toNat)
      case atStart => exact ⟨0, by omega, rfl, Below.refl _ _, hown0.out⟩
      case round =>
        clear hown0
        rename_i v9 _ _ _ _ _ _ _
        obtain ⟨k, hkk, rfl, hX, hown⟩ := hrel
        by_cases hkn : k < n
        · have hkn2 : (k : Int) < (n : Int) := by omega
          have z0 := hz.out k
          obtain ⟨W2, hW2⟩ : ∃ W2, W2 = wr := ⟨_, rfl⟩
          rw [← hW2] at hX hown ⊢
          clear hW2
          have hat2 := fun Y (hY : Below W2.heap.size W2 Y) k (hk : k < n) => hat1.out Y (bel_trans hX hY) k hk
          have hwy2 := fun Y (hY : Below W2.heap.size W2 Y) => hwy.out Y (bel_trans hX hY)
          replace hat2 := Lib.hid hat2
          replace hwy2 := Lib.hid hwy2
          replace hX := Lib.hid hX
          replace hown := Lib.hid hown
          go_wp2
          go_loopw [12, 11, 13, 14, 15] (fun i s _ _ _ wx => ∃ S : Nat, S ≤ N2 ∧ i = .int .i64 (S : Nat) ∧ s = .int .i64 (TS k S) ∧ Below W2.heap.size W2 wx) (fun i _ _ _ _ _ => N2 - (intOf i).toNat)
          case atStart => exact ⟨0, by omega, rfl, by rw [z0], Below.refl _ _⟩
          case round =>
            obtain ⟨S, hSS, rfl, rfl, hY⟩ := hrel
            by_cases hSn : S < N2
            · have hSn2 : (S : Int) < wrap64 (2 ^ n) := by rw [hpw.out]; omega
              have hS128 : S < 128 := by omega
              have u0 := huz.out S
              replace hY := Lib.hid hY
              go_wp2
              go_loopw [15, 13, 14] (fun i s b wx => ∃ j : Nat, j ≤ n ∧ i = .int .i64 (j : Nat) ∧ s = .int .i64 (cnS S j : Nat) ∧ b = .int .i64 (US S j) ∧ Below W2.heap.size W2 wx) (fun i _ _ _ => n - (intOf i).toNat)
              case atStart => exact ⟨0, by omega, rfl, rfl, by rw [u0], hY.out⟩
              case round =>
                clear hY
                obtain ⟨j, hjj, rfl, rfl, rfl, hY⟩ := hrel
                by_cases hjn : j < n
                · obtain ⟨b, o, rfl, _, e0⟩ := hat2.out wr hY j hjn
                  have hjn2 : (j : Int) < (n : Int) := by omega
                  cases hin : inS S j with
                  | true =>
                    have e1 := bit_in hS128 (by omega) hin
                    have e2 : (bits .and .i64 ((S : Int) / 2 ^ j) 1 == 1) = true := by rw [e1]; decide
                    have s1 := Lib.hid (hus1.out S j hin)
                    have s2 := Lib.hid (cnS_in hin)
                    have b0 := hsu.out S j (by omega)
                    have b1 := hcl.out S j
                    have b2 := hx.out j hjn
                    unfold okC at b2
                    obtain ⟨b', o', he', _, e5⟩ := hat2.out wr.drew (below_drewN hY 1) j hjn
                    cases he'
                    generalize US S j = us at *
                    generalize cnS S j = cn at *
                    have w1 : IntKind.i64.wrap (us + el l j) = us + el l j := IntWalk.i64_in _ (by omega)
                    generalize el l j = x at *
                    have hYd := Lib.hid (fun N => below_drewN hY N)
                    replace hin := Lib.hid hin
                    replace hY := Lib.hid hY
                    clear e1
                    go_wp2
                    go_quiet (fail)
                    go_wp2
                    go_roundw
                    case rel => exact ⟨j + 1, by omega, by simp, by rw [s2.out]; rfl, by rw [s1.out], hYd.out _⟩
                    case measure => simp [intOf]; omega
                  | false =>
                    have e1 := bit_out hS128 (by omega) hin
                    have e2 : (bits .and .i64 ((S : Int) / 2 ^ j) 1 == 1) = false := by rw [e1]; decide
                    have s1 := Lib.hid (hus0.out S j hin)
                    have s2 := Lib.hid (cnS_out hin)
                    replace hin := Lib.hid hin
                    replace hY := Lib.hid hY
                    clear e1
                    go_wp2
                    go_roundw
                    case rel => exact ⟨j + 1, by omega, by simp, by rw [s2.out], by rw [s1.out], hY.out⟩
                    case measure => simp [intOf]; omega
                · have : n = j := by omega
                  subst this
                  obtain ⟨b, o, rfl, _, e0⟩ := hat2.out wr hY k hkn
                  have t1 := hts.out k S
                  have t2 := hb.out S k hkn
                  have t3 := hb.out (S + 1) k hkn
                  cases hin : inS S k with
                  | true =>
                    have e1 := bit_in hS128 (by omega) hin
                    have e2 : (bits .and .i64 ((S : Int) / 2 ^ k) 1 == 0) = false := by rw [e1]; decide
                    have r0 := htrn.out k S hin
                    have t4 := Lib.hid (show TS k (S + 1) = TS k S by rw [t1, r0]; omega)
                    replace hin := Lib.hid hin
                    replace hY := Lib.hid hY
                    replace t1 := Lib.hid t1
                    clear e1 r0
                    go_wp2
                    go_roundw
                    case rel => exact ⟨S + 1, by omega, by simp, by rw [t4.out], hY.out⟩
                    case measure => simp [intOf]; omega
                  | false =>
                    have e1 := bit_out hS128 (by omega) hin
                    have e2 : (bits .and .i64 ((S : Int) / 2 ^ k) 1 == 0) = true := by rw [e1]; decide
                    have r0 := htr.out k S hin
                    have r1 := htrb.out k S hkn
                    have c0 := hct.out k S hin hkn
                    have l1 := hlf.out S
                    have l2 := hlfb.out S
                    have b2 := hx.out k hkn
                    unfold okC at b2
                    obtain ⟨b', o', he', _, e5⟩ := hat2.out wr.drew (below_drewN hY 1) k hkn
                    cases he'
                    have y1 := hwy2.out wr hY
                    have y2 := hwy2.out wr.drew (below_drewN hY 1)
                    have c1 := y1.cell (i := cnS S n) (by omega)
                    have c2 := y2.cell (i := cnS S n) (by omega)
                    have c3 := y1.cell (i := n - cnS S n - 1) (by omega)
                    have c4 := y2.cell (i := n - cnS S n - 1) (by omega)
                    have f1 := hfb.out (cnS S n) (by omega)
                    have f2 := hfb.out (n - cnS S n - 1) (by omega)
                    have bu := hsu.out S n (Nat.le_refl _)
                    generalize cnS S n = cn at *
                    have w4 : IntKind.i64.wrap ((n : Int) - 1) = (n : Int) - 1 := IntWalk.i64_in _ (by omega)
                    have w5 : IntKind.i64.wrap ((n : Int) - 1 - (cn : Int)) = ((n - cn - 1 : Nat) : Int) := by
                      rw [show ((n - cn - 1 : Nat) : Int) = (n : Int) - 1 - (cn : Int) by omega]; exact IntWalk.i64_in _ (by omega)
                    obtain ⟨d, hd⟩ : ∃ d, d = n - cn - 1 := ⟨_, rfl⟩
                    rw [← hd] at w5 c3 c4 f2 r0
                    have hd8 : d ≤ n := by omega
                    have hdn : (d : Int) < (n : Int) + 1 := by omega
                    have hcn : (cn : Int) < (n : Int) + 1 := by omega
                    generalize fac cn = fa at *
                    generalize fac d = fb at *
                    generalize US S n = us at *
                    generalize LS S = lf at *
                    generalize el l k = x at *
                    obtain ⟨tt, htt⟩ : ∃ t, t = TS k S := ⟨_, rfl⟩
                    obtain ⟨t9, ht9⟩ : ∃ t, t = TS k (S + 1) := ⟨_, rfl⟩
                    obtain ⟨rr, hrr⟩ : ∃ t, t = RS k S := ⟨_, rfl⟩
                    rw [← htt, ← ht9, ← hrr] at t1
                    rw [← htt] at t2 ⊢
                    rw [← hrr] at r0 r1
                    rw [← ht9] at t3
                    obtain ⟨m, hm, hm2⟩ : ∃ m, m = min x lf ∧ 0 ≤ m ∧ m ≤ 1000 := ⟨min x lf, rfl, by omega⟩
                    rw [← hm] at r0
                    have p1b := mul_b (a := fa) (b := fb) (A := 5040) (B := 5040) (by omega) (by omega)
                    obtain ⟨p1, hp1⟩ : ∃ p, p = fa * fb := ⟨_, rfl⟩
                    rw [← hp1] at p1b
                    have r2 : rr = p1 * m := by rw [r0, hp1]; grind
                    have w1 : IntKind.i64.wrap (fa * fb) = p1 := by rw [← hp1]; exact IntWalk.i64_in _ (by omega)
                    have w2 : IntKind.i64.wrap (p1 * m) = rr := by rw [← r2]; exact IntWalk.i64_in _ (by omega)
                    have w3 : IntKind.i64.wrap (tt + rr) = t9 := by rw [← t1]; exact IntWalk.i64_in _ (by omega)
                    have hYd := Lib.hid (fun N => below_drewN hY N)
                    have hq := Lib.hid (show wrap64 (tt + wrap64 (p1 * min x (max (e - us) 0))) = t9 by
                      rw [Int.max_comm, l1, ← hm]; simp only [← IntWalk.i64_left]; rw [w2, w3])
                    have hlt := y1.lt
                    replace hp1 := Lib.hid hp1
                    replace hm := Lib.hid hm
                    replace r0 := Lib.hid r0
                    replace r2 := Lib.hid r2
                    replace t1 := Lib.hid t1
                    replace htt := Lib.hid htt
                    replace ht9 := Lib.hid ht9
                    replace hrr := Lib.hid hrr
                    replace hd := Lib.hid hd
                    replace hin := Lib.hid hin
                    replace l1 := Lib.hid l1
                    replace hY := Lib.hid hY
                    replace y1 := Lib.hid y1
                    replace y2 := Lib.hid y2
                    clear e1
                    go_wp2
                    go_quiet (fail)
                    go_wp2
                    go_roundw
                    case rel => exact ⟨S + 1, by omega, by simp, by rw [hq.out, ht9.out], hYd.out _⟩
                    case measure => simp [intOf]; omega
            · have : N2 = S := by omega
              subst this
              have hSn2 : wrap64 (2 ^ n) ≤ (N2 : Int) := by rw [hpw.out]; omega
              have hY1 := bel_trans hX.out hY
              have y1 := hwy2.out wr hY
              have c1 := y1.cell (i := n) (by omega)
              have hme := hmeR.out k
              have t0 := hb.out N2 k hkn
              have f0 := hfb.out n (Nat.le_refl _)
              have d72 := fun X => Ratio_ref (TS k N2) (fac n) X (by omega) (by omega)
              rw [hme] at d72
              unfold rtV at d72
              have snoc := mkQ_snoc ME k
              generalize ME k = Q at *
              generalize TS k N2 = tt at *
              generalize fac n = fn at *
              have own1 := fun Y (hZ : Below wr.heap.size wr Y) => own_up hown.out (hY.trans (hZ.mono hY.size))
              have hlt := y1.lt
              replace d72 := Lib.hid d72
              replace own1 := Lib.hid own1
              replace snoc := Lib.hid snoc
              replace hme := Lib.hid hme
              replace hY1 := Lib.hid hY1
              replace y1 := Lib.hid y1
              replace hY := Lib.hid hY
              go_wp2_with fail
              refine (d72.out _).mono ?_
              rintro _ X1 ⟨rfl, hb1⟩
              have hb2 : Below W1.heap.size W1 (X1.alloc (.cells #[.int .i64 Q.n, .int .i64 Q.d] 37)) := bel_trans (bel_trans hY1.out hb1) (ba1 X1 (.cells #[.int .i64 Q.n, .int .i64 Q.d] 37))
              have own2 := own1.out _ (bel_trans hb1 (ba1 X1 (.cells #[.int .i64 Q.n, .int .i64 Q.d] 37)))
              have sz2 := hb2.size
              have rest : ∀ z v, z.ownsRow W1.heap.size 37 2 v (k + 1) (rvals (mkQ ME k) ++ [.int .i64 Q.n, .int .i64 Q.d]) → (X1.alloc (.cells #[.int .i64 Q.n, .int .i64 Q.d] 37)).grownBy z u9.ownBlock → Below W1.heap.size W1 z ∧ z.ownsRow W1.heap.size 37 2 v (k + 1) (rvals (mkQ ME (k + 1))) := fun z v ho hg =>
                ⟨hb2.grown hg sz2 (fun x hx => ((own2.lt x hx).1)), by rw [snoc.out]; exact ho⟩
              replace rest := Lib.hid rest
              replace own2 := Lib.hid own2
              replace sz2 := Lib.hid sz2
              replace hb2 := Lib.hid hb2
              replace hb1 := Lib.hid hb1
              go_wp2_with (at_builtin; (refine wpList_append_own _ rfl (.tmp 104) (.tmp 112) 25 rfl W1.heap.size 37 i37 (.agg #[.int .i64 0, .int .i64 0]) 2 16 Try.underlying25 mi.out mz0.out mz1.out mz2.out rfl (by decide) _ k _ rfl own2.out ⟨X1.heap.size, 0, none⟩ 1 1 [.int .i64 Q.n, .int .i64 Q.d] rfl rfl (news2 X1 Q) (one2 Q) (by unfold maxLen; omega) (by omega) sz2.out ?_
                                        intro v z ho3 hg3 _
                                        have fin := Lib.hid (rest.out z v ho3 hg3)
                                        clear ho3 hg3))
              go_roundw
              case rel => exact ⟨k + 1, by omega, by simp, fin.out.1, fin.out.2⟩
              case measure => simp [intOf]; omega
        · have : n = k := by omega
          subst this
          obtain ⟨g9, cap9, rfl, hge9, hbl9⟩ := own_blkR hown (by omega)
          have hfin := Lib.hid (show AwW X n g9 ME wr from ⟨hfx.out.trans (hX.mono hXs.out), Nat.le_trans hXs.out hge9, hbl9⟩)
          replace hX := Lib.hid hX
          replace hown := Lib.hid hown
          replace hbl9 := Lib.hid hbl9
          go_wp2
          go_ret2
          exact ⟨g9, cap9, rfl, hfin.out⟩
end Go.Proofs.Ythleekdkbgnabaa
