/-
  Windows taken together: the specification's table.
-/
import Derived.Test.YtlnpnfjdcnijhaaBw
import Derived.Test.YtlnpnfjdcnijhaaBl
namespace Go.Proofs.Ytlnpnfjdcnijhaa
open Go.RowKit Go.Deep M
set_option linter.unusedVariables false
set_option linter.unusedSimpArgs false

/-- The table of windows taken together, in the first k windows, and in hour j. -/
structure TkW (w : World) (g m : Nat) (f : Nat → Bool) (X : World) : Prop where
  below : Below w.heap.size w X
  on : w.heap.size ≤ g
  out : BlB X g m f
theorem TkW.up {w X Y : World} {g m : Nat} {f : Nat → Bool} (h : TkW w g m f X) (hb : Below X.heap.size X Y) : TkW w g m f Y := ⟨bel_trans h.below hb, h.on, h.out.up hb⟩
theorem TkW.set {w X : World} {g m j : Nat} {f : Nat → Bool} (h : TkW w g m f X) (hj : j < m) (x : Bool) : TkW w g m (fun i => if i = j then x else f i) (X.setCell ⟨g, j, none⟩ (.bool x)) :=
  ⟨h.below.setCell h.on _, h.on, h.out.set hj x⟩
theorem TkW.congr {w X : World} {g m : Nat} {f f' : Nat → Bool} (h : TkW w g m f X) (e : ∀ i, i < m → f i = f' i) : TkW w g m f' X := ⟨h.below, h.on, h.out.congr e⟩
/-- The table, a window's box and its hours. -/
structure TiW (w : World) (g m b p n c g1 : Nat) (A : Option Addr) (f fa : Nat → Bool) (X : World) : Prop where
  on : TkW w g m f X
  box : BxW X b p A n c
  hrs : BlB X g1 p fa
  gb : g < b
  gg : g < g1
theorem TiW.set {w X : World} {g m b p n c g1 j : Nat} {A : Option Addr} {f fa : Nat → Bool} (h : TiW w g m b p n c g1 A f fa X) (hj : j < m) (x : Bool) : TiW w g m b p n c g1 A (fun i => if i = j then x else f i) fa (X.setCell ⟨g, j, none⟩ (.bool x)) :=
  ⟨h.on.set hj x, h.box.to (setCell_far (show b ≠ g by have := h.gb; omega)), h.hrs.far (show g1 ≠ g by have := h.gg; omega) _, h.gb, h.gg⟩
theorem TiW.congr {w X : World} {g m b p n c g1 : Nat} {A : Option Addr} {f f' fa : Nat → Bool} (h : TiW w g m b p n c g1 A f fa X) (e : ∀ i, i < m → f i = f' i) : TiW w g m b p n c g1 A f' fa X := ⟨h.on.congr e, h.box, h.hrs, h.gb, h.gg⟩
/-- What taken hands back. -/
def TakR (D : List Wc) (fits : Bool) (w : World) (e : Ending) (w' : World) : Prop :=
  ∃ A n, e = .returned (.tuple #[.slice A n n, .int .i64 (togE D fits)]) ∧ Below w.heap.size w w' ∧ (¬ togE D fits = 0 → A = none ∧ n = 0) ∧ (togE D fits = 0 → ∃ g, A = some ⟨g, 0, none⟩ ∧ n = perT D D.length ∧ BlB w' g (perT D D.length) (fun j => opT D D.length (j : Nat)))

set_option maxRecDepth 100000 in
set_option maxHeartbeats 8000000 in
theorem taken_ref (B : Nat) (A : Option Addr) (c : Nat) (D : List Wc) (hour : Int) (w : World) (h : Wds w B A D) (hB : B ≤ w.heap.size) :
    Calls Try.prog 86 #[.slice A D.length c, .int .i64 hour] w (TakR D (hourB hour) w) := by
  have h63 := h.1
  have c66 := fun X => isHour_ref hour X
  have hbad50 : ∀ k, k < D.length → winB (wc D k).x 60 = false → togE D (hourB hour) = 50 := fun k hk hf => by
    unfold togE
    rw [if_neg]
    intro hh
    rw [wns_at hh hk] at hf
    cases hf
  have hbad2 : wnsB D 60 = true → ¬ (1 ≤ D.length ∧ D.length ≤ 4 ∧ hourB hour = true) → togE D (hourB hour) = 2 := fun hv hh => by
    unfold togE
    rw [if_pos hv, if_neg]
    unfold okB
    intro hk
    simp only [Bool.and_eq_true, decide_eq_true_eq] at hk
    exact hh ⟨hk.1.1, hk.1.2, hk.2⟩
  have hgood : wnsB D 60 = true → (1 ≤ D.length ∧ D.length ≤ 4 ∧ hourB hour = true) → togE D (hourB hour) = if 100000 < perT D D.length then 4 else 0 := fun hv hh => by
    unfold togE
    rw [if_pos hv, if_pos]
    unfold okB
    simp only [Bool.and_eq_true, decide_eq_true_eq]
    exact ⟨⟨hh.1, hh.2.1⟩, hh.2.2⟩
  have hwns : Wns D 60 D.length → wnsB D 60 = true := fun h => decide_eq_true h
  have hple : wnsB D 60 = true → D.length ≤ 4 → ∀ k, k ≤ D.length → 1 ≤ perT D k ∧ perT D k ≤ 12960000 := fun hv h4 k hk => by
    obtain ⟨a, b⟩ := perT_le hv k hk
    have : 60 ^ k ≤ 60 ^ 4 := Nat.pow_le_pow_right (by omega) (by omega)
    exact ⟨a, by omega⟩
  have hsucc : ∀ k q, (wc D k).x.p = ((q : Nat) : Int) → perT D (k + 1) = mulN (perT D k) q := fun k q hq => perT_succ hq
  have hwin : wnsB D 60 = true → ∀ k, k < D.length → winB (wc D k).x 60 = true := fun hv k hk => wns_at hv hk
  have hnext : ∀ k q, (wc D k).x.p = ((q : Nat) : Int) → ∀ j : Nat, opT D (k + 1) (j : Nat) = (opT D k (j : Nat) && opB (wc D k).x ((j % q : Nat) : Int)) := fun k q hq j => by
    rw [opT_succ]
    show (_ && _) = _
    rw [Int.natCast_emod, opB_perM hq j]
  unfold TakR
  obtain ⟨n, hn⟩ : ∃ n, n = D.length := ⟨_, rfl⟩
  obtain ⟨er, her⟩ : ∃ er, er = togE D (hourB hour) := ⟨_, rfl⟩
  rw [← her] at hbad50 hbad2 hgood ⊢
  rw [← hn] at h63 hbad50 hbad2 hgood hwns hple hwin ⊢
  obtain ⟨fits, hfits⟩ : ∃ f, f = hourB hour := ⟨_, rfl⟩
  rw [← hfits] at c66 hbad2 hgood her
  replace hn := Lib.hid hn
  replace her := Lib.hid her
  replace hfits := Lib.hid hfits
  replace c66 := Lib.hid c66
  replace hbad50 := Lib.hid hbad50
  replace hbad2 := Lib.hid hbad2
  replace hgood := Lib.hid hgood
  replace hwns := Lib.hid hwns
  replace hple := Lib.hid hple
  replace hsucc := Lib.hid hsucc
  replace hwin := Lib.hid hwin
  replace hnext := Lib.hid hnext
  replace h := Lib.hid h
  go_enter Try.func86, Try.ntmps86
  go_wp2
  go_loopw [19] (fun i X => ∃ k : Nat, k ≤ n ∧ i = .int .i64 (k : Nat) ∧ Wns D 60 k ∧ Below w.heap.size w X) (fun i _ => n - (intOf i).toNat)
  case atStart => exact ⟨0, Nat.zero_le _, rfl, wns_zero _ _, Below.refl _ _⟩
  case round =>
    obtain ⟨k, hk, rfl, hel, hX⟩ := hrel
    replace hel := Lib.hid hel
    by_cases hlt : k < n
    · have hq := h.out.below (hX.mono hB)
      obtain ⟨b, o, rfl, hbB, e0, e1, hrow⟩ := hq.at_ k (hn.out ▸ hlt)
      have hsc := fun hh => wns_succ hel.out (k := k) hh
      have hb5 := hbad50.out k hlt
      obtain ⟨x, hx⟩ : ∃ x, x = (wc D k).x := ⟨_, rfl⟩
      rw [← hx] at e0 e1 hrow hsc hb5
      generalize (wc D k).A = Ak at *
      generalize (wc D k).c = ck at *
      obtain ⟨p, hp⟩ : ∃ p, p = x.p := ⟨_, rfl⟩
      rw [← hp] at e0
      have hl63 := hrow.1
      have hY1 := ba1 wr (.cells #[.int .i64 p, .slice Ak x.hs.length ck] 24)
      have hXY := bel_trans hX hY1
      have hbw := BxW.new wr p Ak x.hs.length ck
      have hrY := hrow.below (hY1.mono (Nat.le_trans hB hX.size))
      obtain ⟨t, hte⟩ : ∃ t, t = wr.heap.size := ⟨_, rfl⟩
      obtain ⟨Y, hYe⟩ : ∃ Y, Y = wr.alloc (.cells #[.int .i64 p, .slice Ak x.hs.length ck] 24) := ⟨_, rfl⟩
      rw [← hYe] at hXY hbw hrY
      rw [← hte] at hbw
      have c25 := Valid_ref B Ak ck x Y hrY (Nat.le_trans hB hXY.size)
      rw [← hp] at c25
      unfold wnV at c25
      have z0 := hbw.c0
      have z1 := hbw.c1
      replace hYe := Lib.hid hYe
      replace hte := Lib.hid hte
      replace hx := Lib.hid hx
      replace hp := Lib.hid hp
      replace hXY := Lib.hid hXY
      replace hbw := Lib.hid hbw
      replace hrY := Lib.hid hrY
      replace hrow := Lib.hid hrow
      replace hq := Lib.hid hq
      replace hX := Lib.hid hX
      replace hY1 := Lib.hid hY1
      cases hval : winB x 60 with
      | true =>
        rw [hval] at c25
        have hsc := Lib.hid (hsc (by rw [hval]))
        clear hb5
        replace c25 := Lib.hid c25
        replace hval := Lib.hid hval
        go_wp2_with fail
        rw [← hYe.out, ← hte.out]
        refine c25.out.mono ?_
        rintro e X2 ⟨rfl, hb2⟩
        have hend := Lib.hid (bel_trans hXY.out hb2)
        go_wp2
        go_roundw
        case rel => exact ⟨k + 1, by omega, by go_num, hsc.out, hend.out⟩
        case measure => simp [intOf]; omega
      | false =>
        rw [hval] at c25
        have hb5 := Lib.hid (hb5 hval)
        clear hsc
        replace c25 := Lib.hid c25
        replace hval := Lib.hid hval
        go_wp2_with fail
        rw [← hYe.out, ← hte.out]
        refine c25.out.mono ?_
        rintro e X2 ⟨rfl, hb2⟩
        have hend := Lib.hid (bel_trans hXY.out hb2)
        go_wp2
        exact bodyPost_ret (v := .tuple #[.slice none 0 0, .int .i64 50]) (by simp [results, Try.results86, go_sem]) rfl ⟨none, 0, by rw [hb5.out], hend.out, fun _ => ⟨rfl, rfl⟩, fun h => absurd h (by rw [hb5.out]; omega)⟩
    · have hk' : k = n := by omega
      subst hk'
      have hv := hwns.out hel.out
      by_cases hok : 1 ≤ k ∧ k ≤ 4 ∧ fits = true
      · obtain ⟨g1, g2, rfl⟩ := hok
        have hgd := hgood.out hv ⟨g1, g2, rfl⟩
        have hple' := Lib.hid (hple.out hv g2)
        have hwin' := Lib.hid (hwin.out hv)
        have k66 := Lib.hid (c66.out wr)
        clear hgood hple hwin hwns hbad2 hbad50 c66
        replace hgd := Lib.hid hgd
        replace hv := Lib.hid hv
        replace hX := Lib.hid hX
        go_wp2_with fail
        refine k66.out.mono ?_
        rintro e X2 ⟨rfl, rfl⟩
        clear k66
        go_wp2
        go_loopw [8, 42] (fun a i X => ∃ j : Nat, j ≤ k ∧ i = .int .i64 (j : Nat) ∧ a = .int .i64 (perT D j : Nat) ∧ Below w.heap.size w X) (fun _ i _ => k - (intOf i).toNat)
        case atStart => exact ⟨0, Nat.zero_le _, rfl, rfl, hX.out⟩
        case round =>
          clear hX
          obtain ⟨j, hj, rfl, rfl, hX⟩ := hrel
          by_cases hlt : j < k
          · have hq := h.out.below (hX.mono hB)
            obtain ⟨b, o, rfl, hbB, e0, e1, hrow⟩ := hq.at_ j (hn.out ▸ hlt)
            obtain ⟨q, hqp, q1, q2, _⟩ := win_nat (hwin'.out j hlt)
            have hwk := win_more (hwin'.out j hlt) (show (60 : Int) ≤ 3600 by omega)
            have hpk := hsucc.out j q hqp
            have hnx := hnext.out j q hqp
            rw [hqp] at e0
            obtain ⟨x, hx⟩ : ∃ x, x = (wc D j).x := ⟨_, rfl⟩
            rw [← hx] at e1 hrow hqp hwk hnx
            generalize (wc D j).A = Ak at *
            generalize (wc D j).c = ck at *
            have hl63 := hrow.1
            have hY1 := ba1 wr (.cells #[.int .i64 (q : Nat), .slice Ak x.hs.length ck] 24)
            have hXY := bel_trans hX hY1
            have hbw := BxW.new wr q Ak x.hs.length ck
            have hrY := hrow.below (hY1.mono (Nat.le_trans hB hX.size))
            obtain ⟨t, hte⟩ : ∃ t, t = wr.heap.size := ⟨_, rfl⟩
            obtain ⟨Y, hYe⟩ : ∃ Y, Y = wr.alloc (.cells #[.int .i64 (q : Nat), .slice Ak x.hs.length ck] 24) := ⟨_, rfl⟩
            obtain ⟨pl1, pl2⟩ := hple'.out j (by omega)
            have pl3 := hple'.out (j + 1) (by omega)
            rw [← hYe] at hXY hbw hrY
            rw [← hte] at hbw
            have c90 := multiple_ref (perT D j) q 12960000 Y ⟨pl1, pl2⟩ (by omega) (by have : perT D j * q ≤ 12960000 * 60 := Nat.mul_le_mul pl2 (by omega); omega) (by omega)
            rw [← hpk] at c90
            have z0 := hbw.c0
            have z1 := hbw.c1
            replace hYe := Lib.hid hYe
            replace hte := Lib.hid hte
            replace hx := Lib.hid hx
            replace hqp := Lib.hid hqp
            replace hpk := Lib.hid hpk
            replace hnx := Lib.hid hnx
            replace hwk := Lib.hid hwk
            replace hXY := Lib.hid hXY
            replace hbw := Lib.hid hbw
            replace hrY := Lib.hid hrY
            replace hrow := Lib.hid hrow
            replace hq := Lib.hid hq
            replace hX := Lib.hid hX
            replace hY1 := Lib.hid hY1
            clear hnx hwk
            obtain ⟨P, hP⟩ : ∃ P, P = perT D j := ⟨_, rfl⟩
            obtain ⟨P', hP'⟩ : ∃ P', P' = perT D (j + 1) := ⟨_, rfl⟩
            rw [← hP] at pl1 pl2 c90 ⊢
            rw [← hP'] at pl3 c90
            obtain ⟨pl3, pl4⟩ := pl3
            replace hP := Lib.hid hP
            replace hP' := Lib.hid hP'
            replace c90 := Lib.hid c90
            go_wp2_with fail
            rw [← hYe.out, ← hte.out]
            refine c90.out.mono ?_
            rintro e X2 ⟨rfl, kk, hb2⟩
            have hend := Lib.hid (show Below w.heap.size w X2 by rw [hb2]; exact below_drewN hXY.out kk)
            clear hb2
            go_wp2
            go_roundw
            case rel => exact ⟨j + 1, by omega, by go_num, by rw [hP'.out], hend.out⟩
            case measure => simp [intOf]; omega
          · replace hgd := hgd.out
            have hj' : j = k := by omega
            subst hj'
            obtain ⟨m1, m2⟩ := hple'.out j (Nat.le_refl _)
            obtain ⟨m, hm⟩ : ∃ m, m = perT D j := ⟨_, rfl⟩
            rw [← hm] at hgd m1 m2 ⊢
            by_cases hbig : 100000 < m
            · rw [if_pos hbig] at hgd
              replace hgd := Lib.hid hgd
              replace hm := Lib.hid hm
              replace hX := Lib.hid hX
              go_wp2
              exact bodyPost_ret (v := .tuple #[.slice none 0 0, .int .i64 4]) (by simp [results, Try.results86, go_sem]) rfl ⟨none, 0, by rw [hgd.out], hX.out, fun _ => ⟨rfl, rfl⟩, fun h => absurd h (by rw [hgd.out]; omega)⟩
            · rw [if_neg hbig] at hgd
              replace hgd := Lib.hid hgd
              replace hm := Lib.hid hm
              have hsz := run_mkB wr m (by omega)
              have hT : TkW w wr.heap.size m (fun i => if i < 0 then true else false) (mkB wr m) := ⟨bel_trans hX (mkB_below wr m), hX.size, (mkB_blk wr m).congr fun z _ => by simp⟩
              obtain ⟨g, hg⟩ : ∃ g, g = wr.heap.size := ⟨_, rfl⟩
              rw [← hg] at hT hsz
              replace hg := Lib.hid hg
              replace hT := Lib.hid hT
              replace hX := Lib.hid hX
              obtain ⟨k, rfl⟩ : ∃ k, k = j := ⟨_, rfl⟩
              go_wp2
              clear hsz
              go_loopw [57] (fun i X => ∃ j : Nat, j ≤ m ∧ i = .int .i64 (j : Nat) ∧ TkW w g m (fun i => if i < j then true else false) X) (fun i _ => m - (intOf i).toNat)
              case atStart => exact ⟨0, Nat.zero_le _, rfl, hT.out⟩
              case round =>
                clear hT
                obtain ⟨j, hj, rfl, hT⟩ := hrel
                by_cases hlt : j < m
                · have ea := hT.out.cell hlt
                  simp only [Nat.lt_irrefl, if_false] at ea
                  have ez := hT.out.fz j
                  have el0 := hT.out.lt
                  have hend := Lib.hid ((hT.set hlt true).congr (f' := fun i => if i < j + 1 then true else false) fun z _ => by
                    by_cases e : z = j
                    · subst e; simp
                    · by_cases e' : z < j
                      · simp [e, e', Nat.lt_succ_of_lt e']
                      · have : ¬ z < j + 1 := by omega
                        simp [e, e', this])
                  replace hT := Lib.hid hT
                  go_wp2
                  go_roundw
                  case rel => exact ⟨j + 1, by omega, by go_num, hend.out⟩
                  case measure => simp [intOf]; omega
                · have hj' : j = m := by omega
                  subst hj'
                  have hst := Lib.hid (hT.congr (f' := fun z => opT D 0 (z : Nat)) fun z hz => by rw [if_pos hz]; rfl)
                  replace hT := Lib.hid hT
                  go_wp2
                  go_loopw [66] (fun i X => ∃ z : Nat, z ≤ k ∧ i = .int .i64 (z : Nat) ∧ TkW w g j (fun y => opT D z (y : Nat)) X) (fun i _ => k - (intOf i).toNat)
                  case atStart => exact ⟨0, Nat.zero_le _, rfl, hst.out⟩
                  case round =>
                    clear hst hT
                    obtain ⟨m, rfl⟩ : ∃ m, m = j := ⟨_, rfl⟩
                    obtain ⟨j, hj, rfl, hT⟩ := hrel
                    by_cases hlt : j < k
                    · have hX := hT.below
                      have hq := h.out.below (hX.mono hB)
                      obtain ⟨b, o, rfl, hbB, e0, e1, hrow⟩ := hq.at_ j (hn.out ▸ hlt)
                      obtain ⟨q, hqp, q1, q2, _⟩ := win_nat (hwin'.out j hlt)
                      have hwk := win_more (hwin'.out j hlt) (show (60 : Int) ≤ 3600 by omega)
                      have hpk := hsucc.out j q hqp
                      have hnx := hnext.out j q hqp
                      rw [hqp] at e0
                      obtain ⟨x, hx⟩ : ∃ x, x = (wc D j).x := ⟨_, rfl⟩
                      rw [← hx] at e1 hrow hqp hwk hnx
                      generalize (wc D j).A = Ak at *
                      generalize (wc D j).c = ck at *
                      have hl63 := hrow.1
                      have hY1 := ba1 wr (.cells #[.int .i64 (q : Nat), .slice Ak x.hs.length ck] 24)
                      have hXY := bel_trans hX hY1
                      have hbw := BxW.new wr q Ak x.hs.length ck
                      have hrY := hrow.below (hY1.mono (Nat.le_trans hB hX.size))
                      obtain ⟨t, hte⟩ : ∃ t, t = wr.heap.size := ⟨_, rfl⟩
                      obtain ⟨Y, hYe⟩ : ∃ Y, Y = wr.alloc (.cells #[.int .i64 (q : Nat), .slice Ak x.hs.length ck] 24) := ⟨_, rfl⟩
                      have hTY := hT.up hY1
                      rw [← hYe] at hXY hbw hrY hTY
                      rw [← hte] at hbw
                      have c67 := hours_ref B Ak ck x q Y hrY (Nat.le_trans hB hXY.size) hwk hqp
                      unfold HrsR wnV at c67
                      have hgt : g < t := by rw [hte]; exact hT.out.lt
                      obtain ⟨fa, hfa⟩ : ∃ f : Nat → Bool, f = opN x x.hs.length := ⟨_, rfl⟩
                      obtain ⟨f0, hf0⟩ : ∃ f : Nat → Bool, f = fun z => opT D j (z : Nat) := ⟨_, rfl⟩
                      obtain ⟨f1, hf1⟩ : ∃ f : Nat → Bool, f = fun z => opT D (j + 1) (z : Nat) := ⟨_, rfl⟩
                      have hnx' : ∀ i, f1 i = (f0 i && fa (i % q)) := fun i => by
                        rw [hf1, hf0, hfa]
                        show opT D (j + 1) (i : Nat) = (opT D j (i : Nat) && opN x x.hs.length (i % q))
                        rw [hnx i, opB_eq (j := i % q) (by rw [hqp, Int.natCast_emod, Int.emod_emod_of_dvd _ (Int.dvd_refl _)])]
                      rw [← hfa] at c67
                      rw [← hf0] at hTY
                      have z0 := hbw.c0
                      have z1 := hbw.c1
                      replace hYe := Lib.hid hYe
                      replace hte := Lib.hid hte
                      replace hx := Lib.hid hx
                      replace hqp := Lib.hid hqp
                      replace hpk := Lib.hid hpk
                      replace hnx := Lib.hid hnx
                      replace hwk := Lib.hid hwk
                      replace hXY := Lib.hid hXY
                      replace hbw := Lib.hid hbw
                      replace hrY := Lib.hid hrY
                      replace hrow := Lib.hid hrow
                      replace hq := Lib.hid hq
                      replace hX := Lib.hid hX
                      replace hY1 := Lib.hid hY1
                      clear hnx
                      replace hfa := Lib.hid hfa
                      replace hf0 := Lib.hid hf0
                      replace hf1 := Lib.hid hf1
                      replace hnx' := Lib.hid hnx'
                      replace hT := Lib.hid hT
                      replace hTY := Lib.hid hTY
                      replace c67 := Lib.hid c67
                      go_wp2_with fail
                      rw [← hYe.out, ← hte.out]
                      refine c67.out.mono ?_
                      rintro e X2 ⟨g1, rfl, hb2, hblk, hg1⟩
                      have hst : TiW w g m t q x.hs.length ck g1 Ak (fun z => if z < 0 then f1 z else f0 z) fa X2 := ⟨(hTY.out.up hb2).congr fun z _ => by simp, hbw.out.up hb2, hblk, hgt, by have := hTY.out.out.lt; omega⟩
                      clear z0 z1
                      replace hst := Lib.hid hst
                      replace hb2 := Lib.hid hb2
                      replace hblk := Lib.hid hblk
                      go_wp2
                      go_loopw [74] (fun i X => ∃ z : Nat, z ≤ m ∧ i = .int .i64 (z : Nat) ∧ TiW w g m t q x.hs.length ck g1 Ak (fun y => if y < z then f1 y else f0 y) fa X) (fun i _ => m - (intOf i).toNat)
                      case atStart => exact ⟨0, Nat.zero_le _, rfl, hst.out⟩
                      case round =>
                        obtain ⟨i, hi, rfl, hI⟩ := hrel
                        by_cases hlt2 : i < m
                        · have hra : i % q < q := Nat.mod_lt _ (by omega)
                          have ea := hI.on.out.cell hlt2
                          simp only [Nat.lt_irrefl, if_false] at ea
                          have ez := hI.on.out.fz i
                          have el0 := hI.on.out.lt
                          have eb := hI.hrs.cell hra
                          obtain ⟨c0, c1⟩ : wr.cell? ⟨t, 0, none⟩ = some (.int .i64 (q : Nat)) ∧ wr.cell? ⟨t, 1, none⟩ = some (.slice Ak x.hs.length ck) := ⟨hI.box.c0, hI.box.c1⟩
                          have ma : ((i : Int)).tmod (q : Int) = ((i % q : Nat) : Int) := rfl
                          have hF := hnx'.out i
                          have hset := fun v => hI.set hlt2 v
                          have hfin : ∀ (Z : World) (G : Nat → Bool), TiW w g m t q x.hs.length ck g1 Ak G fa Z → (∀ z, ¬ z = i → G z = if z < i then f1 z else f0 z) → G i = f1 i → TiW w g m t q x.hs.length ck g1 Ak (fun z => if z < i + 1 then f1 z else f0 z) fa Z := fun Z G hZ h1 h2 => hZ.congr fun z _ => by
                            by_cases e : z = i
                            · subst e; simp [h2]
                            · rw [h1 z e]
                              by_cases e' : z < i
                              · simp [e', Nat.lt_succ_of_lt e']
                              · have : ¬ z < i + 1 := by omega
                                simp [e', this]
                          generalize i % q = ra at *
                          cases ha : f0 i with
                          | false =>
                            rw [ha] at ea hF
                            have h1 := hfin wr _ hI (fun z hz => rfl) (by simp [hF, ha])
                            have h2 := hfin _ _ (hset false) (fun z hz => by simp [hz]) (by simp [hF])
                            clear hset hfin
                            replace h1 := Lib.hid h1
                            replace h2 := Lib.hid h2
                            replace ha := Lib.hid ha
                            replace hF := Lib.hid hF
                            replace hI := Lib.hid hI
                            go_wp2
                            go_roundw
                            case rel => first | exact ⟨i + 1, by omega, by go_num, h1.out⟩ | exact ⟨i + 1, by omega, by go_num, h2.out⟩
                            case measure => simp [intOf]; omega
                          | true =>
                            rw [ha] at ea hF
                            cases hb : fa ra with
                            | false =>
                              rw [hb] at eb hF
                              have h2 := hfin _ _ (hset false) (fun z hz => by simp [hz]) (by simp [hF])
                              clear hset hfin
                              replace h2 := Lib.hid h2
                              replace ha := Lib.hid ha
                              replace hb := Lib.hid hb
                              replace hF := Lib.hid hF
                              replace hI := Lib.hid hI
                              go_wp2
                              go_roundw
                              case rel => exact ⟨i + 1, by omega, by go_num, h2.out⟩
                              case measure => simp [intOf]; omega
                            | true =>
                              rw [hb] at eb hF
                              have h1 := hfin wr _ hI (fun z hz => rfl) (by simp [hF, ha])
                              have h2 := hfin _ _ (hset true) (fun z hz => by simp [hz]) (by simp [hF])
                              clear hset hfin
                              replace h1 := Lib.hid h1
                              replace h2 := Lib.hid h2
                              replace ha := Lib.hid ha
                              replace hb := Lib.hid hb
                              replace hF := Lib.hid hF
                              replace hI := Lib.hid hI
                              go_wp2
                              go_roundw
                              case rel => first | exact ⟨i + 1, by omega, by go_num, h1.out⟩ | exact ⟨i + 1, by omega, by go_num, h2.out⟩
                              case measure => simp [intOf]; omega
                        · have hi' : i = m := by omega
                          subst hi'
                          have hend := Lib.hid (hI.on.congr (f' := f1) fun z hz => by simp [hz])
                          replace hI := Lib.hid hI
                          go_wp2
                          go_roundw
                          case rel => exact ⟨j + 1, by omega, by go_num, by rw [← hf1.out]; exact hend.out⟩
                          case measure => simp [intOf]; omega
                    · have hj' : j = k := by omega
                      subst hj'
                      have hbe := Lib.hid hT.below
                      have hbl := Lib.hid hT.out
                      replace hT := Lib.hid hT
                      go_wp2
                      exact bodyPost_ret (v := .tuple #[.slice (some ⟨g, 0, none⟩) m m, .int .i64 0]) (by simp [results, Try.results86, go_sem]) rfl ⟨some ⟨g, 0, none⟩, m, by rw [hgd.out], hbe.out, fun h => absurd hgd.out h, fun _ => ⟨g, rfl, hm.out, by rw [← hm.out]; exact hbl.out⟩⟩
      · have he2 := hbad2.out hv hok
        have k66 := Lib.hid (c66.out wr)
        by_cases h1 : 1 ≤ k
        · by_cases h2 : k ≤ 4
          · have h3 : fits = false := by
              cases fits
              · rfl
              · exact absurd ⟨h1, h2, rfl⟩ hok
            subst h3
            clear hok hgood hple hwin hwns hbad2 hbad50 hsucc c66
            replace he2 := Lib.hid he2
            replace hv := Lib.hid hv
            replace hX := Lib.hid hX
            go_wp2_with fail
            refine k66.out.mono ?_
            rintro e X2 ⟨rfl, rfl⟩
            clear k66
            go_wp2
            exact bodyPost_ret (v := .tuple #[.slice none 0 0, .int .i64 2]) (by simp [results, Try.results86, go_sem]) rfl ⟨none, 0, by rw [he2.out], hX.out, fun _ => ⟨rfl, rfl⟩, fun h => absurd h (by rw [he2.out]; omega)⟩
          · clear hok hgood hple hwin hwns hbad2 hbad50 hsucc c66 k66
            replace he2 := Lib.hid he2
            replace hv := Lib.hid hv
            replace hX := Lib.hid hX
            go_wp2
            exact bodyPost_ret (v := .tuple #[.slice none 0 0, .int .i64 2]) (by simp [results, Try.results86, go_sem]) rfl ⟨none, 0, by rw [he2.out], hX.out, fun _ => ⟨rfl, rfl⟩, fun h => absurd h (by rw [he2.out]; omega)⟩
        · clear hok hgood hple hwin hwns hbad2 hbad50 hsucc c66 k66
          replace he2 := Lib.hid he2
          replace hv := Lib.hid hv
          replace hX := Lib.hid hX
          go_wp2
          exact bodyPost_ret (v := .tuple #[.slice none 0 0, .int .i64 2]) (by simp [results, Try.results86, go_sem]) rfl ⟨none, 0, by rw [he2.out], hX.out, fun _ => ⟨rfl, rfl⟩, fun h => absurd h (by rw [he2.out]; omega)⟩
end Go.Proofs.Ytlnpnfjdcnijhaa
