/-
  What claimants get who come in an order: Turn of the specification.
-/
import Derived.Test.YthleekdkbgnabaaTd
namespace Go.Proofs.Ythleekdkbgnabaa
open Go.RowKit Go.Deep M
set_option linter.unusedVariables false
set_option linter.unusedSimpArgs false

namespace M
/-- Who has come, of the first k. -/
def coF (o : List Int) : Nat → Nat → Bool
  | 0 => fun _ => false
  | k + 1 => fun i => if i = (el o k).toNat then true else coF o k i
theorem coF_iff (o : List Int) (k i : Nat) : coF o k i = true ↔ ∃ t, t < k ∧ (el o t).toNat = i := by
  induction k with
  | zero => simp [coF]
  | succ k ih =>
    unfold coF
    by_cases e : i = (el o k).toNat
    · rw [if_pos e]; exact ⟨fun _ => ⟨k, by omega, e.symm⟩, fun _ => rfl⟩
    · rw [if_neg e, ih]
      constructor
      · rintro ⟨t, ht, h⟩; exact ⟨t, by omega, h⟩
      · rintro ⟨t, ht, h⟩
        rcases Nat.lt_succ_iff_lt_or_eq.1 ht with h' | rfl
        · exact ⟨t, h', h⟩
        · exact absurd h.symm e
end M
/-- The tables of Turn: who has come, and what each has got. -/
structure TrW (w : World) (n gb g : Nat) (cm : Nat → Bool) (gf : Nat → Int) (X : World) : Prop where
  below : Below w.heap.size w X
  co : BlB X gb n cm
  got : BlI X g n gf
theorem TrW.setc {w X : World} {n gb g i : Nat} {cm : Nat → Bool} {gf : Nat → Int} (h : TrW w n gb g cm gf X) (hgb : w.heap.size ≤ gb) (hne : g ≠ gb) (hi : i < n) : TrW w n gb g (fun j => if j = i then true else cm j) gf (X.setCell ⟨gb, i, none⟩ (.bool true)) :=
  ⟨h.below.setCell hgb _, h.co.set hi true, h.got.to (setCell_far hne)⟩
theorem TrW.setg {w X : World} {n gb g i : Nat} {cm : Nat → Bool} {gf : Nat → Int} (h : TrW w n gb g cm gf X) (hg : w.heap.size ≤ g) (hne : gb ≠ g) (hi : i < n) (v : Int) : TrW w n gb g cm (fun j => if j = i then v else gf j) (X.setCell ⟨g, i, none⟩ (.int .i64 v)) :=
  ⟨h.below.setCell hg _, h.co.to (setCell_far hne), h.got.set hi v⟩

set_option maxRecDepth 100000 in
set_option maxHeartbeats 4000000 in
theorem TurnR_walk (A Ao : Option Addr) (c co : Nat) (l o : List Int) (e : Int) (w : World) (h : Row w w.heap.size A l) (ho : Row w w.heap.size Ao o) (hk : okE l e) (hlen : o.length = l.length) (N0 : Nat) (E0 : Int) (hyes : ordP o l.length → N0 = l.length ∧ E0 = 0) (hno : ¬ ordP o l.length → N0 = 0 ∧ E0 = 2) :
    Calls Try.prog 46 #[.slice A l.length c, .slice Ao o.length co, .int .i64 e] w (TuR w N0 (tuS l o e o.length).2 E0) := by
  have k1 := asked_any w.heap.size A c l e w h
  rw [errC_ok hk] at k1
  have hn := val_len hk.1
  have hsm := sm_b hk.1
  have he := hk.2
  have hat := fun X (hX : Below w.heap.size w X) k (hk : k < l.length) => (h.below hX).at_ k hk
  have hao := fun X (hX : Below w.heap.size w X) k (hk : k < l.length) => (ho.below hX).at_ k (show k < o.length by omega)
  have hx := fun k (hkl : k < l.length) => hk.1.2 k hkl
  have h1 := tuS_1 l o e
  have h2 := tuS_2 l o e
  have hz : (tuS l o e 0).1 = e := rfl
  have hfin : difP o l.length l.length → N0 = l.length ∧ E0 = 0 := fun hd => hyes (ord_dif.2 ⟨hlen, hd⟩)
  have hbad : ∀ k, k < l.length → (¬ (0 ≤ el o k ∧ el o k < l.length) ∨ coF o k (el o k).toNat = true) → difP o l.length k → N0 = 0 ∧ E0 = 2 := fun k hk hh hd => hno fun hor => by
    have hdi := (ord_dif.1 hor).2
    rcases hh with hh | hh
    · exact hh (hdi.1 k hk)
    · obtain ⟨t, ht, he⟩ := (coF_iff o k _).1 hh
      have a1 := hdi.1 t (by omega)
      have a2 := hdi.1 k hk
      exact hdi.2 t k ht hk (by omega)
  have hgood : ∀ k, k < l.length → (0 ≤ el o k ∧ el o k < l.length) → coF o k (el o k).toNat = false → difP o l.length k → difP o l.length (k + 1) := fun k hk hr hc hd => dif_succ hd hr fun i hi heq => by
    have := (coF_iff o k (el o k).toNat).2 ⟨i, hi, by rw [heq]⟩
    rw [hc] at this; cases this
  have hco : ∀ k, coF o (k + 1) = fun i => if i = (el o k).toNat then true else coF o k i := fun k => rfl
  have hd0 := dif_zero o l.length
  have hm1 := run_mkB w l.length (by omega)
  have hm2 := run_mkI (mkB w l.length) l.length (by omega)
  have hms : (mkB w l.length).heap.size = w.heap.size + 1 := by simp [mkB]
  have hW0 : TrW w l.length w.heap.size (w.heap.size + 1) (coF o 0) (tuS l o e 0).2 (mkI (mkB w l.length) l.length) := by
    have a1 := mkB_below w l.length
    have a2 := mkI_below (mkB w l.length) l.length
    have a3 := mkI_blk (mkB w l.length) l.length
    rw [hms] at a3
    exact ⟨bel_trans a1 a2, (mkB_blk w l.length).up a2, a3⟩
  rw [hms] at hm2
  have kw := fun X (v : Int) => within_any 0 v ((l.length : Int) - 1) X
  have hb0 : ∀ k : Nat, 0 ≤ (tuS l o e k).1 ∧ (tuS l o e k).1 ≤ 8000 → True := fun _ _ => trivial
  have hitf := fun X => itf_none X (tuS l o e o.length).2
  unfold TuR
  have hoi : ∀ X g, BlI X g l.length (tuS l o e o.length).2 → ItF X (some ⟨g, 0, none⟩) l.length (tuS l o e o.length).2 := fun X g hX _ => ⟨g, rfl, hX⟩
  rw [hlen] at hoi hitf ⊢
  generalize l.length = n at *
  generalize tuS l o e = T at *
  obtain ⟨gb, hgb⟩ : ∃ g, g = w.heap.size := ⟨_, rfl⟩
  obtain ⟨g, hg⟩ : ∃ g, g = w.heap.size + 1 := ⟨_, rfl⟩
  rw [← hg] at hm2 hW0
  rw [← hgb] at hm1 hW0
  obtain ⟨Y1, hY1⟩ : ∃ Y, Y = mkB w n := ⟨_, rfl⟩
  rw [← hY1] at hm1 hm2 hW0
  obtain ⟨Y2, hY2⟩ : ∃ Y, Y = mkI Y1 n := ⟨_, rfl⟩
  rw [← hY2] at hm2 hW0
  have hwgb : w.heap.size ≤ gb := by omega
  have hwg : w.heap.size ≤ g := by omega
  have hne1 : g ≠ gb := by omega
  have hne2 : gb ≠ g := by omega
  have hst := Lib.hid (And.intro hW0 (And.intro hd0 (show 0 ≤ (T 0).1 ∧ (T 0).1 ≤ 8000 by rw [hz]; omega)))
  clear hW0 hd0 hms
  rw [← hz]
  replace hz := Lib.hid hz
  replace hgb := Lib.hid hgb
  replace hg := Lib.hid hg
  replace hY1 := Lib.hid hY1
  replace hY2 := Lib.hid hY2
  replace k1 := Lib.hid k1
  replace kw := Lib.hid kw
  replace hat := Lib.hid hat
  replace hao := Lib.hid hao
  replace hx := Lib.hid hx
  replace h1 := Lib.hid h1
  replace h2 := Lib.hid h2
  replace hfin := Lib.hid hfin
  replace hbad := Lib.hid hbad
  replace hgood := Lib.hid hgood
  replace hco := Lib.hid hco
  replace hitf := Lib.hid hitf
  replace hoi := Lib.hid hoi
  replace hlen := Lib.hid hlen
  replace hyes := Lib.hid hyes
  replace hno := Lib.hid hno
  replace h := Lib.hid h
  replace ho := Lib.hid ho
  replace hk := Lib.hid hk
  replace he := Lib.hid he
  replace hsm := Lib.hid hsm
  clear hb0
  obtain ⟨hn1, hn8⟩ := hn
  go_enter Try.func46, Try.ntmps46
  go_wp2_with fail
  rw [hz.out]
  refine k1.out.mono ?_
  rintro _ X ⟨rfl, rfl⟩
  go_wp2
  go_loopw [12, 13, 11, 6, 7] (fun i _ lf _ _ wr => ∃ k : Nat, k ≤ n ∧ i = .int .i64 (k : Nat) ∧ lf = .int .i64 (T k).1 ∧ TrW X n gb g (coF o k) (T k).2 wr ∧ difP o n k ∧ 0 ≤ (T k).1 ∧ (T k).1 ≤ 8000) (fun i _ _ _ _ _ => n - (intOf i).toNat)
  case atStart => exact ⟨0, by omega, rfl, by rw [hz.out], by rw [hY2.out, hY1.out] at hst ⊢; exact hst.out⟩
  case round =>
    clear hst
    obtain ⟨k, hkk, rfl, rfl, hW, hd, hb⟩ := hrel
    by_cases hkn : k < n
    · obtain ⟨bo, oo, rfl, _, e0⟩ := hao.out wr hW.below k hkn
      have kk := kw.out wr (el o k)
      by_cases hr : 0 ≤ el o k ∧ el o k < n
      · rw [decide_eq_true (by omega)] at kk
        obtain ⟨i, hi⟩ := Int.eq_ofNat_of_zero_le hr.1
        try simp only [Int.ofNat_eq_natCast] at hi
        have hti : (el o k).toNat = i := by rw [hi]; exact Int.toNat_natCast i
        have hin : i < n := by omega
        have hin2 : (i : Int) < (n : Int) := by omega
        have hkn2 : (k : Int) < (n : Int) := by omega
        have cb := hW.co.cell hin
        have fb := hW.co.fz i
        have lb := hW.co.lt
        rw [hi] at e0 kk
        cases hc : coF o k i with
        | true =>
          obtain ⟨rfl, rfl⟩ := hbad.out k hkn (.inr (by rw [hti]; exact hc)) hd
          rw [hc] at cb
          have hz5 := Lib.hid hW.below
          replace hW := Lib.hid hW
          replace hd := Lib.hid hd
          replace hb := Lib.hid hb
          replace hr := Lib.hid hr
          replace hi := Lib.hid hi
          replace hti := Lib.hid hti
          replace hc := Lib.hid hc
          replace kk := Lib.hid kk
          go_wp2_with fail
          refine kk.out.mono ?_
          rintro _ X1 ⟨rfl, rfl⟩
          go_wp2
          go_ret2
          exact ⟨_, _, _, rfl, hz5.out, rfl, hitf.out _⟩
        | false =>
          have hd2 := Lib.hid (hgood.out k hkn hr (by rw [hti]; exact hc) hd)
          rw [hc] at cb
          obtain ⟨ba, oa, rfl, _, a0⟩ := hat.out wr hW.below i hin
          have hxi := hx.out i hin
          unfold okC at hxi
          have hT1 := h1.out k
          have hT2 := h2.out k
          have hC := hco.out k
          rw [hti] at hT1 hT2 hC
          have W1 := hW.setc hwgb hne1 hin
          have c1 := W1.got.cell hin
          have f1 := W1.got.fz i
          have l1 := W1.got.lt
          obtain ⟨ba', oa', he', _, a1⟩ := hat.out _ W1.below i hin
          cases he'
          generalize T k = t at *
          obtain ⟨lf, gf⟩ := t
          simp only at hT1 hT2 hb c1 ⊢
          generalize el l i = x at *
          have W2 := W1.setg hwg hne2 hin (min x lf)
          have s0 := W2.got.cell hin
          simp only [if_true] at s0
          have hv0 : 0 ≤ min x lf ∧ min x lf ≤ 1000 ∧ min x lf ≤ lf := by omega
          have w1 : IntKind.i64.wrap (lf - min x lf) = lf - min x lf := IntWalk.i64_in _ (by omega)
          have hb2 := Lib.hid (show 0 ≤ lf - min x lf ∧ lf - min x lf ≤ 8000 by omega)
          rw [← hC] at W2
          replace W1 := Lib.hid W1
          replace W2 := Lib.hid W2
          replace hW := Lib.hid hW
          replace hd := Lib.hid hd
          replace hr := Lib.hid hr
          replace hi := Lib.hid hi
          replace hti := Lib.hid hti
          replace hc := Lib.hid hc
          replace hT1 := Lib.hid hT1
          replace hT2 := Lib.hid hT2
          replace hC := Lib.hid hC
          replace kk := Lib.hid kk
          go_wp2_with fail
          refine kk.out.mono ?_
          rintro _ X1 ⟨rfl, rfl⟩
          go_wp2
          go_roundw
          case rel => exact ⟨k + 1, by omega, by simp, by rw [hT1.out], by rw [hT2.out]; exact W2.out, hd2.out, by rw [hT1.out]; exact hb2.out⟩
          case measure => simp [intOf]; omega
      · rw [decide_eq_false (by omega)] at kk
        obtain ⟨rfl, rfl⟩ := hbad.out k hkn (.inl hr) hd
        have hz5 := Lib.hid hW.below
        replace hW := Lib.hid hW
        replace hd := Lib.hid hd
        replace hb := Lib.hid hb
        replace hr := Lib.hid hr
        generalize el o k = v at *
        replace kk := Lib.hid kk
        go_wp2_with fail
        refine kk.out.mono ?_
        rintro _ X1 ⟨rfl, rfl⟩
        go_wp2
        go_ret2
        exact ⟨_, _, _, rfl, hz5.out, rfl, hitf.out _⟩
    · have : k = n := by omega
      subst this
      obtain ⟨hN, hE⟩ := hfin.out hd
      replace hN := Lib.hid hN
      replace hE := Lib.hid hE
      have hz5 := Lib.hid hW.below
      have hz6 := Lib.hid (hoi.out _ _ hW.got)
      replace hW := Lib.hid hW
      replace hd := Lib.hid hd
      replace hb := Lib.hid hb
      go_wp2
      go_ret2
      exact ⟨some ⟨g, 0, none⟩, k, k, by rw [hE.out]; rfl, hz5.out, hN.out.symm, hz6.out⟩

set_option maxRecDepth 100000 in
set_option maxHeartbeats 2000000 in
theorem Turn_ref (A Ao : Option Addr) (c co : Nat) (l o : List Int) (e : Int) (w : World) (h : Row w w.heap.size A l) (ho : Row w w.heap.size Ao o) :
    Calls Try.prog 46 #[.slice A l.length c, .slice Ao o.length co, .int .i64 e] w (TuR w (tuN l o e) (tuS l o e o.length).2 (errU l o e)) := by
  have h63 := ho.1
  have k1 := asked_any w.heap.size A c l e w h
  have hbw := Lib.hid (Below.refl w.heap.size w)
  have hit := fun X => itf_none X (tuS l o e o.length).2
  by_cases hk : okE l e
  · by_cases hlen : o.length = l.length
    · refine TurnR_walk A Ao c co l o e w h ho hk hlen _ _ (fun hd => ?_) (fun hd => ?_)
      · unfold tuN errU; rw [if_pos ⟨hk, hd⟩, if_pos hk, if_pos hd]; exact ⟨rfl, rfl⟩
      · unfold tuN errU; rw [if_neg (fun hh => hd hh.2), if_pos hk, if_neg hd]; exact ⟨rfl, rfl⟩
    · have hd : ¬ ordP o l.length := fun hh => hlen hh.1
      have hn := val_len hk.1
      have hU : ¬ okU l o e := fun hh => hd hh.2
      unfold tuN errU TuR
      rw [if_neg hU, if_pos hk, if_neg hd]
      rw [errC_ok hk] at k1
      replace hU := Lib.hid hU
      generalize (tuS l o e o.length).2 = f at *
      generalize l.length = n at *
      generalize o.length = m at *
      have hne : ((m : Int) != (n : Int)) = true := by simp; omega
      replace k1 := Lib.hid k1
      replace h := Lib.hid h
      replace ho := Lib.hid ho
      replace hk := Lib.hid hk
      replace hd := Lib.hid hd
      replace hlen := Lib.hid hlen
      replace hit := Lib.hid hit
      go_enter Try.func46, Try.ntmps46
      go_wp2_with fail
      refine k1.out.mono ?_
      rintro _ X ⟨rfl, rfl⟩
      go_wp2
      go_ret2
      exact ⟨_, _, _, rfl, hbw.out, rfl, hit.out _⟩
  · have hU : ¬ okU l o e := fun hh => hk hh.1
    have hne := errC_ne hk
    unfold tuN errU TuR
    rw [if_neg hU, if_neg hk]
    generalize (tuS l o e o.length).2 = f at *
    generalize l.length = n at *
    generalize o.length = m at *
    generalize errC l e = E at *
    have hn : (E != 0) = true := by simp; omega
    replace k1 := Lib.hid k1
    replace h := Lib.hid h
    replace ho := Lib.hid ho
    replace hk := Lib.hid hk
    replace hU := Lib.hid hU
    replace hne := Lib.hid hne
    replace hit := Lib.hid hit
    go_enter Try.func46, Try.ntmps46
    go_wp2_with fail
    refine k1.out.mono ?_
    rintro _ X ⟨rfl, rfl⟩
    go_wp2
    go_ret2
    exact ⟨_, _, _, rfl, hbw.out, rfl, hit.out _⟩
end Go.Proofs.Ythleekdkbgnabaa
