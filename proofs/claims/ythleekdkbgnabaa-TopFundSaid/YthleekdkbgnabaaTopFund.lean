/-
  For any claims, estate and awards, the law TopFund returns true: every rule shares the estate, equal losses and equal awards are two sides of one, the old rule agrees with the garment for every two, and no other awards do.
  Conditions: none.
-/
import Derived.Test.YthleekdkbgnabaaJz
import Derived.Test.YthleekdkbgnabaaK
import Derived.Deep.DeepCutAuto
namespace Go.Proofs.Ythleekdkbgnabaa.lawTopFund
open Go.Joins Go.ChangeShapes Go.WideShapes Go.ChangeAt Go.RowKit Go.Deep Go.Proofs.Ythleekdkbgnabaa M
set_option linter.unusedVariables false
set_option linter.unusedSimpArgs false

/-- A box of five lists. -/
def BlV (X : World) (b : Nat) (S : Nat → Value) : Prop := ∃ cs : Array Value, X.heap[b]? = some (.cells cs 64 (0, 0)) ∧ ∀ j, j < 5 → cs[j]? = some (S j)
theorem BlV.lt {X : World} {b : Nat} {S : Nat → Value} (h : BlV X b S) : b < X.heap.size := by obtain ⟨cs, h1, _⟩ := h; exact blk_lt h1
theorem BlV.to {X Y : World} {b : Nat} {S : Nat → Value} (h : BlV X b S) (hb : Y.heap[b]? = X.heap[b]?) : BlV Y b S := by obtain ⟨cs, h1, h2⟩ := h; exact ⟨cs, hb.trans h1, h2⟩
theorem BlV.up {X Y : World} {b : Nat} {S : Nat → Value} (h : BlV X b S) (hb : Below X.heap.size X Y) : BlV Y b S := h.to (hb.block b h.lt)
theorem BlV.cell {X : World} {b j : Nat} {S : Nat → Value} (h : BlV X b S) (hj : j < 5) : X.cell? ⟨b, j, none⟩ = some (S j) := by obtain ⟨cs, h1, h2⟩ := h; simp [World.cell?, h1, h2 j hj]
theorem BlV.fz {X : World} {b : Nat} {S : Nat → Value} (h : BlV X b S) (j : Nat) : X.frozen? ⟨b, j, none⟩ = false := by obtain ⟨cs, h1, _⟩ := h; simp [World.frozen?, h1]
theorem BlV.set {X : World} {b j : Nat} {S : Nat → Value} (h : BlV X b S) (hj : j < 5) (v : Value) : BlV (X.setCell ⟨b, j, none⟩ v) b (fun i => if i = j then v else S i) := by
  obtain ⟨cs, h1, h2⟩ := h
  have hjs : j < cs.size := (Array.getElem?_eq_some_iff.1 (h2 j hj)).1
  refine ⟨cs.setIfInBounds j v, by simp [World.setCell, Array.getElem?_modify, h1], fun i hi => ?_⟩
  rw [Array.getElem?_setIfInBounds]
  by_cases e : i = j
  · subst e; simp [hjs]
  · have e2 : ¬ j = i := fun h => e h.symm
    simp [e, e2, h2 i hi]
/-- The lists of the first k rules. -/
structure AlS (w : World) (b n : Nat) (F : Nat → Nat → Rt) (k : Nat) (S : Nat → Value) (X : World) : Prop where
  below : Below w.heap.size w X
  box : BlV X b S
  has : ∀ j, 1 ≤ j → j ≤ k → ∃ g cp, g ≠ b ∧ S j = .slice (some ⟨g, 0, none⟩) n cp ∧ BlR X g n (F j)
theorem AlS.up {w X Y : World} {b n k : Nat} {F : Nat → Nat → Rt} {S : Nat → Value} (h : AlS w b n F k S X) (hb : Below X.heap.size X Y) : AlS w b n F k S Y :=
  ⟨bel_trans h.below hb, h.box.up hb, fun j h1 h2 => by obtain ⟨g, cp, e0, e, q⟩ := h.has j h1 h2; exact ⟨g, cp, e0, e, q.up hb⟩⟩
theorem AlS.put {w X : World} {b n k : Nat} {F : Nat → Nat → Rt} {S : Nat → Value} (h : AlS w b n F k S X) (hw : w.heap.size ≤ b) (hk : k < 4) {g cp : Nat} (hg : g ≠ b) (hF : BlR X g n (F (k + 1))) :
    AlS w b n F (k + 1) (fun i => if i = k + 1 then .slice (some ⟨g, 0, none⟩) n cp else S i) (X.setCell ⟨b, k + 1, none⟩ (.slice (some ⟨g, 0, none⟩) n cp)) := by
  have hfar : ∀ q, q ≠ b → (X.setCell ⟨b, k + 1, none⟩ (.slice (some ⟨g, 0, none⟩) n cp)).heap[q]? = X.heap[q]? := fun q hq => set1_far hq _
  refine ⟨h.below.setCell hw _, h.box.set (by omega) _, fun j h1 h2 => ?_⟩
  by_cases e : j = k + 1
  · subst e; exact ⟨g, cp, hg, by simp, hF.to (hfar g hg)⟩
  · obtain ⟨g', cp', e0, e1, q⟩ := h.has j h1 (by omega)
    exact ⟨g', cp', e0, by rw [if_neg e]; exact e1, q.to (hfar g' e0)⟩
set_option maxRecDepth 100000 in
set_option maxHeartbeats 4000000 in
theorem out (A Aw : Option Addr) (c n cw m : Nat) (e : Int) (w : World) (hn : n ≤ 9223372036854775807) (hl : 40 < n) :
    Calls Try.prog 16 #[.slice A n c, .int .i64 e, .slice Aw m cw] w fun r w' => r = .returned (.bool true) ∧ Below w.heap.size w w' := by
  have k1 := Long_any A c n w hn
  rw [show decide (40 < (n : Int)) = true from decide_eq_true (by omega)] at k1
  replace k1 := Lib.hid k1
  go_enter Try.func16, Try.ntmps16
  go_wp2_with fail
  refine k1.out.mono ?_
  rintro _ X ⟨rfl, rfl⟩
  go_wp2_with fail
  refine (Sane_any _).mono ?_
  rintro _ X9 ⟨rfl, hb9⟩
  go_wp2
  go_ret
  exact ⟨rfl, hb9⟩
set_option maxRecDepth 100000 in
set_option maxHeartbeats 4000000 in
theorem out2 (A Aw : Option Addr) (c n cw m : Nat) (e : Int) (w : World) (hn : n ≤ 9223372036854775807) (hl : ¬ 40 < n) (hm : 40 < m) :
    Calls Try.prog 16 #[.slice A n c, .int .i64 e, .slice Aw m cw] w fun r w' => r = .returned (.bool true) ∧ Below w.heap.size w w' := by
  have k1 := Long_any A c n w hn
  rw [show decide (40 < (n : Int)) = false from decide_eq_false (by omega)] at k1
  replace k1 := Lib.hid k1
  have hm2 : (40 : Int) < m := by omega
  replace hl := Lib.hid hl
  go_enter Try.func16, Try.ntmps16
  go_wp2_with fail
  refine k1.out.mono ?_
  rintro _ X ⟨rfl, rfl⟩
  go_wp2_with fail
  refine (Sane_any _).mono ?_
  rintro _ X9 ⟨rfl, hb9⟩
  go_wp2
  go_ret
  exact ⟨rfl, hb9⟩
set_option maxRecDepth 100000 in
set_option maxHeartbeats 4000000 in
theorem out3 (A Aw : Option Addr) (c cw m : Nat) (l : List Int) (e : Int) (w : World) (h : Row w w.heap.size A l) (hl : ¬ 40 < l.length) (hm : ¬ 40 < m) (hk : ¬ okE l e) :
    Calls Try.prog 16 #[.slice A l.length c, .int .i64 e, .slice Aw m cw] w fun r w' => r = .returned (.bool true) ∧ Below w.heap.size w w' := by
  have k1 := Long_any A c l.length w h.1
  rw [show decide (40 < (l.length : Int)) = false from decide_eq_false (by omega)] at k1
  have k2 := Valid_ref w.heap.size A c l w h
  have kT := fun hv : vC l => Total_ref w.heap.size A c l w h hv.2 (by omega)
  have hm2 : ¬ (40 : Int) < m := by omega
  by_cases hv : vC l
  · rw [show valB l = true from decide_eq_true hv] at k2
    have kt := kT hv
    have hs : e < 0 ∨ ¬ e < 0 ∧ sm l < e := by
      rcases Int.lt_or_le e 0 with h1 | h1
      · exact .inl h1
      · rcases Int.lt_or_le (sm l) e with h2 | h2
        · exact .inr ⟨by omega, h2⟩
        · exact absurd ⟨hv, h1, h2⟩ hk
    generalize sm l = S at *
    generalize l.length = n at *
    clear kT
    replace k1 := Lib.hid k1
    replace k2 := Lib.hid k2
    replace kt := Lib.hid kt
    replace h := Lib.hid h
    replace hl := Lib.hid hl
    replace hk := Lib.hid hk
    replace hv := Lib.hid hv
    rcases hs with hs | ⟨hs1, hs2⟩
    · go_enter Try.func16, Try.ntmps16
      go_wp2_with fail
      refine k1.out.mono ?_
      rintro _ X ⟨rfl, rfl⟩
      go_wp2_with fail
      refine k2.out.mono ?_
      rintro _ X ⟨rfl, rfl⟩
      go_wp2_with fail
      refine (Sane_any _).mono ?_
      rintro _ X9 ⟨rfl, hb9⟩
      go_wp2
      go_ret
      exact ⟨rfl, hb9⟩
    · go_enter Try.func16, Try.ntmps16
      go_wp2_with fail
      refine k1.out.mono ?_
      rintro _ X ⟨rfl, rfl⟩
      go_wp2_with fail
      refine k2.out.mono ?_
      rintro _ X ⟨rfl, rfl⟩
      go_wp2_with fail
      refine kt.out.mono ?_
      rintro _ X ⟨rfl, rfl⟩
      go_wp2_with fail
      refine (Sane_any _).mono ?_
      rintro _ X9 ⟨rfl, hb9⟩
      go_wp2
      go_ret
      exact ⟨rfl, hb9⟩
  · rw [show valB l = false from decide_eq_false hv] at k2
    generalize l.length = n at *
    clear kT
    replace k1 := Lib.hid k1
    replace k2 := Lib.hid k2
    replace h := Lib.hid h
    replace hl := Lib.hid hl
    replace hk := Lib.hid hk
    replace hv := Lib.hid hv
    go_enter Try.func16, Try.ntmps16
    go_wp2_with fail
    refine k1.out.mono ?_
    rintro _ X ⟨rfl, rfl⟩
    go_wp2_with fail
    refine k2.out.mono ?_
    rintro _ X ⟨rfl, rfl⟩
    go_wp2_with fail
    refine (Sane_any _).mono ?_
    rintro _ X9 ⟨rfl, hb9⟩
    go_wp2
    go_ret
    exact ⟨rfl, hb9⟩
set_option maxRecDepth 100000 in
set_option maxHeartbeats 8000000 in
theorem inn (A Aw : Option Addr) (c cw : Nat) (l : List Int) (D : List Rt) (e : Int) (w : World) (h : Row w w.heap.size A l) (hw : Rts w w.heap.size Aw D) (hl : ¬ 40 < l.length) (hm : ¬ 40 < D.length) (hE : okE l e) :
    Calls Try.prog 16 #[.slice A l.length c, .int .i64 e, .slice Aw D.length cw] w fun r w' => r = .returned (.bool true) ∧ Below w.heap.size w w' := by
  have hv := hE.1
  have hn := val_len hv
  have hsm := sm_b hv
  have hee := hE.2
  have k1 := Long_any A c l.length w h.1
  rw [show decide (40 < (l.length : Int)) = false from decide_eq_false (by omega)] at k1
  have k2 := Valid_ref w.heap.size A c l w h
  rw [show valB l = true from decide_eq_true hv] at k2
  have kt := fun X (hX : Below w.heap.size w X) => Total_ref w.heap.size A c l X (h.below hX) hv.2 (by omega)
  have hks : ∀ k : Nat, k < 4 → okS l e (k + 1 : Nat) := fun k hk => ⟨hE, by omega, by omega⟩
  have a1 : ∀ X, Below w.heap.size w X → ∀ k : Nat, k < 4 → _ := fun X hX k hk => Share_any X.heap.size A c l e (k + 1 : Nat) X (h.up hX) (Nat.le_refl _)
  unfold ShR at a1
  have a1' : ∀ X, Below w.heap.size w X → ∀ k : Nat, k < 4 → Calls Try.prog 19 #[.slice A l.length c, .int .i64 e, .int .i64 (k + 1 : Nat)] X fun r w' => ∃ A' N cp, r = .returned (.tuple #[.slice A' N cp, .int .i64 0]) ∧ Below X.heap.size X w' ∧ N = l.length ∧ RtF w' A' N (shR l e (k + 1 : Nat)) := fun X hX k hk => by
    have := a1 X hX k hk
    rw [shN_ok (hks k hk), errS_ok (hks k hk)] at this
    exact this
  clear a1
  have hkm : okS l (sm l - e) 2 := ⟨okE_mis hE, by decide, by decide⟩
  have a2 := fun X (hX : Below w.heap.size w X) => Share_any X.heap.size A c l (sm l - e) 2 X (h.up hX) (Nat.le_refl _)
  unfold ShR at a2
  rw [shN_ok hkm, errS_ok hkm] at a2
  have aS := fun X (hX : Below w.heap.size w X) (k : Nat) g cp (hb : BlR X g l.length (shR l e (k + 1 : Nat))) => Shares_any A (some ⟨g, 0, none⟩) c cp l e (mkQ (shR l e (k + 1 : Nat)) l.length) X (h.up hX) (rts_blk hb (by omega)) (by rw [mkQ_len]; omega)
  have sq2 := fun k : Nat => (show shaB l e (mkQ (shR l e (k + 1 : Nat)) l.length) = true by
    obtain ⟨sp, sq⟩ := sh_share hE (k + 1 : Nat)
    unfold shaB; rw [if_pos sp, sq])
  have sq3 := fun k : Nat => errA_ok (sh_share hE (k + 1 : Nat)).1
  simp only [mkQ_len, sq2, sq3] at aS
  have aG := fun X (hX : Below w.heap.size w X) (k : Nat) g cp (hb : BlR X g l.length (shR l e (k + 1 : Nat))) => Agrees_any A (some ⟨g, 0, none⟩) c cp l e (mkQ (shR l e (k + 1 : Nat)) l.length) X (h.up hX) (rts_blk hb (by omega)) (by rw [mkQ_len]; omega)
  simp only [mkQ_len, sq3] at aG
  have hag4 : agB l e (mkQ (shR l e (3 + 1 : Nat)) l.length) = true := old_agrees hE
  have aW := fun X (hX : Below w.heap.size w X) (k : Nat) (hk : k < 4) => Whole_ok X.heap.size A c l e X (h.up hX) (Nat.le_refl _) hE k hk
  have hwp := fun (k : Nat) Q s L σ hK hI => whole_ok (l := l) (e := e) (F := shR l e (k + 1 : Nat)) (Q := Q) (s := s) (L := L) (σ := σ) hK (fun i hi => gd_sh hE (k + 1 : Nat) hi) hI
  have hxs := fun i (hi : i < l.length) => hv.2 i hi
  have kTW : ∀ X g (W : Nat → Int) F, BlI X g l.length W → WhP l e F W → Calls Try.prog 51 #[.slice (some ⟨g, 0, none⟩) l.length l.length] X fun r w' => r = .returned (.int .i64 e) ∧ w' = X := fun X g W F hX hP => by
    obtain ⟨s1, s2⟩ := hP
    have q := Total_ref X.heap.size (some ⟨g, 0, none⟩) l.length (liF W l.length) X (row_blk hX (by omega)) (by rw [liF_len]; exact fun i hi => by rw [liF_at _ _ _ hi]; have := s2 i hi; have := hxs i hi; unfold okC at *; omega) (by rw [liF_len]; omega)
    rw [liF_len, liF_sm, s1] at q
    exact q
  have aD := fun X (hX : Below w.heap.size w X) => Agrees_any A Aw c cw l e D X (h.up hX) (hw.up hX) (by omega)
  have hyes : agB l e D = true → D.length = l.length ∧ errA l e D = 0 ∧ ∀ i, i < l.length → okW (rt D i) ∧ (rt D i).n * (shR l e 4 i).d = (shR l e 4 i).n * (rt D i).d := fun hag => by
    obtain ⟨p, q⟩ := old_alone hag
    have hok : okA l e D := by
      unfold agB at hag
      by_cases hh : okA l e D
      · exact hh
      · rw [if_neg hh] at hag; cases hag
    exact ⟨p, errA_ok hok, fun i hi => ⟨hok.2.2 i (by omega), q i hi⟩⟩
  have herr : errA l e D = 0 ∨ errA l e D = 2 := by
    unfold errA
    rw [if_pos hE]
    by_cases hh : isA l D
    · rw [if_pos hh]; exact .inl rfl
    · rw [if_neg hh]; exact .inr rfl
  have hg4 := fun i (hi : i < l.length) => gd_sh hE 4 hi
  have hg3 := fun i (hi : i < l.length) => gd_sh hE 3 hi
  have hg2 := fun i (hi : i < l.length) => gd_sh (okE_mis hE) 2 hi
  have hd3 := fun i (hi : i < l.length) => (show (shR l e 3 i).d ≤ 16 from by
    have b := eqL_b (e := sm l - e) hv (by omega) hi
    exact (lsL_b (hxs i hi) ⟨b.1, by omega, by omega⟩).2.2)
  have hd2 := fun i (hi : i < l.length) => (show (shR l (sm l - e) 2 i).d ≤ 8 from (eqL_b (e := sm l - e) hv (by omega) hi).2.2)
  have hsum := fun i (hi : i < l.length) => (sums_sh hE hi).1
  have hat := fun X (hX : Below w.heap.size w X) k (hk : k < l.length) => (h.below hX).at_ k hk
  have hwt := fun X (hX : Below w.heap.size w X) k (hk : k < D.length) => (hw.below hX).at_ k hk
  have hd40 : decide ((40 : Int) < D.length) = false := decide_eq_false (by omega)
  have hm2 : ¬ (40 : Int) < D.length := by omega
  obtain ⟨FF, hFF⟩ : ∃ FF : Nat → Nat → Rt, ∀ k : Nat, FF k = shR l e (k : Nat) := ⟨fun k => shR l e (k : Nat), fun _ => rfl⟩
  have hF4 : shR l e 4 = FF 4 := (hFF 4).symm
  have hF3 : shR l e 3 = FF 3 := (hFF 3).symm
  rw [hF4] at hyes hg4
  rw [hF3] at hg3 hd3 hsum
  have hFk : ∀ k : Nat, shR l e (k + 1 : Nat) = FF (k + 1) := fun k => (hFF (k + 1)).symm
  simp only [hFk] at a1' aS aG aW hwp hag4
  obtain ⟨GG, hGG⟩ : ∃ G, G = shR l (sm l - e) 2 := ⟨_, rfl⟩
  rw [← hGG] at a2 hg2 hd2 hsum
  obtain ⟨AG, hAG⟩ : ∃ b, b = agB l e D := ⟨_, rfl⟩
  obtain ⟨ER, hER⟩ : ∃ b, b = errA l e D := ⟨_, rfl⟩
  rw [← hAG] at hyes
  rw [← hER] at hyes herr
  simp only [← hAG, ← hER] at aD
  obtain ⟨ag, hag⟩ : ∃ ag : Nat → Bool, ∀ k, ag k = agB l e (mkQ (FF (k + 1)) l.length) := ⟨fun k => agB l e (mkQ (FF (k + 1)) l.length), fun _ => rfl⟩
  simp only [← hag] at aG
  rw [← hag 3] at hag4
  have hse1 : ¬ e < 0 := by omega
  have hse2 : ¬ sm l < e := by omega
  have hst : AlS w w.heap.size l.length FF 0 (fun _ => .slice none 0 0) (w.alloc (.cells #[.slice none 0 0, .slice none 0 0, .slice none 0 0, .slice none 0 0, .slice none 0 0] 64)) :=
    ⟨ba1 w _, ⟨_, heap_alloc_new w _, fun j hj => by
      rcases (show j = 0 ∨ j = 1 ∨ j = 2 ∨ j = 3 ∨ j = 4 by omega) with rfl | rfl | rfl | rfl | rfl <;> rfl⟩, fun j h1 h2 => by omega⟩
  obtain ⟨SS, hSS⟩ : ∃ s, s = sm l := ⟨_, rfl⟩
  rw [← hSS] at kt a2 hsm hee hse2
  have hmm : IntKind.i64.wrap (SS - e) = SS - e := IntWalk.i64_in _ (by omega)
  have hee2 : (e != e) = false := by simp
  generalize l.length = n at *
  generalize D.length = m at *
  have hnn : ((n : Int) != (n : Int)) = false := by simp
  clear hsm hee hks hkm sq2 sq3
  replace k1 := Lib.hid k1
  replace k2 := Lib.hid k2
  replace kt := Lib.hid kt
  replace a1' := Lib.hid a1'
  replace a2 := Lib.hid a2
  replace aS := Lib.hid aS
  replace aG := Lib.hid aG
  replace aW := Lib.hid aW
  replace hwp := Lib.hid hwp
  replace kTW := Lib.hid kTW
  replace aD := Lib.hid aD
  replace hyes := Lib.hid hyes
  replace herr := Lib.hid herr
  replace hg4 := Lib.hid hg4
  replace hg3 := Lib.hid hg3
  replace hg2 := Lib.hid hg2
  replace hd3 := Lib.hid hd3
  replace hd2 := Lib.hid hd2
  replace hsum := Lib.hid hsum
  replace hat := Lib.hid hat
  replace hwt := Lib.hid hwt
  replace hxs := Lib.hid hxs
  replace hFF := Lib.hid hFF
  replace hF4 := Lib.hid hF4
  replace hF3 := Lib.hid hF3
  replace hFk := Lib.hid hFk
  replace hGG := Lib.hid hGG
  replace hAG := Lib.hid hAG
  replace hER := Lib.hid hER
  replace hag := Lib.hid hag
  replace hag4 := Lib.hid hag4
  replace hst := Lib.hid hst
  replace hSS := Lib.hid hSS
  replace h := Lib.hid h
  replace hw := Lib.hid hw
  replace hl := Lib.hid hl
  replace hm := Lib.hid hm
  replace hv := Lib.hid hv
  replace hE := Lib.hid hE
  obtain ⟨hn1, hn8⟩ := hn
  go_enter Try.func16, Try.ntmps16
  go_wp2_with fail
  refine k1.out.mono ?_
  rintro _ X ⟨rfl, rfl⟩
  go_wp2_with fail
  refine k2.out.mono ?_
  rintro _ X ⟨rfl, rfl⟩
  go_wp2_with fail
  refine (kt.out _ (Below.refl _ _)).mono ?_
  rintro _ X ⟨rfl, rfl⟩
  go_wp2_with fail
  go_loopw [8, 9, 10, 11, 12, 13, 14, 15, 6] (fun q _ _ _ _ _ _ _ _ wr => ∃ (kz k : Nat) (S : Nat → Value), kz = k + 1 ∧ k ≤ 4 ∧ q = .int .i64 (kz : Nat) ∧ AlS X X.heap.size n FF k S wr) (fun q _ _ _ _ _ _ _ _ _ => (5 - intOf q).toNat)
  case atStart => exact ⟨1, 0, _, rfl, by omega, rfl, hst.out⟩
  case round =>
    clear hst
    obtain ⟨kz, k, S, hkz, hk4, rfl, hA⟩ := hrel
    by_cases hk : k < 4
    · have hz1 : (1 : Int) ≤ (kz : Int) := by omega
      have hz4 : (kz : Int) ≤ 4 := by omega
      have kk := Lib.hid (a1'.out wr hA.below k hk)
      have hA0 := Lib.hid hA
      have aWk := fun Z (hZ : Below X.heap.size X Z) => aW.out Z hZ k hk
      have kk2 := kk.out
      rw [← hkz] at kk2 aWk
      replace aWk := Lib.hid aWk
      replace kk2 := Lib.hid kk2
      clear kk hA
      replace hkz := Lib.hid hkz
      go_wp2_with fail
      refine kk2.out.mono ?_
      rintro _ X1 ⟨A1, N1, cp1, rfl, hb1, hN1, f1⟩
      replace hN1 := hN1.symm
      subst hN1
      have hA1 := hA0.out.up hb1
      obtain ⟨g, rfl, hbl⟩ := f1 (by omega)
      have hgb : g ≠ X.heap.size := fun e0 => by
        obtain ⟨cs, q1, q2⟩ := hA1.box
        obtain ⟨cs', q3, _⟩ := hbl
        rw [e0, q1] at q3
        cases q3
      have kS := Lib.hid (aS.out X1 hA1.below k g cp1 (by rw [← hkz.out]; exact hbl))
      have kG := fun Z (hZ : Below X1.heap.size X1 Z) => aG.out Z (bel_trans hA1.below hZ) k g cp1 (by rw [← hkz.out]; exact hbl.up hZ)
      have hAu := fun Z (hZ : Below X1.heap.size X1 Z) => And.intro (hA1.up hZ) (hbl.up hZ)
      replace kG := Lib.hid kG
      replace hAu := Lib.hid hAu
      replace f1 := Lib.hid f1
      replace hbl := Lib.hid hbl
      replace hA1 := Lib.hid hA1
      replace hb1 := Lib.hid hb1
      replace hgb := Lib.hid hgb
      go_wp2_with fail
      refine kS.out.mono ?_
      rintro _ X2 ⟨rfl, hb2⟩
      have kW := Lib.hid (aWk.out X2 (hAu.out X2 hb2).1.below)
      replace hb2 := Lib.hid hb2
      go_wp2_with fail
      refine kW.out.mono ?_
      rintro _ X3 ⟨gw, Q, s, L, σ, rfl, hb3, hblw, hK, hI⟩
      have hP := hwp.out k Q s L σ (by rw [← hkz.out]; exact hK) hI
      rw [← hkz.out] at hP
      have b3 := bel_trans hb2.out hb3
      have kt3 := Lib.hid (kTW.out X3 gw _ _ hblw hP)
      have kg3 := Lib.hid (kG.out X3 b3)
      clear hK hI hP
      replace hblw := Lib.hid hblw
      replace hb3 := Lib.hid hb3
      replace b3 := Lib.hid b3
      go_wp2_with fail
      refine kt3.out.mono ?_
      rintro _ X4 ⟨rfl, rfl⟩
      go_wp2_with fail
      refine kg3.out.mono ?_
      rintro _ X5 ⟨rfl, hb5⟩
      obtain ⟨hA5, hbl5⟩ := hAu.out X5 (bel_trans b3.out hb5)
      have hput := hA5.put (g := g) (cp := cp1) (Nat.le_refl _) hk hgb.out (by rw [← hkz.out]; exact hbl5)
      rw [← hkz.out] at hput
      have hkz4 : kz < 5 := by have := hkz.out; omega
      have c0 := hA5.box.cell (j := kz) hkz4
      have c1 := hA5.box.fz kz
      have c2 := hA5.box.lt
      have hkz5 : (kz : Int) < 5 := by omega
      clear hb5
      replace hput := Lib.hid hput
      replace hA5 := Lib.hid hA5
      replace hbl5 := Lib.hid hbl5
      obtain ⟨v0, hv0⟩ : ∃ v0, v0 = S kz := ⟨_, rfl⟩
      rw [← hv0] at c0
      replace hv0 := Lib.hid hv0
      by_cases hz : k = 3
      · subst hz
        have hk4' : kz = 4 := by have := hkz.out; omega
        subst hk4'
        have h4 := hag4.out
        rw [h4]
        go_wp2
        go_roundw
        case rel => exact ⟨5, 4, _, rfl, by omega, rfl, hput.out⟩
        case measure => simp [intOf]
      · have hkq := hkz.out
        have hk4' : ((kz : Int) == 4) = false := by simp; omega
        have hk4'' : ¬ (kz : Int) = 4 := by omega
        have hk43 : ¬ kz = 4 := by omega
        have hkz9 : kz ≤ 4 := by omega
        clear hkq
        generalize ag k = agk at *
        go_wp2
        go_roundw
        case rel => exact ⟨kz + 1, kz, _, rfl, hkz9, by go_num, hput.out⟩
        case measure => simp [intOf]; omega
    · have : k = 4 := by omega
      subst this
      have hk5 : kz = 5 := by omega
      clear hkz
      subst hk5
      have kt2 := Lib.hid (kt.out wr hA.below)
      have k22 := Lib.hid (a2.out wr hA.below)
      replace hA := Lib.hid hA
      go_wp2_with fail
      refine kt2.out.mono ?_
      rintro _ X1 ⟨rfl, rfl⟩
      go_wp2_with fail
      refine k22.out.mono ?_
      rintro _ X2 ⟨A2, N2, cp2, rfl, hb2, hN2, f2⟩
      replace hN2 := hN2.symm
      subst hN2
      obtain ⟨go, rfl, hbo⟩ := f2 (by omega)
      have hA2 := hA.out.up hb2
      have kD := Lib.hid (aD.out X2 hA2.below)
      obtain ⟨g3, cp3, _, e3, q3⟩ := hA2.has 3 (by omega) (by omega)
      obtain ⟨g4, cp4, _, e4, q4⟩ := hA2.has 4 (by omega) (by omega)
      have hU : ∀ Z, Below X2.heap.size X2 Z → Below X.heap.size X Z ∧ (Z.cell? ⟨X.heap.size, 3, none⟩ = some (.slice (some ⟨g3, 0, none⟩) n cp3) ∧ Z.cell? ⟨X.heap.size, 4, none⟩ = some (.slice (some ⟨g4, 0, none⟩) n cp4)) ∧ BlR Z g3 n (FF 3) ∧ BlR Z g4 n (FF 4) ∧ BlR Z go n GG := fun Z hZ => by
        have u := hA2.up hZ
        have c3 := u.box.cell (j := 3) (by omega)
        have c4 := u.box.cell (j := 4) (by omega)
        rw [e3] at c3
        rw [e4] at c4
        exact ⟨u.below, ⟨c3, c4⟩, q3.up hZ, q4.up hZ, hbo.up hZ⟩
      replace hU := Lib.hid hU
      replace hA2 := Lib.hid hA2
      replace e3 := Lib.hid e3
      replace e4 := Lib.hid e4
      replace q3 := Lib.hid q3
      replace q4 := Lib.hid q4
      replace f2 := Lib.hid f2
      replace hbo := Lib.hid hbo
      replace hb2 := Lib.hid hb2
      clear kt2 k22
      go_wp2_with fail
      refine kD.out.mono ?_
      rintro _ X3 ⟨rfl, hb3⟩
      replace hb3 := Lib.hid hb3
      go_upto_region 20 with fail
      go_cut [166] from 151 to 166 (fun v wx => v = .bool false ∧ Below X2.heap.size X2 wx)
      case first =>
        cases AG with
        | true =>
          obtain ⟨hDn, hER0, hD⟩ := hyes.out rfl
          subst hER0 hDn
          replace hD := Lib.hid hD
          replace herr := Lib.hid herr
          go_wp2_with fail
          go_meet
          exact ⟨rfl, hb3.out⟩
        | false =>
          have hc := herr.out
          rcases hc with h0 | h0
          all_goals
            subst h0
            go_wp2_with fail
            go_meet
            exact ⟨rfl, hb3.out⟩
      case rest =>
      obtain ⟨rfl, hw1⟩ := hcut
      replace hw1 := Lib.hid hw1
      clear hb3
      go_wp2_with fail
      go_loopw [20, 21, 22, 23, 6] (fun iv _ _ _ _ wr => ∃ i : Nat, i ≤ n ∧ iv = .int .i64 (i : Nat) ∧ Below X2.heap.size X2 wr) (fun iv _ _ _ _ _ => n - (intOf iv).toNat)
      case atStart => exact ⟨0, by omega, rfl, hw1.out⟩
      case round =>
        clear hw1
        obtain ⟨i, hi, rfl, hY⟩ := hrel
        by_cases hin : i < n
        · have hini : (i : Int) < (n : Int) := by omega
          have u0 := hU.out wr hY
          obtain ⟨ba, oa, rfl, _, _⟩ := hat.out wr u0.1 i hin
          clear u0
          have hcel : ∀ Z, Below wr.heap.size wr Z → Z.cell? ⟨X.heap.size, 3, none⟩ = some (.slice (some ⟨g3, 0, none⟩) n cp3) ∧ Z.cell? ⟨g3, i * 2, none⟩ = some (.int .i64 (FF 3 i).n) ∧ Z.cell? ⟨g3, i * 2 + 1, none⟩ = some (.int .i64 (FF 3 i).d) ∧ Z.cell? ⟨go, i * 2, none⟩ = some (.int .i64 (GG i).n) ∧ Z.cell? ⟨go, i * 2 + 1, none⟩ = some (.int .i64 (GG i).d) := fun Z hZ => by
            obtain ⟨v1, v2, v3, v4, v5⟩ := hU.out Z (bel_trans hY hZ)
            exact ⟨v2.1, v3.c0 hin, v3.c1 hin, v5.c0 hin, v5.c1 hin⟩
          have hcel4 : ∀ Z, Below wr.heap.size wr Z → Z.cell? ⟨X.heap.size, 4, none⟩ = some (.slice (some ⟨g4, 0, none⟩) n cp4) ∧ Z.cell? ⟨g4, i * 2, none⟩ = some (.int .i64 (FF 4 i).n) ∧ Z.cell? ⟨g4, i * 2 + 1, none⟩ = some (.int .i64 (FF 4 i).d) ∧ Z.cell? ⟨ba, oa + i, none⟩ = some (.int .i64 (el l i)) := fun Z hZ => by
            obtain ⟨v1, v2, v3, v4, v5⟩ := hU.out Z (bel_trans hY hZ)
            obtain ⟨b', o', he', _, s1⟩ := hat.out Z v1 i hin
            cases he'
            exact ⟨v2.2, v4.c0 hin, v4.c1 hin, s1⟩
          have hwD : ∀ Z, Below wr.heap.size wr Z → i < m → ∃ bw ow, Aw = some ⟨bw, ow, none⟩ ∧ Z.cell? ⟨bw, ow + i * 2, none⟩ = some (.int .i64 (rt D i).n) ∧ Z.cell? ⟨bw, ow + i * 2 + 1, none⟩ = some (.int .i64 (rt D i).d) := fun Z hZ him => by
            obtain ⟨v1, _⟩ := hU.out Z (bel_trans hY hZ)
            obtain ⟨bw, ow, q1, _, q2, q3⟩ := hwt.out Z v1 i him
            exact ⟨bw, ow, q1, q2, q3⟩
          have hup := fun Z (hZ : Below wr.heap.size wr Z) => bel_trans hY hZ
          obtain ⟨⟨a1, a2⟩, a3, a4⟩ := hg3.out i hin
          obtain ⟨⟨b1, b2⟩, b3, b4⟩ := hg2.out i hin
          obtain ⟨⟨f1, f2⟩, f3, f4⟩ := hg4.out i hin
          have hd3i := hd3.out i hin
          have hd2i := hd2.out i hin
          have hsu := hsum.out i hin
          have hxi := hxs.out i hin
          have hyi := fun hag => (hyes.out hag).2.2 i hin
          unfold okC at hxi
          unfold sumsR at hsu
          generalize FF 3 i = a at *
          generalize GG i = b at *
          generalize FF 4 i = f at *
          generalize rt D i = dk at *
          obtain ⟨an, ad⟩ := a
          obtain ⟨bn, bd⟩ := b
          obtain ⟨fn, fd⟩ := f
          obtain ⟨p, q⟩ := dk
          simp only at *
          generalize el l i = x at *
          have pa := mul_b (a := x) (b := ad) (A := 1000) (B := 16) hxi (by omega)
          have pb := mul_b (a := x) (b := bd) (A := 1000) (B := 8) hxi (by omega)
          have pf := mul_b (a := x) (b := fd) (A := 1000) (B := 10000) hxi (by omega)
          obtain ⟨r3, hr3⟩ : ∃ z, z = x * ad := ⟨_, rfl⟩
          rw [← hr3] at hsu pa a2
          have p1 := mul_b (a := an) (b := bd) (A := 16000) (B := 8) (by omega) (by omega)
          have p2 := mul_b (a := bn) (b := ad) (A := 8000) (B := 16) (by omega) (by omega)
          have p3 := mul_b (a := r3) (b := bd) (A := 16000) (B := 8) (by omega) (by omega)
          obtain ⟨r1, hr1⟩ : ∃ z, z = an * bd := ⟨_, rfl⟩
          obtain ⟨r2, hr2⟩ : ∃ z, z = bn * ad := ⟨_, rfl⟩
          obtain ⟨r4, hr4⟩ : ∃ z, z = r3 * bd := ⟨_, rfl⟩
          rw [← hr1, ← hr2, ← hr4] at hsu
          rw [← hr1] at p1
          rw [← hr2] at p2
          rw [← hr4] at p3
          have w1 : IntKind.i64.wrap (an * bd) = r1 := by rw [← hr1]; exact IntWalk.i64_in _ (by omega)
          have w2 : IntKind.i64.wrap (bn * ad) = r2 := by rw [← hr2]; exact IntWalk.i64_in _ (by omega)
          have w3 : IntKind.i64.wrap (x * ad) = r3 := by rw [← hr3]; exact IntWalk.i64_in _ (by omega)
          have w4 : IntKind.i64.wrap (r3 * bd) = r4 := by rw [← hr4]; exact IntWalk.i64_in _ (by omega)
          have w5 : IntKind.i64.wrap (r1 + r2) = r4 := by rw [hsu]; exact IntWalk.i64_in _ (by omega)
          have hne : (r4 != r4) = false := by simp
          have n1 : ¬ ad < 1 := by omega
          have n2 : ¬ bd < 1 := by omega
          have n3 : ¬ 100 < ad := by omega
          have n4 : ¬ 100 < bd := by omega
          have hfb : (0 ≤ fn ∧ fn ≤ 10000000) ∧ 1 ≤ fd ∧ fd ≤ 10000 := by omega
          clear a1 a2 a3 a4 b1 b2 b3 b4 f1 f2 f3 f4 hd3i hd2i hxi pa pb pf p1 p2 p3
          have h0 : Below wr.heap.size wr wr.drew := below_drewN (Below.refl _ _) 1
          have s0 := hcel _ h0
          replace hcel := Lib.hid hcel
          replace hcel4 := Lib.hid hcel4
          replace hwD := Lib.hid hwD
          replace hup := Lib.hid hup
          replace hsu := Lib.hid hsu
          replace hyi := Lib.hid hyi
          replace hfb := Lib.hid hfb
          replace hr1 := Lib.hid hr1
          replace hr2 := Lib.hid hr2
          replace hr3 := Lib.hid hr3
          replace hr4 := Lib.hid hr4
          replace hY := Lib.hid hY
          go_upto_region 25 with fail
          go_cut [21, 22] from 173 to 181 (fun p q wx => ∃ b1 b2 : Nat, p = .pointer (some ⟨b1, 0, none⟩) ∧ q = .pointer (some ⟨b2, 0, none⟩) ∧ Below wr.heap.size wr wx ∧ Bxr wx b1 an ad ∧ Bxr wx b2 bn bd)
          case first =>
            have t1 : Below wr.heap.size wr (wr.alloc (.cells #[.int .i64 0, .int .i64 0] 37)).drew := below_drewN (ba1 wr _) 1
            have t2 : Below wr.heap.size wr ((wr.alloc (.cells #[.int .i64 0, .int .i64 0] 37)).alloc (.cells #[.int .i64 0, .int .i64 0] 37)).drew := below_drewN (bel_trans (ba1 wr _) (ba1 _ _)) 1
            have t3 : Below wr.heap.size wr ((wr.alloc (.cells #[.int .i64 an, .int .i64 ad] 37)).alloc (.cells #[.int .i64 0, .int .i64 0] 37)).drew := below_drewN (bel_trans (ba1 wr _) (ba1 _ _)) 1
            have t4 : Below wr.heap.size wr ((wr.alloc (.cells #[.int .i64 0, .int .i64 0] 37)).alloc (.cells #[.int .i64 an, .int .i64 ad] 37)).drew := below_drewN (bel_trans (ba1 wr _) (ba1 _ _)) 1
            have t5 : Below wr.heap.size wr ((wr.alloc (.cells #[.int .i64 an, .int .i64 ad] 37)).alloc (.cells #[.int .i64 bn, .int .i64 bd] 37)).drew := below_drewN (bel_trans (ba1 wr _) (ba1 _ _)) 1
            have t6 : Below wr.heap.size wr ((wr.alloc (.cells #[.int .i64 bn, .int .i64 bd] 37)).alloc (.cells #[.int .i64 an, .int .i64 ad] 37)).drew := below_drewN (bel_trans (ba1 wr _) (ba1 _ _)) 1
            have s1 := hcel.out _ t1
            have s2 := hcel.out _ t2
            have s3 := hcel.out _ t3
            have s4 := hcel.out _ t4
            have s5 := hcel.out _ t5
            have s6 := hcel.out _ t6
            have fin1 : Bxr ((wr.alloc (.cells #[.int .i64 an, .int .i64 ad] 37)).alloc (.cells #[.int .i64 bn, .int .i64 bd] 37)).drew wr.heap.size an ad ∧ Bxr ((wr.alloc (.cells #[.int .i64 an, .int .i64 ad] 37)).alloc (.cells #[.int .i64 bn, .int .i64 bd] 37)).drew (wr.heap.size + 1) bn bd := by
              have q1 := (Bxr.new wr an ad).up (ba1 _ (.cells #[.int .i64 bn, .int .i64 bd] 37))
              have q2 := Bxr.new (wr.alloc (.cells #[.int .i64 an, .int .i64 ad] 37)) bn bd
              rw [show (wr.alloc (.cells #[.int .i64 an, .int .i64 ad] 37)).heap.size = wr.heap.size + 1 by simp] at q2
              exact ⟨q1, q2⟩
            have fin2 : Bxr ((wr.alloc (.cells #[.int .i64 bn, .int .i64 bd] 37)).alloc (.cells #[.int .i64 an, .int .i64 ad] 37)).drew (wr.heap.size + 1) an ad ∧ Bxr ((wr.alloc (.cells #[.int .i64 bn, .int .i64 bd] 37)).alloc (.cells #[.int .i64 an, .int .i64 ad] 37)).drew wr.heap.size bn bd := by
              have q1 := (Bxr.new wr bn bd).up (ba1 _ (.cells #[.int .i64 an, .int .i64 ad] 37))
              have q2 := Bxr.new (wr.alloc (.cells #[.int .i64 bn, .int .i64 bd] 37)) an ad
              rw [show (wr.alloc (.cells #[.int .i64 bn, .int .i64 bd] 37)).heap.size = wr.heap.size + 1 by simp] at q2
              exact ⟨q2, q1⟩
            replace fin1 := Lib.hid (And.intro t5 fin1)
            replace fin2 := Lib.hid (And.intro t6 fin2)
            replace t1 := Lib.hid t1
            replace t2 := Lib.hid t2
            replace t3 := Lib.hid t3
            replace t4 := Lib.hid t4
            replace t5 := Lib.hid t5
            replace t6 := Lib.hid t6
            go_region_held3 (fun Z => Z.cell? ⟨X.heap.size, 3, none⟩ = some (.slice (some ⟨g3, 0, none⟩) n cp3) ∧ Z.cell? ⟨g3, i * 2, none⟩ = some (.int .i64 an) ∧ Z.cell? ⟨g3, i * 2 + 1, none⟩ = some (.int .i64 ad) ∧ Z.cell? ⟨go, i * 2, none⟩ = some (.int .i64 bn) ∧ Z.cell? ⟨go, i * 2 + 1, none⟩ = some (.int .i64 bd)) (first | with_reducible exact s0 | with_reducible exact s1 | with_reducible exact s2 | with_reducible exact s3 | with_reducible exact s4 | with_reducible exact s5 | with_reducible exact s6) (fail)
            all_goals
              go_wp2_with fail
              go_meet
              first
                | exact ⟨_, _, rfl, rfl, fin1.out⟩
                | exact ⟨_, _, rfl, rfl, fin2.out⟩
          case rest =>
          obtain ⟨c1, c2, rfl, rfl, hwc, d1, d2⟩ := hcut
          clear s0
          have d10 := d1.c0
          have d11 := d1.c1
          have d20 := d2.c0
          have d21 := d2.c1
          obtain ⟨x1, x2, x3, x4⟩ := hcel4.out wc hwc
          clear x1 x2 x3
          replace hwc := Lib.hid hwc
          replace d1 := Lib.hid d1
          replace d2 := Lib.hid d2
          go_wp2_with fail
          go_quiet (fail)
          obtain ⟨y, hy⟩ : ∃ y, y = wc.drewN nq := ⟨_, rfl⟩
          rw [← hy]
          have hyb : Below wr.heap.size wr y := by rw [hy]; exact below_drewN hwc.out _
          have hzb := bel_trans hyb (ba1 y (.cells #[.int .i64 fn, .int .i64 fd] 37))
          obtain ⟨y1, y2, y3, y4⟩ := hcel4.out y hyb
          have e0 := (Bxr.new y fn fd).c0
          have e1 := (Bxr.new y fn fd).c1
          have hfinN := Lib.hid (fun N => hup.out _ (below_drewN hzb N))
          replace hy := Lib.hid hy
          clear d10 d11 d20 d21 x4 w1 w2 w3 w4 w5 hne
          replace hyb := Lib.hid hyb
          cases AG with
          | false =>
            replace hzb := Lib.hid hzb
            go_wp2_with fail
            go_quiet (fail)
            go_wp2
            go_roundw
            case rel => exact ⟨i + 1, by omega, by go_num, hfinN.out _⟩
            case measure => simp [intOf]; omega
          | true =>
            obtain ⟨hDn, hER0, hD⟩ := hyes.out rfl
            obtain ⟨o1, o2⟩ := hyi.out rfl
            obtain ⟨bw, ow, rfl, z0, z1⟩ := hwD.out _ hzb (by omega)
            have hf := hfb.out
            unfold okW at o1
            simp only at o1
            have pr := prod_b (a := p) (b := fd) (x := 1000000000) (y := 10000) (by omega) (by omega) (by omega)
            obtain ⟨t, ht⟩ : ∃ z, z = p * fd := ⟨_, rfl⟩
            rw [← ht] at pr o2
            have w6 : IntKind.i64.wrap (p * fd) = t := by rw [← ht]; exact IntWalk.i64_in _ (by omega)
            have w7 : IntKind.i64.wrap (fn * q) = t := by rw [← o2]; exact IntWalk.i64_in _ (by omega)
            have hne2 : (t != t) = false := by simp
            have him : (i : Int) < (m : Int) := by omega
            clear pr o1 hf
            replace o2 := Lib.hid o2
            replace ht := Lib.hid ht
            replace hD := Lib.hid hD
            replace hDn := Lib.hid hDn
            replace hER0 := Lib.hid hER0
            replace hzb := Lib.hid hzb
            go_wp2_with fail
            go_quiet (fail)
            go_wp2
            go_roundw
            case rel => exact ⟨i + 1, by omega, by go_num, hfinN.out _⟩
            case measure => simp [intOf]; omega
        · have : n = i := by omega
          subst this
          have hz := Lib.hid (hU.out wr hY).1
          replace hY := Lib.hid hY
          go_wp2_with fail
          refine (Sane_any _).mono ?_
          rintro _ X7 ⟨rfl, hb7⟩
          have hz7 := Lib.hid (bel_trans hz.out hb7)
          clear hb7
          go_wp2
          go_ret
          exact ⟨rfl, hz7.out⟩
theorem walk (A : Option Addr) (c : Nat) (l : List Int) (e : Int) (Aw : Option Addr) (cw : Nat) (D : List Rt) (w : World) (h : Row w w.heap.size A l) (_ : -9223372036854775808 ≤ e ∧ e ≤ 9223372036854775807) (hw : Rts w w.heap.size Aw D) :
    Calls Try.prog 16 #[.slice A l.length c, .int .i64 e, .slice Aw D.length cw] w fun r w' => r = .returned (.bool true) ∧ Below w.heap.size w w' := by
  by_cases hl : 40 < l.length
  · exact out A Aw c l.length cw D.length e w h.1 hl
  · by_cases hm : 40 < D.length
    · exact out2 A Aw c l.length cw D.length e w h.1 hl hm
    · by_cases hE : okE l e
      · exact inn A Aw c cw l D e w h hw hl hm hE
      · exact out3 A Aw c cw D.length l e w h hl hm hE

/-! ### the row's step -/
set_option maxRecDepth 100000 in
theorem lifted (os : Os) (started : os.Started) (H : Type) (enc : TypeId × Value → H) :
    ReturnsInHanded {} Try.checked os 16 .any (Rows.topFundSpec.pre6 enc Try.prog Try.f16 Rows.topFundRow.domain false) (Rows.topFundSpec.post enc Try.prog Try.f16 false true false false) := by
  refine returnsInHanded_of_change (C := Try.checked) own started (by kernel_rfl) Try.func16
    (ChangeSpec.witness6 (enc := enc) (C := Try.checked) false ⟨#[], #[.slice none 0 0, .int .i64 0, .slice none 0 0], []⟩ 8 (by kernel_rfl) (by kernel_rfl) (by kernel_rfl) (by kernel_rfl)) ?_
  intro W base args ds gs before hval0 hW hcnd _
  have hval : ∀ (j : Nat) t v, Try.f16.params[j]? = some t → args[j]? = some v → Value.okWide Try.prog W .any base t v := hval0
  have hW' := hW
  obtain ⟨p, q, hA0, hV, rfl, hfz, hnd⟩ := hW
  have hA : DataW.TrodAll enc Try.prog W 0 (fun _ => true) true Try.f16.params.toList args.toList ds p := hA0
  rw [Try.params16] at hA hval
  obtain ⟨v0, vs0, d0, ds0, p0, q0, hargs, rfl, rfl, h0, r0⟩ := trodAll_cons hA
  obtain ⟨v1, vs1, d1, ds1, p1, q1, rfl, rfl, rfl, h1, r1⟩ := trodAll_cons r0
  obtain ⟨v2, vs2, d2, ds2, p2, q2, rfl, rfl, rfl, h2, r2⟩ := trodAll_cons r1
  obtain ⟨rfl, rfl, rfl⟩ := trodAll_nil r2
  obtain rfl : args = #[v0, v1, v2] := by cases args; simp_all
  obtain ⟨rfl, rfl⟩ := trodVars_none hV
  have k0 := h0
  have lt0 : ∀ x ∈ p0, x.block < W.heap.size := by obtain ⟨m, hm⟩ := k0; exact DataW.trod_lt m _ _ _ hm
  obtain ⟨a0, len0, cap0, T0, rfl, rfl, w0⟩ : ∃ A len cap D, v0 = .slice A len cap ∧ D.length = len ∧ Row W W.heap.size A D := by
    obtain ⟨s0, s1, s2, rfl⟩ := okWide_slice Try.underlying22 (hval 0 22 v0 rfl rfl)
    obtain ⟨fuel, hf⟩ := h0
    exact row_of (by simpa [Value.cells] using hf)
  obtain ⟨a1, rfl, rfl, rfl, w1⟩ := open_int Try.underlying3 (hval 1 3 v1 rfl rfl) h1
  have k2 := h2
  have lt2 : ∀ x ∈ p2, x.block < W.heap.size := by obtain ⟨m, hm⟩ := k2; exact DataW.trod_lt m _ _ _ hm
  obtain ⟨a2, len2, cap2, T2, rfl, rfl, w2⟩ : ∃ A len cap D, v2 = .slice A len cap ∧ D.length = len ∧ Rts W W.heap.size A D := by
    obtain ⟨s0, s1, s2, rfl⟩ := okWide_slice Try.underlying25 (hval 2 25 v2 rfl rfl)
    obtain ⟨fuel, hf⟩ := h2
    obtain ⟨A, len, cap, D, e1, e2, e3, _⟩ := rts_of (by simpa [Value.cells] using hf)
    exact ⟨A, len, cap, D, e1, e2, e3⟩
  clear hA0 hval0
  refine (walk a0 cap0 T0 a1 a2 cap2 T2 W w0 (i64_range w1) w2).mono fun e W' ⟨he, bel⟩ => ?_
  subst he
  exact ⟨_, rfl, _, _, _, [], _, [], hW', trodAll_mk1 (shut_bool Try.underlying4 _), (trodAll_cons_mk (Below.trod laidOut (by kernel_rfl) (of_decide_eq_true (by kernel_rfl)) k0 bel lt0) (trodAll_cons_mk (shut_int Try.underlying3 w1) (trodAll_cons_mk (Below.trod laidOut (by kernel_rfl) (of_decide_eq_true (by kernel_rfl)) k2 bel lt2) trodAll_mk0))), rfl, bel.frame _, fun h => by cases h⟩

theorem over : Rows.topFundRow.holds Try.pinned (OpenSpec.ofChange Rows.topFundSpec) :=
  OpenClaim.holds_of_wide 16 Try.f16 rfl rfl rfl rfl rfl rfl rfl ⟨rfl, rfl, rfl, rfl, rfl⟩ rfl rfl rfl rfl rfl (by kernel_rfl) Try.func16 (by kernel_rfl)
    (of_decide_eq_true (by kernel_rfl)) (by unfold Func.isWrapper; first | (rw [if_pos (by decide +kernel)]; kernel_rfl) | (rw [if_neg (by decide +kernel)]; exact ⟨rfl, rfl⟩))
    (fun os started H enc _ => lifted os started H enc)

/-- The statement. -/
theorem proved : Rows.TopFundSaid := over
end Go.Proofs.Ythleekdkbgnabaa.lawTopFund
