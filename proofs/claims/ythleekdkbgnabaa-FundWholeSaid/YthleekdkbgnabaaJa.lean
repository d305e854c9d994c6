/-
  Claimants sorted by their rests, the greatest one first: the program's comparison, and slices.insertionSortCmpFunc with it.
-/
import Derived.Test.YthleekdkbgnabaaJ
namespace Go.Proofs.Ythleekdkbgnabaa
open Go.RowKit Go.Deep M
set_option linter.unusedVariables false
set_option linter.unusedSimpArgs false

/-- All blocks below n₀ but x lie as they lay. -/
structure Bx (n₀ x : Nat) (w w' : World) : Prop where
  os : w'.os = w.os
  tape : w'.tape = w.tape
  output : w'.output = w.output
  size : w.heap.size ≤ w'.heap.size
  block : ∀ k, k < n₀ → k ≠ x → w'.heap[k]? = w.heap[k]?
theorem Bx.of {n₀ : Nat} {w w' : World} (h : Below n₀ w w') (x : Nat) : Bx n₀ x w w' := ⟨h.os, h.tape, h.output, h.size, fun k hk _ => h.block k hk⟩
theorem Bx.refl (n₀ x : Nat) (w : World) : Bx n₀ x w w := Bx.of (Below.refl _ _) x
theorem Bx.trans {n₀ x : Nat} {a b c : World} (h : Bx n₀ x a b) (k : Bx n₀ x b c) : Bx n₀ x a c :=
  ⟨k.os.trans h.os, k.tape.trans h.tape, k.output.trans h.output, Nat.le_trans h.size k.size, fun i hi hx => (k.block i hi hx).trans (h.block i hi hx)⟩
theorem Bx.low {n₀ x : Nat} {a b c : World} (h : Bx n₀ x a b) (hn : n₀ ≤ b.heap.size) (k : Below b.heap.size b c) : Bx n₀ x a c := h.trans (Bx.of (k.mono hn) x)
theorem Bx.drewN {n₀ x : Nat} {a w : World} (h : Bx n₀ x a w) (n : Nat) : Bx n₀ x a (w.drewN n) := ⟨h.os, h.tape, h.output, h.size, h.block⟩
theorem Bx.set {n₀ x : Nat} {a w : World} (h : Bx n₀ x a w) (k : Nat) (v : Value) : Bx n₀ x a (w.setCell ⟨x, k, none⟩ v) := by
  refine ⟨h.os, h.tape, h.output, by simpa [World.setCell] using h.size, fun i hi hx => ?_⟩
  rw [← h.block i hi hx]
  have hx' : ¬ x = i := fun e => hx e.symm
  simp [World.setCell, Array.getElem?_modify, hx']

set_option maxRecDepth 100000 in
set_option maxHeartbeats 4000000 in
theorem cmpF_any (box gR n : Nat) (R : Nat → Rt) (x y : Nat) (X : World) (hx : x < n) (hy : y < n) (hn : n ≤ 1000) (hbox : X.cell? ⟨box, 0, none⟩ = some (.slice (some ⟨gR, 0, none⟩) n n)) (hlt : box < X.heap.size) (hR : BlR X gR n R)
    (hc : fitP ((R y).n * (R x).d) ∧ fitP ((R x).n * (R y).d)) :
    Calls Try.prog 102 #[.int .i64 (x : Nat), .int .i64 (y : Nat), .pointer (some ⟨box, 0, none⟩)] X fun r w' => r = .returned (.int .i64 (cmpR ((R y).n * (R x).d) ((R x).n * (R y).d))) ∧ Below X.heap.size X w' := by
  have kk := fun Z => compared_any (R y) (R x) Z hc.1 hc.2
  have hcel : ∀ Z, Below X.heap.size X Z → Z.cell? ⟨box, 0, none⟩ = some (.slice (some ⟨gR, 0, none⟩) n n) ∧ Z.cell? ⟨gR, x * 2, none⟩ = some (.int .i64 (R x).n) ∧ Z.cell? ⟨gR, x * 2 + 1, none⟩ = some (.int .i64 (R x).d) ∧ Z.cell? ⟨gR, y * 2, none⟩ = some (.int .i64 (R y).n) ∧ Z.cell? ⟨gR, y * 2 + 1, none⟩ = some (.int .i64 (R y).d) := fun Z hZ => by
    have q := hR.up hZ
    exact ⟨(hZ.cell (p := ⟨box, 0, none⟩) hlt).trans hbox, q.c0 hx, q.c1 hx, q.c0 hy, q.c1 hy⟩
  unfold rtV at kk
  generalize cmpR ((R y).n * (R x).d) ((R x).n * (R y).d) = C at *
  generalize (R x).n = xn at *
  generalize (R x).d = xd at *
  generalize (R y).n = yn at *
  generalize (R y).d = yd at *
  have h0 : Below X.heap.size X X.drew := below_drewN (Below.refl _ _) 1
  have s0 := hcel _ h0
  have hxi : (x : Int) < (n : Int) := by omega
  have hyi : (y : Int) < (n : Int) := by omega
  replace hcel := Lib.hid hcel
  replace kk := Lib.hid kk
  replace hR := Lib.hid hR
  replace hbox := Lib.hid hbox
  replace hc := Lib.hid hc
  go_enter Try.func102, Try.ntmps102
  go_wp2
  go_region_held3 (fun Z => Z.cell? ⟨box, 0, none⟩ = some (.slice (some ⟨gR, 0, none⟩) n n) ∧ Z.cell? ⟨gR, x * 2, none⟩ = some (.int .i64 xn) ∧ Z.cell? ⟨gR, x * 2 + 1, none⟩ = some (.int .i64 xd) ∧ Z.cell? ⟨gR, y * 2, none⟩ = some (.int .i64 yn) ∧ Z.cell? ⟨gR, y * 2 + 1, none⟩ = some (.int .i64 yd)) (first | with_reducible exact s0 | with_reducible exact hcel.out _ (by assumption)) ((go_at_call 100; refine (kk.out _).mono ?_; rintro _ Z1 ⟨rfl, hz1⟩; have hz2 := bel_trans h0 hz1))
  all_goals
    replace hz2 := Lib.hid hz2
    go_wp2
    go_ret
    exact ⟨rfl, hz2.out⟩

/-! ### the mathematics of an insertion -/
namespace M
/-- The greater key first; of equal keys the lesser number. -/
def LtS (s : Nat → Int) (x y : Nat) : Prop := s y < s x ∨ (s x = s y ∧ x < y)
theorem LtS.trans {s : Nat → Int} {x y z : Nat} (h : LtS s x y) (k : LtS s y z) : LtS s x z := by unfold LtS at *; omega
theorem LtS.ne {s : Nat → Int} {x y : Nat} (h : LtS s x y) : x ≠ y := fun e => by subst e; unfold LtS at h; omega
/-- The first i are sorted. -/
structure InsI (s : Nat → Int) (n i : Nat) (σ : Nat → Nat) : Prop where
  tail : ∀ k, i ≤ k → k < n → σ k = k
  low : ∀ k, k < i → σ k < i
  srt : ∀ a b, a < b → b < i → LtS s (σ a) (σ b)
/-- The first i + 1 are sorted but for the one that is i, which stands at j. -/
structure InsJ (s : Nat → Int) (n i j : Nat) (σ : Nat → Nat) : Prop where
  at_ : σ j = i
  tail : ∀ k, i < k → k < n → σ k = k
  low : ∀ k, k ≤ i → k ≠ j → σ k < i
  srt : ∀ a b, a < b → b ≤ i → a ≠ j → b ≠ j → LtS s (σ a) (σ b)
  gone : ∀ k, j < k → k ≤ i → s (σ k) < s i
theorem InsI.start (s : Nat → Int) (n i : Nat) {σ : Nat → Nat} (h : InsI s n i σ) (hi : i < n) : InsJ s n i i σ :=
  ⟨h.tail i (Nat.le_refl _) hi, fun k hk hn => h.tail k (by omega) hn, fun k hk hne => h.low k (by omega), fun a b hab hb ha hbj => h.srt a b hab (by omega), fun k hk hki => by omega⟩
def swp (σ : Nat → Nat) (j q : Nat) : Nat := if q = j - 1 then σ j else if q = j then σ (j - 1) else σ q
theorem InsJ.step {s : Nat → Int} {n i j : Nat} {σ : Nat → Nat} (h : InsJ s n i j σ) (hj : 1 ≤ j) (hji : j ≤ i) (hc : s (σ (j - 1)) < s (σ j)) : InsJ s n i (j - 1) (swp σ j) := by
  obtain ⟨h1, h2, h3, h4, h5⟩ := h
  have e1 : swp σ j (j - 1) = σ j := by simp [swp]
  have e2 : swp σ j j = σ (j - 1) := by unfold swp; rw [if_neg (by omega), if_pos rfl]
  have e3 : ∀ k, k ≠ j → k ≠ j - 1 → swp σ j k = σ k := fun k a b => by unfold swp; rw [if_neg b, if_neg a]
  refine ⟨by rw [e1]; exact h1, fun k hk hn => by rw [e3 k (by omega) (by omega)]; exact h2 k hk hn, fun k hk hne => ?_, fun a b hab hb ha hbj => ?_, fun k hk hki => ?_⟩
  · by_cases e : k = j
    · subst e; rw [e2]; exact h3 (k - 1) (by omega) (by omega)
    · rw [e3 k e hne]; exact h3 k hk e
  · by_cases ea : a = j
    · subst ea
      rw [e2, e3 b (by omega) (by omega)]
      exact h4 (a - 1) b (by omega) hb (by omega) (by omega)
    · by_cases eb : b = j
      · subst eb
        rw [e2, e3 a ea ha]
        exact h4 a (b - 1) (by omega) (by omega) ea (by omega)
      · rw [e3 a ea ha, e3 b eb hbj]
        exact h4 a b hab hb ea eb
  · by_cases e : k = j
    · subst e; rw [e2, ← h1]; exact hc
    · rw [e3 k e (by omega)]; exact h5 k (by omega) hki
theorem InsJ.done {s : Nat → Int} {n i j : Nat} {σ : Nat → Nat} (h : InsJ s n i j σ) (hji : j ≤ i) (hc : j = 0 ∨ ¬ s (σ (j - 1)) < s (σ j)) : InsI s n (i + 1) σ := by
  obtain ⟨h1, h2, h3, h4, h5⟩ := h
  have hlow : ∀ k, k < i + 1 → σ k < i + 1 := fun k hk => by
    by_cases e : k = j
    · subst e; omega
    · have := h3 k (by omega) e; omega
  have key : ∀ a, a < j → LtS s (σ a) i := fun a ha => by
    rcases hc with hc | hc
    · omega
    · have hl : LtS s (σ (j - 1)) i := by
        have := h3 (j - 1) (by omega) (by omega)
        rw [h1] at hc
        unfold LtS; omega
      by_cases e : a = j - 1
      · subst e; exact hl
      · exact (h4 a (j - 1) (by omega) (by omega) (by omega) (by omega)).trans hl
  refine ⟨fun k hk hn => h2 k (by omega) hn, hlow, fun a b hab hb => ?_⟩
  by_cases ea : a = j
  · subst ea
    rw [h1]
    exact .inl (h5 b hab (by omega))
  · by_cases eb : b = j
    · subst eb; rw [h1]; exact key a hab
    · exact h4 a b hab (by omega) ea eb
end M
/-- The list being sorted. -/
structure SoS (w : World) (n0 g n : Nat) (σ : Nat → Nat) (X : World) : Prop where
  bx : Bx n0 g w X
  blk : BlI X g n (fun i => (σ i : Int))
theorem SoS.low {w X Y : World} {n0 g n : Nat} {σ : Nat → Nat} (h : SoS w n0 g n σ X) (hn : n0 ≤ w.heap.size) (k : Below X.heap.size X Y) : SoS w n0 g n σ Y := ⟨h.bx.low (Nat.le_trans hn h.bx.size) k, h.blk.up k⟩
theorem SoS.swp {w X : World} {n0 g n j : Nat} {σ : Nat → Nat} (h : SoS w n0 g n σ X) (hj : 1 ≤ j) (hjn : j < n) : SoS w n0 g n (swp σ j) ((X.setCell ⟨g, j, none⟩ (.int .i64 (σ (j - 1) : Nat))).setCell ⟨g, j - 1, none⟩ (.int .i64 (σ j : Nat))) := by
  refine ⟨(h.bx.set _ _).set _ _, ?_⟩
  have a := h.blk.set (j := j) hjn ((σ (j - 1) : Nat) : Int)
  have b := a.set (j := j - 1) (by omega) ((σ j : Nat) : Int)
  refine b.congr fun i hi => ?_
  unfold M.swp
  by_cases e1 : i = j - 1
  · rw [if_pos e1, if_pos e1]
  · rw [if_neg e1, if_neg e1]
    by_cases e2 : i = j
    · rw [if_pos e2, if_pos e2]
    · rw [if_neg e2, if_neg e2]

set_option maxRecDepth 100000 in
set_option maxHeartbeats 8000000 in
theorem insert_any (n0 g n cap box : Nat) (cp : Nat → Nat → Int) (s : Nat → Int) (σ : Nat → Nat) (w : World) (hn : 1 ≤ n ∧ n ≤ 20) (hn0 : n0 ≤ w.heap.size) (hb : BlI w g n (fun i => (σ i : Int))) (h0 : InsI s n 1 σ)
    (kC : ∀ X, Bx n0 g w X → ∀ x y : Nat, x < n → y < n → Calls Try.prog 102 #[.int .i64 (x : Nat), .int .i64 (y : Nat), .pointer (some ⟨box, 0, none⟩)] X fun r w' => r = .returned (.int .i64 (cp x y)) ∧ Below X.heap.size X w')
    (hcp : ∀ x y, x < n → y < n → (cp x y < 0 ↔ s y < s x)) :
    Calls Try.prog 133 #[.slice (some ⟨g, 0, none⟩) n cap, .int .i64 0, .int .i64 (n : Nat), .func (.func 102) #[] #[.pointer (some ⟨box, 0, none⟩)]] w fun r w' => r = .returned (.tuple #[]) ∧ ∃ σ', SoS w n0 g n σ' w' ∧ InsI s n n σ' := by
  have hS : SoS w n0 g n σ w := ⟨Bx.refl _ _ _, hb⟩
  have kC2 := fun X σ' (hX : SoS w n0 g n σ' X) => kC X hX.bx
  have hup := fun X Y σ' (hX : SoS w n0 g n σ' X) (hb : Below X.heap.size X Y) => hX.low hn0 hb
  replace kC := Lib.hid kC
  replace kC2 := Lib.hid kC2
  replace hup := Lib.hid hup
  replace hb := Lib.hid hb
  replace hn0 := Lib.hid hn0
  replace hcp := Lib.hid hcp
  obtain ⟨hn1, hn20⟩ := hn
  go_enter Try.func133, Try.ntmps133
  go_wp2
  go_loopw [8, 9] (fun iv _ wr => ∃ (i : Nat) (σ' : Nat → Nat), (1 ≤ i ∧ i ≤ n) ∧ iv = .int .i64 (i : Nat) ∧ SoS w n0 g n σ' wr ∧ InsI s n i σ') (fun iv _ _ => n - (intOf iv).toNat)
  case atStart => exact ⟨1, σ, by omega, by go_num, hS, h0⟩
  case round =>
    clear hS h0
    obtain ⟨i, σ1, hi, rfl, hS1, hI1⟩ := hrel
    by_cases hin : i < n
    · have hini : (i : Int) < (n : Int) := by omega
      have hJ := hI1.start s n i hin
      replace hJ := Lib.hid hJ
      replace hI1 := Lib.hid hI1
      replace hS1 := Lib.hid hS1
      go_wp2
      go_loopw [9] (fun jv wr => ∃ (j : Nat) (σ' : Nat → Nat), j ≤ i ∧ jv = .int .i64 (j : Nat) ∧ SoS w n0 g n σ' wr ∧ InsJ s n i j σ') (fun jv _ => (intOf jv).toNat)
      case atStart => exact ⟨i, σ1, by omega, rfl, hS1.out, hJ.out⟩
      case round =>
        clear hS1 hJ hI1
        obtain ⟨j, σ2, hj, rfl, hS2, hJ2⟩ := hrel
        by_cases hj0 : j = 0
        · subst hj0
          have hD := Lib.hid (hJ2.done hj (.inl rfl))
          have hSd := Lib.hid (fun N => (⟨hS2.bx.drewN N, hS2.blk⟩ : SoS w n0 g n σ2 (wr.drewN N)))
          replace hS2 := Lib.hid hS2
          replace hJ2 := Lib.hid hJ2
          have hd0 : decide ((0 : Int) < 0) = false := rfl
          go_wp2
          go_quiet (fail)
          go_wp2
          go_roundw
          case rel => exact ⟨i + 1, σ2, by omega, by go_num, hSd.out _, hD.out⟩
          case measure => simp [intOf]; omega
        · have hj1 : 1 ≤ j := by omega
          have hjn : j < n := by omega
          have hjI : (1 : Int) ≤ (j : Int) := by omega
          have hjI2 : (j : Int) < (n : Int) := by omega
          have hjp : (0 : Int) < (j : Int) := by omega
          have hd0 : decide ((0 : Int) < (j : Int)) = true := decide_eq_true hjp
          have hjN : 0 < j := by omega
          have hd1 : decide (0 < j) = true := decide_eq_true hjN
          have b1 : σ2 (j - 1) < n := by have := hJ2.low (j - 1) (by omega) (by omega); omega
          have b2 : σ2 j < n := by have := hJ2.at_; omega
          obtain ⟨j', hj'⟩ : ∃ j', j' = j - 1 := ⟨j - 1, rfl⟩
          rw [← hj'] at b1
          have hj'n : j' < n := by omega
          have hj'I : (j' : Int) < (n : Int) := by omega
          have hne1 : ¬ j = j' := by omega
          have hne2 : ¬ j' = j := by omega
          have hc := hcp.out (σ2 j) (σ2 j') b2 b1
          have kk := kC2.out wr.drew σ2 ⟨hS2.bx.drewN 1, hS2.blk⟩ (σ2 j) (σ2 j') b2 b1
          have c1 : wr.drew.cell? ⟨g, j, none⟩ = some (.int .i64 (σ2 j : Nat)) := hS2.blk.cell hjn
          have c0 : wr.drew.cell? ⟨g, j', none⟩ = some (.int .i64 (σ2 j' : Nat)) := hS2.blk.cell (by omega)
          have hSS : ∀ Z, Below wr.drew.heap.size wr.drew Z → SoS w n0 g n σ2 Z := fun Z hZ => hup.out wr.drew Z σ2 ⟨hS2.bx.drewN 1, hS2.blk⟩ hZ
          have hcc : ∀ Z, Below wr.drew.heap.size wr.drew Z → Z.cell? ⟨g, j, none⟩ = some (.int .i64 (σ2 j : Nat)) ∧ Z.cell? ⟨g, j', none⟩ = some (.int .i64 (σ2 j' : Nat)) := fun Z hZ => ⟨(hSS Z hZ).blk.cell hjn, (hSS Z hZ).blk.cell (by omega)⟩
          have s0 := hcc _ (Below.refl _ _)
          have hsub : IntKind.i64.wrap ((j : Int) - 1) = ((j' : Nat) : Int) := by rw [IntWalk.i64_in _ (by omega)]; omega
          by_cases hlt : s (σ2 j') < s (σ2 j)
          · have hst := hJ2.step hj1 hj (by rw [← hj']; exact hlt)
            rw [← hj'] at hst
            have hneg : cp (σ2 j) (σ2 j') < 0 := hc.2 hlt
            have hsw : ∀ Z, SoS w n0 g n σ2 Z → SoS w n0 g n (M.swp σ2 j) ((Z.setCell ⟨g, j, none⟩ (.int .i64 (σ2 j' : Nat))).setCell ⟨g, j', none⟩ (.int .i64 (σ2 j : Nat))) := fun Z hZ => by
              have := hZ.swp (j := j) hj1 hjn
              rw [← hj'] at this
              exact this
            generalize cp (σ2 j) (σ2 j') = C at *
            have hCd : decide (C < 0) = true := decide_eq_true hneg
            generalize hu : σ2 j = u at *
            generalize hv : σ2 j' = v at *
            have hj'9 : j' ≤ i := by omega
            replace hj' := Lib.hid hj'
            replace hu := Lib.hid hu
            replace hv := Lib.hid hv
            replace hc := Lib.hid hc
            replace hst := Lib.hid hst
            replace hsw := Lib.hid hsw
            replace hSS := Lib.hid hSS
            replace hcc := Lib.hid hcc
            replace hS2 := Lib.hid hS2
            replace hJ2 := Lib.hid hJ2
            replace kk := Lib.hid kk
            clear c0 c1
            go_wp2
            go_region_held3 (fun Z => Z.cell? ⟨g, j, none⟩ = some (.int .i64 (u : Nat)) ∧ Z.cell? ⟨g, j', none⟩ = some (.int .i64 (v : Nat))) (first | with_reducible exact s0 | with_reducible exact hcc.out _ (by assumption)) ((go_at_call 102; refine kk.out.mono ?_; rintro _ Z1 ⟨rfl, hz1⟩))
            all_goals
              have hZ := hSS.out _ hz1
              have hfin := Lib.hid (hsw.out Z1.drew ⟨hZ.bx.drewN 1, hZ.blk⟩)
              obtain ⟨d1, d0⟩ := hcc.out _ hz1
              have f1 := hZ.blk.fz j
              have f0 := hZ.blk.fz j'
              have l1 := hZ.blk.lt
              replace hZ := Lib.hid hZ
              replace hz1 := Lib.hid hz1
              go_wp2
              go_region
              all_goals
                go_wp2
                go_roundw
                case rel => exact ⟨j', M.swp σ2 j, by omega, by go_num, hfin.out, hst.out⟩
                case measure => have := hj'.out; simp [intOf]; omega
          · have hD := hJ2.done hj (.inr (by rw [← hj']; exact hlt))
            have hneg : ¬ cp (σ2 j) (σ2 j') < 0 := fun h => hlt (hc.1 h)
            generalize cp (σ2 j) (σ2 j') = C at *
            have hCd : decide (C < 0) = false := decide_eq_false hneg
            generalize hu : σ2 j = u at *
            generalize hv : σ2 j' = v at *
            have hj'9 : j' ≤ i := by omega
            replace hj' := Lib.hid hj'
            replace hu := Lib.hid hu
            replace hv := Lib.hid hv
            replace hc := Lib.hid hc
            replace hD := Lib.hid hD
            replace hSS := Lib.hid hSS
            replace hcc := Lib.hid hcc
            replace hS2 := Lib.hid hS2
            replace hJ2 := Lib.hid hJ2
            replace kk := Lib.hid kk
            clear c0 c1
            go_wp2
            go_region_held3 (fun Z => Z.cell? ⟨g, j, none⟩ = some (.int .i64 (u : Nat)) ∧ Z.cell? ⟨g, j', none⟩ = some (.int .i64 (v : Nat))) (first | with_reducible exact s0 | with_reducible exact hcc.out _ (by assumption)) ((go_at_call 102; refine kk.out.mono ?_; rintro _ Z1 ⟨rfl, hz1⟩))
            all_goals
              have hfin := Lib.hid (hSS.out _ hz1)
              replace hz1 := Lib.hid hz1
              go_wp2
              go_roundw
              case rel => exact ⟨i + 1, σ2, by omega, by go_num, hfin.out, hD.out⟩
              case measure => simp [intOf]; omega
    · have : n = i := by omega
      subst this
      have hfin := Lib.hid (And.intro hS1 hI1)
      replace hS1 := Lib.hid hS1
      replace hI1 := Lib.hid hI1
      go_wp2
      go_end0
      exact ⟨rfl, σ1, hfin.out.1, hfin.out.2⟩
end Go.Proofs.Ythleekdkbgnabaa
