/-
  Claimants sorted by their rests, the greatest one first: the program's comparison, and slices.insertionSortCmpFunc with it.
  slices.SortStableFunc of few claimants, by their rests.
  Awards in whole numbers: rounded down, and what is left given by 1 to those with the greatest rests: the program's function.
  Mathematics of awards in whole numbers: they share the estate, each within 1 of the rule's award.
  Whole and Least of the program.
  Mathematics of the specification's whole awards: whom it gives 1 more, one after the other, are those with the greatest rests, in order.
  Least of the specification.
  Whole of the specification: the list that its Share makes is new.
-/
import Derived.Test.YthleekdkbgnabaaJ
import Derived.Test.YthleekdkbgnabaaMathH
import Derived.Deep.DeepCutAuto
import Derived.Test.YthleekdkbgnabaaMathK
import Derived.Test.YthleekdkbgnabaaT
import Derived.Test.YthleekdkbgnabaaU
import Derived.Deep.AppendLies
import Derived.Deep.RegionHeldLaw
section
namespace Go.Proofs.Ythleekdkbgnabaa
open Go.RowKit Go.Deep M
set_option linter.unusedVariables false
set_option linter.unusedSimpArgs false

/-- All blocks below n₀ but x lie as they lay. -/
structure Bx (n₀ x : Nat) (w w' : World) : Prop where
  os : w'.os = w.os
  tape : w'.tape = w.tape
  output : w'.output = w.output
  size : w.heap.size ≤ w'.heap.size
  block : ∀ k, k < n₀ → k ≠ x → w'.heap[k]? = w.heap[k]?
theorem Bx.of {n₀ : Nat} {w w' : World} (h : Below n₀ w w') (x : Nat) : Bx n₀ x w w' := ⟨h.os, h.tape, h.output, h.size, fun k hk _ => h.block k hk⟩
theorem Bx.refl (n₀ x : Nat) (w : World) : Bx n₀ x w w := Bx.of (Below.refl _ _) x
theorem Bx.trans {n₀ x : Nat} {a b c : World} (h : Bx n₀ x a b) (k : Bx n₀ x b c) : Bx n₀ x a c :=
  ⟨k.os.trans h.os, k.tape.trans h.tape, k.output.trans h.output, Nat.le_trans h.size k.size, fun i hi hx => (k.block i hi hx).trans (h.block i hi hx)⟩
theorem Bx.low {n₀ x : Nat} {a b c : World} (h : Bx n₀ x a b) (hn : n₀ ≤ b.heap.size) (k : Below b.heap.size b c) : Bx n₀ x a c := h.trans (Bx.of (k.mono hn) x)
theorem Bx.drewN {n₀ x : Nat} {a w : World} (h : Bx n₀ x a w) (n : Nat) : Bx n₀ x a (w.drewN n) := ⟨h.os, h.tape, h.output, h.size, h.block⟩
theorem Bx.set {n₀ x : Nat} {a w : World} (h : Bx n₀ x a w) (k : Nat) (v : Value) : Bx n₀ x a (w.setCell ⟨x, k, none⟩ v) := by
  refine ⟨h.os, h.tape, h.output, by simpa [World.setCell] using h.size, fun i hi hx => ?_⟩
  rw [← h.block i hi hx]
  have hx' : ¬ x = i := fun e => hx e.symm
  simp [World.setCell, Array.getElem?_modify, hx']

set_option maxRecDepth 100000 in
set_option maxHeartbeats 4000000 in
theorem cmpF_any (box gR n : Nat) (R : Nat → Rt) (x y : Nat) (X : World) (hx : x < n) (hy : y < n) (hn : n ≤ 1000) (hbox : X.cell? ⟨box, 0, none⟩ = some (.slice (some ⟨gR, 0, none⟩) n n)) (hlt : box < X.heap.size) (hR : BlR X gR n R)
    (hc : fitP ((R y).n * (R x).d) ∧ fitP ((R x).n * (R y).d)) :
    Calls Try.prog 102 #[.int .i64 (x : Nat), .int .i64 (y : Nat), .pointer (some ⟨box, 0, none⟩)] X fun r w' => r = .returned (.int .i64 (cmpR ((R y).n * (R x).d) ((R x).n * (R y).d))) ∧ Below X.heap.size X w' := by
  have kk := fun Z => compared_any (R y) (R x) Z hc.1 hc.2
  have hcel : ∀ Z, Below X.heap.size X Z → Z.cell? ⟨box, 0, none⟩ = some (.slice (some ⟨gR, 0, none⟩) n n) ∧ Z.cell? ⟨gR, x * 2, none⟩ = some (.int .i64 (R x).n) ∧ Z.cell? ⟨gR, x * 2 + 1, none⟩ = some (.int .i64 (R x).d) ∧ Z.cell? ⟨gR, y * 2, none⟩ = some (.int .i64 (R y).n) ∧ Z.cell? ⟨gR, y * 2 + 1, none⟩ = some (.int .i64 (R y).d) := fun Z hZ => by
    have q := hR.up hZ
    exact ⟨(hZ.cell (p := ⟨box, 0, none⟩) hlt).trans hbox, q.c0 hx, q.c1 hx, q.c0 hy, q.c1 hy⟩
  unfold rtV at kk
  generalize cmpR ((R y).n * (R x).d) ((R x).n * (R y).d) = C at *
  generalize (R x).n = xn at *
  generalize (R x).d = xd at *
  generalize (R y).n = yn at *
  generalize (R y).d = yd at *
  have h0 : Below X.heap.size X X.drew := below_drewN (Below.refl _ _) 1
  have s0 := hcel _ h0
  have hxi : (x : Int) < (n : Int) := by omega
  have hyi : (y : Int) < (n : Int) := by omega
  replace hcel := Lib.hid hcel
  replace kk := Lib.hid kk
  replace hR := Lib.hid hR
  replace hbox := Lib.hid hbox
  replace hc := Lib.hid hc
  go_enter Try.func102, Try.ntmps102
  go_wp2
  go_region_held3 (fun Z => Z.cell? ⟨box, 0, none⟩ = some (.slice (some ⟨gR, 0, none⟩) n n) ∧ Z.cell? ⟨gR, x * 2, none⟩ = some (.int .i64 xn) ∧ Z.cell? ⟨gR, x * 2 + 1, none⟩ = some (.int .i64 xd) ∧ Z.cell? ⟨gR, y * 2, none⟩ = some (.int .i64 yn) ∧ Z.cell? ⟨gR, y * 2 + 1, none⟩ = some (.int .i64 yd)) (first | with_reducible exact s0 | with_reducible exact hcel.out _ (by assumption)) ((go_at_call 100; refine (kk.out _).mono ?_; rintro _ Z1 ⟨rfl, hz1⟩; have hz2 := bel_trans h0 hz1))
  all_goals
    replace hz2 := Lib.hid hz2
    go_wp2
    go_ret
    exact ⟨rfl, hz2.out⟩

/-! ### the mathematics of an insertion -/
namespace M
/-- The greater key first; of equal keys the lesser number. -/
def LtS (s : Nat → Int) (x y : Nat) : Prop := s y < s x ∨ (s x = s y ∧ x < y)
theorem LtS.trans {s : Nat → Int} {x y z : Nat} (h : LtS s x y) (k : LtS s y z) : LtS s x z := by unfold LtS at *; omega
theorem LtS.ne {s : Nat → Int} {x y : Nat} (h : LtS s x y) : x ≠ y := fun e => by subst e; unfold LtS at h; omega
/-- The first i are sorted. -/
structure InsI (s : Nat → Int) (n i : Nat) (σ : Nat → Nat) : Prop where
  tail : ∀ k, i ≤ k → k < n → σ k = k
  low : ∀ k, k < i → σ k < i
  srt : ∀ a b, a < b → b < i → LtS s (σ a) (σ b)
/-- The first i + 1 are sorted but for the one that is i, which stands at j. -/
structure InsJ (s : Nat → Int) (n i j : Nat) (σ : Nat → Nat) : Prop where
  at_ : σ j = i
  tail : ∀ k, i < k → k < n → σ k = k
  low : ∀ k, k ≤ i → k ≠ j → σ k < i
  srt : ∀ a b, a < b → b ≤ i → a ≠ j → b ≠ j → LtS s (σ a) (σ b)
  gone : ∀ k, j < k → k ≤ i → s (σ k) < s i
theorem InsI.start (s : Nat → Int) (n i : Nat) {σ : Nat → Nat} (h : InsI s n i σ) (hi : i < n) : InsJ s n i i σ :=
  ⟨h.tail i (Nat.le_refl _) hi, fun k hk hn => h.tail k (by omega) hn, fun k hk hne => h.low k (by omega), fun a b hab hb ha hbj => h.srt a b hab (by omega), fun k hk hki => by omega⟩
def swp (σ : Nat → Nat) (j q : Nat) : Nat := if q = j - 1 then σ j else if q = j then σ (j - 1) else σ q
theorem InsJ.step {s : Nat → Int} {n i j : Nat} {σ : Nat → Nat} (h : InsJ s n i j σ) (hj : 1 ≤ j) (hji : j ≤ i) (hc : s (σ (j - 1)) < s (σ j)) : InsJ s n i (j - 1) (swp σ j) := by
  obtain ⟨h1, h2, h3, h4, h5⟩ := h
  have e1 : swp σ j (j - 1) = σ j := by simp [swp]
  have e2 : swp σ j j = σ (j - 1) := by unfold swp; rw [if_neg (by omega), if_pos rfl]
  have e3 : ∀ k, k ≠ j → k ≠ j - 1 → swp σ j k = σ k := fun k a b => by unfold swp; rw [if_neg b, if_neg a]
  refine ⟨by rw [e1]; exact h1, fun k hk hn => by rw [e3 k (by omega) (by omega)]; exact h2 k hk hn, fun k hk hne => ?_, fun a b hab hb ha hbj => ?_, fun k hk hki => ?_⟩
  · by_cases e : k = j
    · subst e; rw [e2]; exact h3 (k - 1) (by omega) (by omega)
    · rw [e3 k e hne]; exact h3 k hk e
  · by_cases ea : a = j
    · subst ea
      rw [e2, e3 b (by omega) (by omega)]
      exact h4 (a - 1) b (by omega) hb (by omega) (by omega)
    · by_cases eb : b = j
      · subst eb
        rw [e2, e3 a ea ha]
        exact h4 a (b - 1) (by omega) (by omega) ea (by omega)
      · rw [e3 a ea ha, e3 b eb hbj]
        exact h4 a b hab hb ea eb
  · by_cases e : k = j
    · subst e; rw [e2, ← h1]; exact hc
    · rw [e3 k e (by omega)]; exact h5 k (by omega) hki
theorem InsJ.done {s : Nat → Int} {n i j : Nat} {σ : Nat → Nat} (h : InsJ s n i j σ) (hji : j ≤ i) (hc : j = 0 ∨ ¬ s (σ (j - 1)) < s (σ j)) : InsI s n (i + 1) σ := by
  obtain ⟨h1, h2, h3, h4, h5⟩ := h
  have hlow : ∀ k, k < i + 1 → σ k < i + 1 := fun k hk => by
    by_cases e : k = j
    · subst e; omega
    · have := h3 k (by omega) e; omega
  have key : ∀ a, a < j → LtS s (σ a) i := fun a ha => by
    rcases hc with hc | hc
    · omega
    · have hl : LtS s (σ (j - 1)) i := by
        have := h3 (j - 1) (by omega) (by omega)
        rw [h1] at hc
        unfold LtS; omega
      by_cases e : a = j - 1
      · subst e; exact hl
      · exact (h4 a (j - 1) (by omega) (by omega) (by omega) (by omega)).trans hl
  refine ⟨fun k hk hn => h2 k (by omega) hn, hlow, fun a b hab hb => ?_⟩
  by_cases ea : a = j
  · subst ea
    rw [h1]
    exact .inl (h5 b hab (by omega))
  · by_cases eb : b = j
    · subst eb; rw [h1]; exact key a hab
    · exact h4 a b hab (by omega) ea eb
end M
/-- The list being sorted. -/
structure SoS (w : World) (n0 g n : Nat) (σ : Nat → Nat) (X : World) : Prop where
  bx : Bx n0 g w X
  blk : BlI X g n (fun i => (σ i : Int))
theorem SoS.low {w X Y : World} {n0 g n : Nat} {σ : Nat → Nat} (h : SoS w n0 g n σ X) (hn : n0 ≤ w.heap.size) (k : Below X.heap.size X Y) : SoS w n0 g n σ Y := ⟨h.bx.low (Nat.le_trans hn h.bx.size) k, h.blk.up k⟩
theorem SoS.swp {w X : World} {n0 g n j : Nat} {σ : Nat → Nat} (h : SoS w n0 g n σ X) (hj : 1 ≤ j) (hjn : j < n) : SoS w n0 g n (swp σ j) ((X.setCell ⟨g, j, none⟩ (.int .i64 (σ (j - 1) : Nat))).setCell ⟨g, j - 1, none⟩ (.int .i64 (σ j : Nat))) := by
  refine ⟨(h.bx.set _ _).set _ _, ?_⟩
  have a := h.blk.set (j := j) hjn ((σ (j - 1) : Nat) : Int)
  have b := a.set (j := j - 1) (by omega) ((σ j : Nat) : Int)
  refine b.congr fun i hi => ?_
  unfold M.swp
  by_cases e1 : i = j - 1
  · rw [if_pos e1, if_pos e1]
  · rw [if_neg e1, if_neg e1]
    by_cases e2 : i = j
    · rw [if_pos e2, if_pos e2]
    · rw [if_neg e2, if_neg e2]

set_option maxRecDepth 100000 in
set_option maxHeartbeats 8000000 in
theorem insert_any (n0 g n cap box : Nat) (cp : Nat → Nat → Int) (s : Nat → Int) (σ : Nat → Nat) (w : World) (hn : 1 ≤ n ∧ n ≤ 20) (hn0 : n0 ≤ w.heap.size) (hb : BlI w g n (fun i => (σ i : Int))) (h0 : InsI s n 1 σ)
    (kC : ∀ X, Bx n0 g w X → ∀ x y : Nat, x < n → y < n → Calls Try.prog 102 #[.int .i64 (x : Nat), .int .i64 (y : Nat), .pointer (some ⟨box, 0, none⟩)] X fun r w' => r = .returned (.int .i64 (cp x y)) ∧ Below X.heap.size X w')
    (hcp : ∀ x y, x < n → y < n → (cp x y < 0 ↔ s y < s x)) :
    Calls Try.prog 133 #[.slice (some ⟨g, 0, none⟩) n cap, .int .i64 0, .int .i64 (n : Nat), .func (.func 102) #[] #[.pointer (some ⟨box, 0, none⟩)]] w fun r w' => r = .returned (.tuple #[]) ∧ ∃ σ', SoS w n0 g n σ' w' ∧ InsI s n n σ' := by
  have hS : SoS w n0 g n σ w := ⟨Bx.refl _ _ _, hb⟩
  have kC2 := fun X σ' (hX : SoS w n0 g n σ' X) => kC X hX.bx
  have hup := fun X Y σ' (hX : SoS w n0 g n σ' X) (hb : Below X.heap.size X Y) => hX.low hn0 hb
  replace kC := Lib.hid kC
  replace kC2 := Lib.hid kC2
  replace hup := Lib.hid hup
  replace hb := Lib.hid hb
  replace hn0 := Lib.hid hn0
  replace hcp := Lib.hid hcp
  obtain ⟨hn1, hn20⟩ := hn
  go_enter Try.func133, Try.ntmps133
  go_wp2
  go_loopw [8, 9] (fun iv _ wr => ∃ (i : Nat) (σ' : Nat → Nat), (1 ≤ i ∧ i ≤ n) ∧ iv = .int .i64 (i : Nat) ∧ SoS w n0 g n σ' wr ∧ InsI s n i σ') (fun iv _ _ => n - (intOf iv).toNat)
  case atStart => exact ⟨1, σ, by omega, by go_num, hS, h0⟩
  case round =>
    clear hS h0
    obtain ⟨i, σ1, hi, rfl, hS1, hI1⟩ := hrel
    by_cases hin : i < n
    · have hini : (i : Int) < (n : Int) := by omega
      have hJ := hI1.start s n i hin
      replace hJ := Lib.hid hJ
      replace hI1 := Lib.hid hI1
      replace hS1 := Lib.hid hS1
      go_wp2
      go_loopw [9] (fun jv wr => ∃ (j : Nat) (σ' : Nat → Nat), j ≤ i ∧ jv = .int .i64 (j : Nat) ∧ SoS w n0 g n σ' wr ∧ InsJ s n i j σ') (fun jv _ => (intOf jv).toNat)
      case atStart => exact ⟨i, σ1, by omega, rfl, hS1.out, hJ.out⟩
      case round =>
        clear hS1 hJ hI1
        obtain ⟨j, σ2, hj, rfl, hS2, hJ2⟩ := hrel
        by_cases hj0 : j = 0
        · subst hj0
          have hD := Lib.hid (hJ2.done hj (.inl rfl))
          have hSd := Lib.hid (fun N => (⟨hS2.bx.drewN N, hS2.blk⟩ : SoS w n0 g n σ2 (wr.drewN N)))
          replace hS2 := Lib.hid hS2
          replace hJ2 := Lib.hid hJ2
          have hd0 : decide ((0 : Int) < 0) = false := rfl
          go_wp2
          go_quiet (fail)
          go_wp2
          go_roundw
          case rel => exact ⟨i + 1, σ2, by omega, by go_num, hSd.out _, hD.out⟩
          case measure => simp [intOf]; omega
        · have hj1 : 1 ≤ j := by omega
          have hjn : j < n := by omega
          have hjI : (1 : Int) ≤ (j : Int) := by omega
          have hjI2 : (j : Int) < (n : Int) := by omega
          have hjp : (0 : Int) < (j : Int) := by omega
          have hd0 : decide ((0 : Int) < (j : Int)) = true := decide_eq_true hjp
          have hjN : 0 < j := by omega
          have hd1 : decide (0 < j) = true := decide_eq_true hjN
          have b1 : σ2 (j - 1) < n := by have := hJ2.low (j - 1) (by omega) (by omega); omega
          have b2 : σ2 j < n := by have := hJ2.at_; omega
          obtain ⟨j', hj'⟩ : ∃ j', j' = j - 1 := ⟨j - 1, rfl⟩
          rw [← hj'] at b1
          have hj'n : j' < n := by omega
          have hj'I : (j' : Int) < (n : Int) := by omega
          have hne1 : ¬ j = j' := by omega
          have hne2 : ¬ j' = j := by omega
          have hc := hcp.out (σ2 j) (σ2 j') b2 b1
          have kk := kC2.out wr.drew σ2 ⟨hS2.bx.drewN 1, hS2.blk⟩ (σ2 j) (σ2 j') b2 b1
          have c1 : wr.drew.cell? ⟨g, j, none⟩ = some (.int .i64 (σ2 j : Nat)) := hS2.blk.cell hjn
          have c0 : wr.drew.cell? ⟨g, j', none⟩ = some (.int .i64 (σ2 j' : Nat)) := hS2.blk.cell (by omega)
          have hSS : ∀ Z, Below wr.drew.heap.size wr.drew Z → SoS w n0 g n σ2 Z := fun Z hZ => hup.out wr.drew Z σ2 ⟨hS2.bx.drewN 1, hS2.blk⟩ hZ
          have hcc : ∀ Z, Below wr.drew.heap.size wr.drew Z → Z.cell? ⟨g, j, none⟩ = some (.int .i64 (σ2 j : Nat)) ∧ Z.cell? ⟨g, j', none⟩ = some (.int .i64 (σ2 j' : Nat)) := fun Z hZ => ⟨(hSS Z hZ).blk.cell hjn, (hSS Z hZ).blk.cell (by omega)⟩
          have s0 := hcc _ (Below.refl _ _)
          have hsub : IntKind.i64.wrap ((j : Int) - 1) = ((j' : Nat) : Int) := by rw [IntWalk.i64_in _ (by omega)]; omega
          by_cases hlt : s (σ2 j') < s (σ2 j)
          · have hst := hJ2.step hj1 hj (by rw [← hj']; exact hlt)
            rw [← hj'] at hst
            have hneg : cp (σ2 j) (σ2 j') < 0 := hc.2 hlt
            have hsw : ∀ Z, SoS w n0 g n σ2 Z → SoS w n0 g n (M.swp σ2 j) ((Z.setCell ⟨g, j, none⟩ (.int .i64 (σ2 j' : Nat))).setCell ⟨g, j', none⟩ (.int .i64 (σ2 j : Nat))) := fun Z hZ => by
              have := hZ.swp (j := j) hj1 hjn
              rw [← hj'] at this
              exact this
            generalize cp (σ2 j) (σ2 j') = C at *
            have hCd : decide (C < 0) = true := decide_eq_true hneg
            generalize hu : σ2 j = u at *
            generalize hv : σ2 j' = v at *
            have hj'9 : j' ≤ i := by omega
            replace hj' := Lib.hid hj'
            replace hu := Lib.hid hu
            replace hv := Lib.hid hv
            replace hc := Lib.hid hc
            replace hst := Lib.hid hst
            replace hsw := Lib.hid hsw
            replace hSS := Lib.hid hSS
            replace hcc := Lib.hid hcc
            replace hS2 := Lib.hid hS2
            replace hJ2 := Lib.hid hJ2
            replace kk := Lib.hid kk
            clear c0 c1
            go_wp2
            go_region_held3 (fun Z => Z.cell? ⟨g, j, none⟩ = some (.int .i64 (u : Nat)) ∧ Z.cell? ⟨g, j', none⟩ = some (.int .i64 (v : Nat))) (first | with_reducible exact s0 | with_reducible exact hcc.out _ (by assumption)) ((go_at_call 102; refine kk.out.mono ?_; rintro _ Z1 ⟨rfl, hz1⟩))
            all_goals
              have hZ := hSS.out _ hz1
              have hfin := Lib.hid (hsw.out Z1.drew ⟨hZ.bx.drewN 1, hZ.blk⟩)
              obtain ⟨d1, d0⟩ := hcc.out _ hz1
              have f1 := hZ.blk.fz j
              have f0 := hZ.blk.fz j'
              have l1 := hZ.blk.lt
              replace hZ := Lib.hid hZ
              replace hz1 := Lib.hid hz1
              go_wp2
              go_region
              all_goals
                go_wp2
                go_roundw
                case rel => exact ⟨j', M.swp σ2 j, by omega, by go_num, hfin.out, hst.out⟩
                case measure => have := hj'.out; simp [intOf]; omega
          · have hD := hJ2.done hj (.inr (by rw [← hj']; exact hlt))
            have hneg : ¬ cp (σ2 j) (σ2 j') < 0 := fun h => hlt (hc.1 h)
            generalize cp (σ2 j) (σ2 j') = C at *
            have hCd : decide (C < 0) = false := decide_eq_false hneg
            generalize hu : σ2 j = u at *
            generalize hv : σ2 j' = v at *
            have hj'9 : j' ≤ i := by omega
            replace hj' := Lib.hid hj'
            replace hu := Lib.hid hu
            replace hv := Lib.hid hv
            replace hc := Lib.hid hc
            replace hD := Lib.hid hD
            replace hSS := Lib.hid hSS
            replace hcc := Lib.hid hcc
            replace hS2 := Lib.hid hS2
            replace hJ2 := Lib.hid hJ2
            replace kk := Lib.hid kk
            clear c0 c1
            go_wp2
            go_region_held3 (fun Z => Z.cell? ⟨g, j, none⟩ = some (.int .i64 (u : Nat)) ∧ Z.cell? ⟨g, j', none⟩ = some (.int .i64 (v : Nat))) (first | with_reducible exact s0 | with_reducible exact hcc.out _ (by assumption)) ((go_at_call 102; refine kk.out.mono ?_; rintro _ Z1 ⟨rfl, hz1⟩))
            all_goals
              have hfin := Lib.hid (hSS.out _ hz1)
              replace hz1 := Lib.hid hz1
              go_wp2
              go_roundw
              case rel => exact ⟨i + 1, σ2, by omega, by go_num, hfin.out, hD.out⟩
              case measure => simp [intOf]; omega
    · have : n = i := by omega
      subst this
      have hfin := Lib.hid (And.intro hS1 hI1)
      replace hS1 := Lib.hid hS1
      replace hI1 := Lib.hid hI1
      go_wp2
      go_end0
      exact ⟨rfl, σ1, hfin.out.1, hfin.out.2⟩
end Go.Proofs.Ythleekdkbgnabaa
end

section
namespace Go.Proofs.Ythleekdkbgnabaa
open Go.RowKit Go.Deep M
set_option linter.unusedVariables false
set_option linter.unusedSimpArgs false
set_option maxRecDepth 100000 in
set_option maxHeartbeats 4000000 in
theorem stable_any (n0 g n cap box : Nat) (cp : Nat → Nat → Int) (s : Nat → Int) (σ : Nat → Nat) (w : World) (hn : 1 ≤ n ∧ n ≤ 8) (hn0 : n0 ≤ w.heap.size) (hb : BlI w g n (fun i => (σ i : Int))) (h0 : InsI s n 1 σ)
    (kC : ∀ X, Bx n0 g w X → ∀ x y : Nat, x < n → y < n → Calls Try.prog 102 #[.int .i64 (x : Nat), .int .i64 (y : Nat), .pointer (some ⟨box, 0, none⟩)] X fun r w' => r = .returned (.int .i64 (cp x y)) ∧ Below X.heap.size X w')
    (hcp : ∀ x y, x < n → y < n → (cp x y < 0 ↔ s y < s x)) :
    Calls Try.prog 121 #[.slice (some ⟨g, 0, none⟩) n cap, .int .i64 (n : Nat), .func (.func 102) #[] #[.pointer (some ⟨box, 0, none⟩)]] w fun r w' => r = .returned (.tuple #[]) ∧ ∃ σ', SoS w n0 g n σ' w' ∧ InsI s n n σ' := by
  have kk := Lib.hid (insert_any n0 g n cap box cp s σ w (by omega) hn0 hb h0 kC hcp)
  clear hb h0 kC hcp hn0
  obtain ⟨hn1, hn8⟩ := hn
  go_enter Try.func121, Try.ntmps121
  go_wp2
  go_loopw [7, 8] (fun a b wr => a = .int .i64 0 ∧ b = .int .i64 20 ∧ wr = w) (fun _ _ _ => 0)
  case atStart => exact ⟨rfl, rfl, rfl⟩
  case round =>
    obtain ⟨rfl, rfl, rfl⟩ := hrel
    go_wp2_with fail
    refine kk.out.mono ?_
    rintro _ X ⟨rfl, hX⟩
    go_wp2
    go_loopw [6, 7, 8, 9] (fun a _ _ _ wr' => a = .int .i64 20 ∧ wr' = X) (fun _ _ _ _ _ => 0)
    case atStart => exact ⟨rfl, rfl⟩
    case round =>
      obtain ⟨rfl, rfl⟩ := hrel
      go_wp2
      go_end0
      exact ⟨rfl, hX⟩
set_option maxRecDepth 100000 in
set_option maxHeartbeats 4000000 in
theorem sortStable_any (n0 g n cap box : Nat) (cp : Nat → Nat → Int) (s : Nat → Int) (σ : Nat → Nat) (w : World) (hn : 1 ≤ n ∧ n ≤ 8) (hn0 : n0 ≤ w.heap.size) (hb : BlI w g n (fun i => (σ i : Int))) (h0 : InsI s n 1 σ)
    (kC : ∀ X, Bx n0 g w X → ∀ x y : Nat, x < n → y < n → Calls Try.prog 102 #[.int .i64 (x : Nat), .int .i64 (y : Nat), .pointer (some ⟨box, 0, none⟩)] X fun r w' => r = .returned (.int .i64 (cp x y)) ∧ Below X.heap.size X w')
    (hcp : ∀ x y, x < n → y < n → (cp x y < 0 ↔ s y < s x)) :
    Calls Try.prog 101 #[.slice (some ⟨g, 0, none⟩) n cap, .func (.func 102) #[] #[.pointer (some ⟨box, 0, none⟩)]] w fun r w' => r = .returned (.tuple #[]) ∧ ∃ σ', SoS w n0 g n σ' w' ∧ InsI s n n σ' := by
  have kk := Lib.hid (stable_any n0 g n cap box cp s σ w hn hn0 hb h0 kC hcp)
  clear hb h0 kC hcp hn0
  go_enter Try.func101, Try.ntmps101
  go_wp2_with fail
  refine kk.out.mono ?_
  rintro _ X ⟨rfl, hX⟩
  go_wp2
  go_end0
  exact ⟨rfl, hX⟩
end Go.Proofs.Ythleekdkbgnabaa
end

section
namespace Go.Proofs.Ythleekdkbgnabaa
open Go.RowKit Go.Deep M
set_option linter.unusedVariables false
set_option linter.unusedSimpArgs false
namespace M
def qW (F : Nat → Rt) (i : Nat) : Int := (F i).n / (F i).d
def rW (F : Nat → Rt) (i : Nat) : Rt := ⟨(F i).n % (F i).d, (F i).d⟩
/-- Whole awards with 1 more for each of the first k. -/
def addW (q : Nat → Int) (σ : Nat → Nat) : Nat → Nat → Int
  | 0 => q
  | k + 1 => fun i => if i = σ k then addW q σ k (σ k) + 1 else addW q σ k i
theorem addW_b {q : Nat → Int} {σ : Nat → Nat} {n : Nat} (hq : ∀ i, i < n → 0 ≤ q i ∧ q i ≤ 1000) (hσ : ∀ k, k < n → σ k < n) : ∀ k, k ≤ n → ∀ i, i < n → 0 ≤ addW q σ k i ∧ addW q σ k i ≤ 1000 + k := by
  intro k
  induction k with
  | zero => intro _ i hi; have := hq i hi; simp only [addW]; omega
  | succ k ih =>
    intro hk i hi
    have h1 := ih (by omega) i hi
    have h2 := ih (by omega) (σ k) (hσ k (by omega))
    simp only [addW]
    split <;> omega
def upI (i : Nat) (f : Nat → Int) (k : Nat) : Int := if k < i then f k else 0
def upR (i : Nat) (f : Nat → Rt) (k : Nat) : Rt := if k < i then f k else ⟨0, 0⟩
theorem upI_succ (i : Nat) (f : Nat → Int) (k : Nat) : (if k = i then f i else upI i f k) = upI (i + 1) f k := by
  unfold upI
  by_cases e : k = i
  · subst e; simp
  · rw [if_neg e]
    by_cases h : k < i
    · rw [if_pos h, if_pos (by omega)]
    · rw [if_neg h, if_neg (by omega)]
theorem upR_succ (i : Nat) (f : Nat → Rt) (k : Nat) : (if k = i then f i else upR i f k) = upR (i + 1) f k := by
  unfold upR
  by_cases e : k = i
  · subst e; simp
  · rw [if_neg e]
    by_cases h : k < i
    · rw [if_pos h, if_pos (by omega)]
    · rw [if_neg h, if_neg (by omega)]
end M
/-- The three lists and the box of one. -/
structure WhG (w : World) (n : Nat) (f1 : Nat → Int) (f2 : Nat → Rt) (f3 : Nat → Int) (X : World) : Prop where
  below : Below w.heap.size w X
  rnd : BlI X w.heap.size n f1
  rst : BlR X (w.heap.size + 1) n f2
  box : X.heap[w.heap.size + 2]? = some (.cells #[.slice (some ⟨w.heap.size + 1, 0, none⟩) n n] 25 (0, 0))
  clm : BlI X (w.heap.size + 3) n f3
section
variable {w X Y : World} {n : Nat} {f1 f3 : Nat → Int} {f2 : Nat → Rt}
theorem WhG.up (h : WhG w n f1 f2 f3 X) (hb : Below X.heap.size X Y) : WhG w n f1 f2 f3 Y :=
  ⟨bel_trans h.below hb, h.rnd.up hb, h.rst.up hb, (hb.block _ (blk_lt h.box)).trans h.box, h.clm.up hb⟩
theorem WhG.drewN (h : WhG w n f1 f2 f3 X) (k : Nat) : WhG w n f1 f2 f3 (X.drewN k) := ⟨below_drewN h.below k, h.rnd, h.rst, h.box, h.clm⟩
theorem WhG.congr {f1' f3' : Nat → Int} {f2' : Nat → Rt} (h : WhG w n f1 f2 f3 X) (e1 : ∀ i, i < n → f1 i = f1' i) (e2 : ∀ i, i < n → f2 i = f2' i) (e3 : ∀ i, i < n → f3 i = f3' i) : WhG w n f1' f2' f3' X :=
  ⟨h.below, h.rnd.congr e1, h.rst.congr e2, h.box, h.clm.congr e3⟩
theorem set1_far {X : World} {b g k : Nat} (h : g ≠ b) (v : Value) : (X.setCell ⟨b, k, none⟩ v).heap[g]? = X.heap[g]? := by
  have h' : ¬ b = g := fun e => h e.symm
  simp [World.setCell, Array.getElem?_modify, h']
theorem set2_far' {X : World} {b g k k' : Nat} (h : g ≠ b) (v v' : Value) : ((X.setCell ⟨b, k, none⟩ v).setCell ⟨b, k', none⟩ v').heap[g]? = X.heap[g]? := (set1_far h v').trans (set1_far h v)
theorem WhG.set1 (h : WhG w n f1 f2 f3 X) {i : Nat} (hi : i < n) (x : Int) : WhG w n (fun k => if k = i then x else f1 k) f2 f3 (X.setCell ⟨w.heap.size, i, none⟩ (.int .i64 x)) :=
  ⟨h.below.setCell (Nat.le_refl _) _, h.rnd.set hi x, h.rst.to (set1_far (by omega) _), (set1_far (by omega) _).trans h.box, h.clm.to (set1_far (by omega) _)⟩
theorem WhG.set2 (h : WhG w n f1 f2 f3 X) {i : Nat} (hi : i < n) (x : Rt) : WhG w n f1 (fun k => if k = i then x else f2 k) f3 ((X.setCell ⟨w.heap.size + 1, i * 2, none⟩ (.int .i64 x.n)).setCell ⟨w.heap.size + 1, i * 2 + 1, none⟩ (.int .i64 x.d)) :=
  ⟨(h.below.setCell (Nat.le_succ w.heap.size) _).setCell (Nat.le_succ w.heap.size) _, h.rnd.to (set2_far' (by omega) _ _), h.rst.set hi x, (set2_far' (by omega) _ _).trans h.box, h.clm.to (set2_far' (by omega) _ _)⟩
theorem WhG.set3 (h : WhG w n f1 f2 f3 X) {i : Nat} (hi : i < n) (x : Int) : WhG w n f1 f2 (fun k => if k = i then x else f3 k) (X.setCell ⟨w.heap.size + 3, i, none⟩ (.int .i64 x)) :=
  ⟨h.below.setCell (show w.heap.size ≤ w.heap.size + 3 by omega) _, h.rnd.to (set1_far (by omega) _), h.rst.to (set1_far (by omega) _), (set1_far (by omega) _).trans h.box, h.clm.set hi x⟩
end
theorem WhG.start (w : World) (n : Nat) : WhG w n (fun _ => 0) (fun _ => ⟨0, 0⟩) (fun _ => 0)
    (mkI ((mkR (mkI w n) n).alloc (.cells #[.slice (some ⟨w.heap.size + 1, 0, none⟩) n n] 25)) n) := by
  have s1 : (mkI w n).heap.size = w.heap.size + 1 := by unfold mkI; simp
  have s2 : (mkR (mkI w n) n).heap.size = w.heap.size + 2 := by unfold mkR; simp [s1]
  have s3 : ((mkR (mkI w n) n).alloc (.cells #[.slice (some ⟨w.heap.size + 1, 0, none⟩) n n] 25)).heap.size = w.heap.size + 3 := by simp [s2]
  have b1 := mkI_below w n
  have b2 := mkR_below (mkI w n) n
  have b3 := ba1 (mkR (mkI w n) n) (.cells #[.slice (some ⟨w.heap.size + 1, 0, none⟩) n n] 25)
  have b4 := mkI_below ((mkR (mkI w n) n).alloc (.cells #[.slice (some ⟨w.heap.size + 1, 0, none⟩) n n] 25)) n
  have q1 := mkI_blk w n
  have q2 := mkR_blk (mkI w n) n
  rw [s1] at q2
  have q3 := heap_alloc_new (mkR (mkI w n) n) (.cells #[.slice (some ⟨w.heap.size + 1, 0, none⟩) n n] 25)
  rw [s2] at q3
  have q4 := mkI_blk ((mkR (mkI w n) n).alloc (.cells #[.slice (some ⟨w.heap.size + 1, 0, none⟩) n n] 25)) n
  rw [s3] at q4
  refine ⟨bel_trans (bel_trans (bel_trans b1 b2) b3) b4, ((q1.up b2).up b3).up b4, (q2.up b3).up b4, (b4.block _ (by omega)).trans q3, q4⟩
set_option maxRecDepth 100000 in
set_option maxHeartbeats 8000000 in
theorem whole_any (gA cp n : Nat) (F : Nat → Rt) (e : Int) (s : Nat → Int) (L : Nat) (w : World) (hn : 1 ≤ n ∧ n ≤ 8) (hA : BlR w gA n F)
    (hF : ∀ i, i < n → (0 ≤ (F i).n ∧ (F i).n ≤ 1000 * (F i).d) ∧ 1 ≤ (F i).d ∧ (F i).d ≤ 10000) (he : 0 ≤ e ∧ e ≤ 8000)
    (hs : ∀ x y, x < n → y < n → ((rW F y).n * (rW F x).d < (rW F x).n * (rW F y).d ↔ s y < s x)) (hL : e - suM (qW F) n = (L : Int)) (hLn : L ≤ n) :
    Calls Try.prog 75 #[.int .i64 e, .slice (some ⟨gA, 0, none⟩) n cp] w fun r w' => ∃ g σ, r = .returned (.slice (some ⟨g, 0, none⟩) n n) ∧ Below w.heap.size w w' ∧ BlI w' g n (addW (qW F) σ L) ∧ InsI s n n σ := by
  have hq : ∀ i, i < n → 0 ≤ qW F i ∧ qW F i ≤ 1000 := fun i hi => by
    obtain ⟨⟨a, b⟩, c, d⟩ := hF i hi
    unfold qW
    refine ⟨Int.ediv_nonneg a (by omega), ?_⟩
    have := Int.ediv_le_ediv (c := (F i).d) (by omega) b
    rw [Int.mul_ediv_cancel _ (by omega)] at this
    exact this
  have hqr : ∀ i, i < n → (F i).n.tdiv (F i).d = qW F i ∧ (F i).n.tmod (F i).d = (rW F i).n ∧ (rW F i).d = (F i).d ∧ (0 ≤ (rW F i).n ∧ (rW F i).n < (F i).d) := fun i hi => by
    obtain ⟨⟨a, b⟩, c, d⟩ := hF i hi
    exact ⟨Int.tdiv_eq_ediv_of_nonneg a, Int.tmod_eq_emod_of_nonneg a, rfl, Int.emod_nonneg _ (by omega), Int.emod_lt_of_pos _ (by omega)⟩
  have hsum : ∀ i, i ≤ n → 0 ≤ suM (qW F) i ∧ suM (qW F) i ≤ 1000 * i := by
    intro i
    induction i with
    | zero => intro _; simp [suM]
    | succ i ih => intro hi; have := ih (by omega); have := hq i (by omega); simp only [suM]; omega
  have m1 := run_mkI w n (by omega)
  have m2 := run_mkR (mkI w n) n (by omega)
  have m3 := run_mkI ((mkR (mkI w n) n).alloc (.cells #[.slice (some ⟨w.heap.size + 1, 0, none⟩) n n] 25)) n (by omega)
  have s1 : (mkI w n).heap.size = w.heap.size + 1 := by unfold mkI; simp
  have s2 : (mkR (mkI w n) n).heap.size = w.heap.size + 2 := by unfold mkR; simp [s1]
  have s3 : ((mkR (mkI w n) n).alloc (.cells #[.slice (some ⟨w.heap.size + 1, 0, none⟩) n n] 25)).heap.size = w.heap.size + 3 := by simp [s2]
  rw [s1] at m2
  rw [s3] at m3
  have hW := WhG.start w n
  obtain ⟨G, hG⟩ : ∃ G, G = mkI ((mkR (mkI w n) n).alloc (.cells #[.slice (some ⟨w.heap.size + 1, 0, none⟩) n n] 25)) n := ⟨_, rfl⟩
  rw [← hG] at m3 hW
  generalize mkI w n = G1 at *
  generalize mkR G1 n = G2 at *
  have hA0 := fun X (hX : Below w.heap.size w X) i (hi : i < n) => And.intro ((hA.up hX).c0 hi) ((hA.up hX).c1 hi)
  have hfit : ∀ x y, x < n → y < n → fitP ((rW F y).n * (rW F x).d) ∧ fitP ((rW F x).n * (rW F y).d) := fun x y hx hy => by
    obtain ⟨_, _, x1, x2⟩ := hqr x hx
    obtain ⟨_, _, y1, y2⟩ := hqr y hy
    have := hF x hx
    have := hF y hy
    have p1 := prod_b (a := (rW F y).n) (b := (rW F x).d) (x := 10000) (y := 10000) (by omega) (by omega) (by omega)
    have p2 := prod_b (a := (rW F x).n) (b := (rW F y).d) (x := 10000) (y := 10000) (by omega) (by omega) (by omega)
    unfold fitP; omega
  have hW0 : WhG w n (upI 0 (qW F)) (upR 0 (rW F)) (upI 0 (fun k => (k : Int))) G := hW.congr (fun i _ => by simp [upI]) (fun i _ => by simp [upR]) (fun i _ => by simp [upI])
  have hsz : e - suM (qW F) 0 = e := by simp [suM]
  have hss := fun i => (show suM (qW F) (i + 1) = suM (qW F) i + qW F i from rfl)
  have h0 : InsI s n 1 id := ⟨fun k _ _ => rfl, fun k hk => hk, fun a b hab hb => by omega⟩
  clear hW
  replace hA := Lib.hid hA
  replace hA0 := Lib.hid hA0
  replace hF := Lib.hid hF
  replace hq := Lib.hid hq
  replace hqr := Lib.hid hqr
  replace hsum := Lib.hid hsum
  replace hfit := Lib.hid hfit
  replace hs := Lib.hid hs
  replace hW0 := Lib.hid hW0
  replace hL := Lib.hid hL
  replace hss := Lib.hid hss
  replace h0 := Lib.hid h0
  replace s1 := Lib.hid s1
  replace s2 := Lib.hid s2
  replace s3 := Lib.hid s3
  replace hG := Lib.hid hG
  rw [← hsz]
  replace hsz := Lib.hid hsz
  obtain ⟨hn1, hn8⟩ := hn
  go_enter Try.func75, Try.ntmps75
  go_wp2
  rw [s2.out]
  go_loopw [25, 8, 9, 10] (fun iv lv _ _ wr => ∃ i : Nat, i ≤ n ∧ iv = .int .i64 (i : Nat) ∧ lv = .int .i64 (e - suM (qW F) i) ∧ WhG w n (upI i (qW F)) (upR i (rW F)) (upI i (fun k => (k : Int))) wr) (fun iv _ _ _ _ => n - (intOf iv).toNat)
  case atStart => exact ⟨0, by omega, rfl, rfl, hW0.out⟩
  case round =>
    clear hW0
    obtain ⟨i, hi, rfl, rfl, hX⟩ := hrel
    by_cases hin : i < n
    · have hini : (i : Int) < (n : Int) := by omega
      obtain ⟨a0, a1⟩ := hA0.out wr hX.below i hin
      obtain ⟨q1, q2, q3, q4, q5⟩ := hqr.out i hin
      have hqi := hq.out i hin
      have hFi := hF.out i hin
      have hsm := hsum.out i (by omega)
      have hssi := hss.out i
      have hwlt := hX.clm.lt
      obtain ⟨q, hQ⟩ : ∃ q, q = qW F i := ⟨_, rfl⟩
      obtain ⟨r, hR⟩ : ∃ r, r = (rW F i).n := ⟨_, rfl⟩
      obtain ⟨N, hN⟩ : ∃ N, N = (F i).n := ⟨_, rfl⟩
      obtain ⟨D, hD⟩ : ∃ D, D = (F i).d := ⟨_, rfl⟩
      obtain ⟨lv, hlv⟩ : ∃ lv, lv = e - suM (qW F) i := ⟨_, rfl⟩
      rw [← hN] at a0 q1 q2 hFi
      rw [← hD] at a1 q1 q2 q3 q5 hFi
      rw [← hQ] at q1 hqi hssi
      rw [← hR] at q2 q4 q5
      have hlv2 : -8000 ≤ lv ∧ lv ≤ 8000 := by omega
      have hsub : lv - q = e - suM (qW F) (i + 1) := by omega
      have w3 : IntKind.i64.wrap (lv - q) = lv - q := IntWalk.i64_in _ (by omega)
      rw [← hlv]
      have hrW : rW F i = ⟨r, D⟩ := by rw [hR, ← q3]
      have hX1 := hX.up (ba1 wr (.cells #[.int .i64 N, .int .i64 D] 37))
      have hbx1 := Bxr.new wr N D
      have hX2 := hX1.set1 hin q
      have hbx2 : Bxr ((wr.alloc (.cells #[.int .i64 N, .int .i64 D] 37)).setCell ⟨w.heap.size, i, none⟩ (.int .i64 q)) wr.heap.size N D := hbx1.to (set1_far (by omega) _)
      have hX3 := (hX2.set2 hin ⟨r, D⟩)
      have hX3c : ∀ Z, WhG w n (fun k => if k = i then q else upI i (qW F) k) (fun k => if k = i then ⟨r, D⟩ else upR i (rW F) k) (upI i (fun k => (k : Int))) Z → WhG w n (upI (i + 1) (qW F)) (upR (i + 1) (rW F)) (upI i (fun k => (k : Int))) Z := fun Z hZ => hZ.congr (fun k _ => by rw [hQ]; exact upI_succ i (qW F) k) (fun k _ => by rw [← hrW]; exact upR_succ i (rW F) k) (fun k _ => rfl)
      have e0 := hX1.rnd.cell hin
      have e1 := hX1.rnd.fz i
      have e2 := hX1.rnd.lt
      have b0 := hbx1.c0
      have b1 := hbx1.c1
      have c0 : ((wr.alloc (.cells #[.int .i64 N, .int .i64 D] 37)).setCell ⟨w.heap.size, i, none⟩ (.int .i64 q)).drew.cell? ⟨wr.heap.size, 0, none⟩ = some (.int .i64 N) := hbx2.c0
      have c1 : ((wr.alloc (.cells #[.int .i64 N, .int .i64 D] 37)).setCell ⟨w.heap.size, i, none⟩ (.int .i64 q)).drew.cell? ⟨wr.heap.size, 1, none⟩ = some (.int .i64 D) := hbx2.c1
      have c2 : ((wr.alloc (.cells #[.int .i64 N, .int .i64 D] 37)).setCell ⟨w.heap.size, i, none⟩ (.int .i64 q)).drew.cell? ⟨w.heap.size + 2, 0, none⟩ = some (.slice (some ⟨w.heap.size + 1, 0, none⟩) n n) := by
        have := hX2.box
        simp [World.cell?, show ((wr.alloc (.cells #[.int .i64 N, .int .i64 D] 37)).setCell ⟨w.heap.size, i, none⟩ (.int .i64 q)).drew.heap[w.heap.size + 2]? = _ from this]
      have c3 : ((wr.alloc (.cells #[.int .i64 N, .int .i64 D] 37)).setCell ⟨w.heap.size, i, none⟩ (.int .i64 q)).drew.cell? ⟨w.heap.size + 1, i * 2, none⟩ = _ := hX2.rst.c0 hin
      have c4 : ((wr.alloc (.cells #[.int .i64 N, .int .i64 D] 37)).setCell ⟨w.heap.size, i, none⟩ (.int .i64 q)).drew.cell? ⟨w.heap.size + 1, i * 2 + 1, none⟩ = _ := hX2.rst.c1 hin
      have c5 : ((wr.alloc (.cells #[.int .i64 N, .int .i64 D] 37)).setCell ⟨w.heap.size, i, none⟩ (.int .i64 q)).drew.frozen? ⟨w.heap.size + 1, i * 2, none⟩ = false := hX2.rst.fz _
      have c6 : ((wr.alloc (.cells #[.int .i64 N, .int .i64 D] 37)).setCell ⟨w.heap.size, i, none⟩ (.int .i64 q)).drew.frozen? ⟨w.heap.size + 1, i * 2 + 1, none⟩ = false := hX2.rst.fz _
      have d3 := hX1.rst.c0 hin
      have d4 := hX1.rst.c1 hin
      have d5 := hX1.rst.fz (i * 2)
      have d6 := hX1.rst.fz (i * 2 + 1)
      have hfin := Lib.hid (hX3c _ hX3)
      have hD1 : ¬ D = 0 := by omega
      have hD2 : 1 ≤ D := by omega
      have nq1 : ¬ w.heap.size = wr.heap.size := by omega
      have nq2 : ¬ wr.heap.size = w.heap.size := by omega
      have w5 : IntKind.i64.wrap q = q := IntWalk.i64_in _ (by omega)
      have w6 : IntKind.i64.wrap r = r := IntWalk.i64_in _ (by omega)
      replace hX := Lib.hid hX
      replace hX1 := Lib.hid hX1
      replace hX2 := Lib.hid hX2
      replace hX3 := Lib.hid hX3
      replace hX3c := Lib.hid hX3c
      replace hbx1 := Lib.hid hbx1
      replace hbx2 := Lib.hid hbx2
      replace hQ := Lib.hid hQ
      replace hR := Lib.hid hR
      replace hN := Lib.hid hN
      replace hD := Lib.hid hD
      replace hlv := Lib.hid hlv
      replace hsub := Lib.hid hsub
      replace hssi := Lib.hid hssi
      replace hrW := Lib.hid hrW
      replace q3 := Lib.hid q3
      go_upto_region 9 with fail
      go_cut [] from 38 to 48 (fun wx => WhG w n (upI (i + 1) (qW F)) (upR (i + 1) (rW F)) (upI i (fun k => (k : Int))) wx)
      case first =>
        go_region
        all_goals
          go_wp2_with fail
          go_meet
          exact hfin.out.drewN 1
      case rest =>
      clear a0 a1 e0 e1 e2 b0 b1 c0 c1 c2 c3 c4 c5 c6 d3 d4 d5 d6 q1 q2
      have g0 := hcut.clm.cell hin
      have g1 := hcut.clm.fz i
      have g2 := hcut.clm.lt
      have h4 := hcut.set3 hin (i : Int)
      have g3 := h4.rnd.cell hin
      have hup : upI (i + 1) (qW F) i = q := by unfold upI; rw [if_pos (by omega), hQ.out]
      rw [hup] at g3
      have hfin4 := Lib.hid (h4.congr (fun k _ => rfl) (fun k _ => rfl) (fun k _ => upI_succ i (fun k => (k : Int)) k))
      replace h4 := Lib.hid h4
      replace hcut := Lib.hid hcut
      replace hup := Lib.hid hup
      go_wp2
      go_roundw
      case rel => exact ⟨i + 1, by omega, by go_num, by rw [← hsub.out], hfin4.out⟩
      case measure => simp [intOf]; omega
    · have : n = i := by omega
      subst this
      have hLi : (L : Int) ≤ 8 := by omega
      rw [hL.out]
      have hW := hX.congr (f1' := qW F) (f2' := rW F) (f3' := fun k => ((id k : Nat) : Int)) (fun k hk => by unfold upI; rw [if_pos hk]) (fun k hk => by unfold upR; rw [if_pos hk]) (fun k hk => by unfold upI; rw [if_pos hk]; rfl)
      have kk := sortStable_any wr.heap.size (w.heap.size + 3) n n (w.heap.size + 2) (fun x y => cmpR ((rW F y).n * (rW F x).d) ((rW F x).n * (rW F y).d)) s id wr ⟨hn1, hn8⟩ (Nat.le_refl _) hW.clm h0.out (fun X hBX x y hx hy => by
          have hbx := (hBX.block (w.heap.size + 2) (blk_lt hW.box) (by omega)).trans hW.box
          have hrs := hW.rst.to (hBX.block (w.heap.size + 1) hW.rst.lt (by omega))
          exact cmpF_any (w.heap.size + 2) (w.heap.size + 1) n (rW F) x y X hx hy (by omega) (by simp [World.cell?, hbx]) (blk_lt hbx) hrs (hfit.out x y hx hy))
        (fun x y hx hy => by rw [cmpR_neg]; exact hs.out x y hx hy)
      replace hX := Lib.hid hX
      replace kk := Lib.hid kk
      replace hW := Lib.hid hW
      go_wp2_with fail
      refine kk.out.mono ?_
      rintro _ X5 ⟨rfl, σ, hS5, hI5⟩
      have hr5 := hW.out.rnd.to (hS5.bx.block w.heap.size hW.out.rnd.lt (by omega))
      have hb5 : Below w.heap.size w X5 := ⟨hS5.bx.os.trans hW.out.below.os, hS5.bx.tape.trans hW.out.below.tape, hS5.bx.output.trans hW.out.below.output, Nat.le_trans hW.out.below.size hS5.bx.size, fun k hk => (hS5.bx.block k (by have := hW.out.below.size; omega) (by omega)).trans (hW.out.below.block k hk)⟩
      have hc5 := hS5.blk
      have hσ := hI5.low
      have hwb := addW_b hq.out hσ
      have haS := fun k => (show addW (qW F) σ (k + 1) = fun i => if i = σ k then addW (qW F) σ k (σ k) + 1 else addW (qW F) σ k i from rfl)
      replace hS5 := Lib.hid hS5
      replace hI5 := Lib.hid hI5
      replace hσ := Lib.hid hσ
      replace hwb := Lib.hid hwb
      replace haS := Lib.hid haS
      replace hr5 := Lib.hid hr5
      replace hb5 := Lib.hid hb5
      replace hc5 := Lib.hid hc5
      have hLn2 : (L : Int) ≤ (n : Int) := by omega
      go_wp2
      go_loopw [67, 12] (fun kv _ wr => ∃ k : Nat, k ≤ L ∧ kv = .int .i64 (k : Nat) ∧ Below w.heap.size w wr ∧ BlI wr w.heap.size n (addW (qW F) σ k) ∧ BlI wr (w.heap.size + 3) n (fun i => (σ i : Int))) (fun kv _ _ => L - (intOf kv).toNat)
      case atStart => exact ⟨0, by omega, rfl, hb5.out, hr5.out, hc5.out⟩
      case round =>
        clear hb5 hr5 hc5
        obtain ⟨k, hk, rfl, hb, hr, hc⟩ := hrel
        by_cases hkL : k < L
        · have hkI : (k : Int) < (L : Int) := by omega
          have hkn : k < n := by omega
          have hkI2 : (k : Int) < (n : Int) := by omega
          have hs1 := hσ.out k hkn
          have hsI : ((σ k : Nat) : Int) < (n : Int) := by omega
          have c0 := hc.cell hkn
          have r0 := hr.cell hs1
          have r1 := hr.fz (σ k)
          have r2 := hr.lt
          have hw1 := hwb.out k (by omega) (σ k) hs1
          have hsetr := hr.set hs1 (addW (qW F) σ k (σ k) + 1)
          rw [← haS.out k] at hsetr
          have hsetc := hc.to (w' := wr.setCell ⟨w.heap.size, σ k, none⟩ (.int .i64 (addW (qW F) σ k (σ k) + 1))) (set1_far (by omega) _)
          have hsetb := hb.setCell (p := ⟨w.heap.size, σ k, none⟩) (Nat.le_refl w.heap.size) (Value.int .i64 (addW (qW F) σ k (σ k) + 1))
          have hfin := Lib.hid (And.intro hsetb (And.intro hsetr hsetc))
          clear hsetb hsetr hsetc
          try simp only at c0
          generalize addW (qW F) σ k (σ k) = av at *
          generalize hu : σ k = u at *
          have wv : IntKind.i64.wrap (av + 1) = av + 1 := IntWalk.i64_in _ (by omega)
          replace hu := Lib.hid hu
          replace hb := Lib.hid hb
          replace hr := Lib.hid hr
          replace hc := Lib.hid hc
          go_wp2
          go_roundw
          case rel => exact ⟨k + 1, by omega, by go_num, hfin.out.1, hfin.out.2.1, hfin.out.2.2⟩
          case measure => simp [intOf]; omega
        · have : L = k := by omega
          subst this
          have hfin := Lib.hid (And.intro hb (And.intro hr hI5.out))
          replace hb := Lib.hid hb
          replace hr := Lib.hid hr
          replace hc := Lib.hid hc
          go_wp2
          go_ret
          exact ⟨_, σ, rfl, hfin.out.1, hfin.out.2.1, hfin.out.2.2⟩
end Go.Proofs.Ythleekdkbgnabaa
end

section
namespace Go.Proofs.Ythleekdkbgnabaa
open Go.RowKit Go.Deep M
set_option linter.unusedVariables false
set_option linter.unusedSimpArgs false
namespace M
theorem wM_upd (f : Nat → Int) (x : Int) (j : Nat) : ∀ n, j < n → suM (fun i => if i = j then x else f i) n = suM f n + (x - f j) := by
  have hbe : ∀ n, n ≤ j → suM (fun i => if i = j then x else f i) n = suM f n := by
    intro n
    induction n with
    | zero => intro _; rfl
    | succ n ih => intro h; simp only [suM]; rw [ih (by omega), if_neg (by omega)]
  intro n
  induction n with
  | zero => intro h; omega
  | succ n ih =>
    intro h
    simp only [suM]
    by_cases e : n = j
    · subst e; rw [hbe n (Nat.le_refl _), if_pos rfl]; omega
    · rw [ih (by omega), if_neg e]; omega
theorem wM_le {f g : Nat → Int} : ∀ n, (∀ i, i < n → f i ≤ g i) → suM f n ≤ suM g n := by
  intro n
  induction n with
  | zero => intro _; exact Int.le_refl _
  | succ n ih => intro h; have := ih (fun i hi => h i (by omega)); have := h n (by omega); simp only [suM]; omega
theorem wM_congr {f g : Nat → Int} : ∀ n, (∀ i, i < n → f i = g i) → suM f n = suM g n := by
  intro n
  induction n with
  | zero => intro _; rfl
  | succ n ih => intro h; simp only [suM]; rw [ih (fun i hi => h i (by omega)), h n (by omega)]
theorem wM_const (c : Int) : ∀ n : Nat, suM (fun _ => c) n = n * c := by
  intro n
  induction n with
  | zero => simp [suM]
  | succ n ih => simp only [suM]; rw [ih]; push_cast; grind
theorem wM_mulr (f : Nat → Int) (c : Int) : ∀ n, suM (fun i => f i * c) n = suM f n * c := by
  intro n
  induction n with
  | zero => simp [suM]
  | succ n ih => simp only [suM]; rw [ih]; grind
theorem wM_sub (f g : Nat → Int) : ∀ n, suM (fun i => f i - g i) n = suM f n - suM g n := by
  intro n
  induction n with
  | zero => rfl
  | succ n ih => simp only [suM]; rw [ih]; omega
section
variable {σ : Nat → Nat} {n : Nat}
theorem addW_sum (q : Nat → Int) (hσ : ∀ k, k < n → σ k < n) : ∀ k : Nat, k ≤ n → suM (addW q σ k) n = suM q n + k := by
  intro k
  induction k with
  | zero => intro _; simp [addW]
  | succ k ih =>
    intro hk
    simp only [addW]
    rw [wM_upd _ _ _ n (hσ k (by omega)), ih (by omega)]
    push_cast; omega
theorem addW_val (q : Nat → Int) (hi : ∀ a b, a < b → b < n → σ a ≠ σ b) : ∀ k, k ≤ n → ∀ i, ((∃ j, j < k ∧ σ j = i) ∧ addW q σ k i = q i + 1) ∨ ((¬ ∃ j, j < k ∧ σ j = i) ∧ addW q σ k i = q i) := by
  intro k
  induction k with
  | zero => intro _ i; exact .inr ⟨fun ⟨j, h, _⟩ => absurd h (Nat.not_lt_zero _), rfl⟩
  | succ k ih =>
    intro hk i
    simp only [addW]
    by_cases e : i = σ k
    · left
      refine ⟨⟨k, by omega, e.symm⟩, ?_⟩
      rw [if_pos e]
      rcases ih (by omega) (σ k) with ⟨⟨j, hj, he⟩, _⟩ | ⟨_, h⟩
      · exact absurd he (hi j k hj (by omega))
      · rw [h, e]
    · rw [if_neg e]
      rcases ih (by omega) i with ⟨⟨j, hj, he⟩, h⟩ | ⟨hn, h⟩
      · exact .inl ⟨⟨j, by omega, he⟩, h⟩
      · refine .inr ⟨fun ⟨j, hj, he⟩ => ?_, h⟩
        rcases Nat.lt_succ_iff_lt_or_eq.1 hj with h' | rfl
        · exact hn ⟨j, h', he⟩
        · exact e he.symm
/-- All are met. -/
theorem met (hσ : ∀ k, k < n → σ k < n) (hi : ∀ a b, a < b → b < n → σ a ≠ σ b) : ∀ i, i < n → ∃ j, j < n ∧ σ j = i := by
  have h1 := addW_sum (fun _ => 0) hσ n (Nat.le_refl _)
  have h2 := addW_val (fun _ => (0 : Int)) hi n (Nat.le_refl _)
  intro i hin
  refine Classical.byContradiction fun hc => ?_
  have h3 : suM (addW (fun _ => 0) σ n) n ≤ suM (fun k => if k = i then (0 : Int) else 1) n := wM_le n fun k hk => by
    rcases h2 k with ⟨⟨j, hj, he⟩, h⟩ | ⟨_, h⟩
    · rw [h]
      by_cases e : k = i
      · subst e; exact absurd ⟨j, hj, he⟩ hc
      · rw [if_neg e]; omega
    · rw [h]; split <;> omega
  rw [wM_upd (fun _ => (1 : Int)) 0 i n hin, wM_const] at h3
  rw [wM_const] at h1
  omega
theorem wM_perm (g : Nat → Int) (hσ : ∀ k, k < n → σ k < n) (hi : ∀ a b, a < b → b < n → σ a ≠ σ b) : suM (fun j => g (σ j)) n = suM g n := by
  have key : ∀ k, k ≤ n → suM (fun j => g (σ j)) k = suM (fun i => g i * addW (fun _ => 0) σ k i) n := by
    intro k
    induction k with
    | zero => intro _; simp only [addW, suM]; rw [wM_congr (g := fun _ => (0 : Int)) n (fun i _ => by simp), wM_const]; simp
    | succ k ih =>
      intro hk
      have hz : addW (fun _ => (0 : Int)) σ k (σ k) = 0 := by
        rcases addW_val (fun _ => (0 : Int)) hi k (by omega) (σ k) with ⟨⟨j, hj, he⟩, _⟩ | ⟨_, h⟩
        · exact absurd he (hi j k hj (by omega))
        · exact h
      have : suM (fun i => g i * addW (fun _ => (0 : Int)) σ (k + 1) i) n = suM (fun i => if i = σ k then g (σ k) * 1 else g i * addW (fun _ => (0 : Int)) σ k i) n := wM_congr n fun i _ => by
        simp only [addW]
        by_cases e : i = σ k
        · rw [if_pos e, if_pos e, hz, e]; simp
        · rw [if_neg e, if_neg e]
      rw [this, wM_upd _ _ _ n (hσ k (by omega)), hz]
      simp only [suM]
      rw [ih (by omega)]
      omega
  rw [key n (Nat.le_refl _)]
  refine wM_congr n fun i hin => ?_
  obtain ⟨j, hj, he⟩ := met hσ hi i hin
  rcases addW_val (fun _ => (0 : Int)) hi n (Nat.le_refl _) i with ⟨_, h⟩ | ⟨hn, _⟩
  · rw [h]; omega
  · exact absurd ⟨j, hj, he⟩ hn
end
/-- Keys: by how much an award is above a whole number. -/
structure Keys (n : Nat) (e : Int) (F : Nat → Rt) (Q : Int) (s : Nat → Int) (L : Nat) : Prop where
  q1 : 1 ≤ Q
  val : ∀ i, i < n → (rW F i).n * Q = s i * (F i).d
  rng : ∀ i, i < n → 0 ≤ s i ∧ s i < Q
  tot : suM s n = L * Q
  left : e - suM (qW F) n = L
  le : L ≤ n
theorem keys_of {n : Nat} {e : Int} {F : Nat → Rt} (hc : Cm n e F) (hd : ∀ i, i < n → 1 ≤ (F i).d) : ∃ Q s L, Keys n e F Q s L := by
  obtain ⟨Q, f, hQ, hf, hs⟩ := hc
  have hval : ∀ i, i < n → (rW F i).n * Q = (f i - qW F i * Q) * (F i).d := fun i hi => by
    have h1 := hf i hi
    have h2 := Int.mul_ediv_add_emod (F i).n (F i).d
    unfold rW qW
    simp only
    generalize (F i).n / (F i).d = a at *
    generalize (F i).n % (F i).d = b at *
    have : (F i).n * Q = (F i).d * a * Q + b * Q := by rw [← h2]; grind
    grind
  have hrng : ∀ i, i < n → 0 ≤ f i - qW F i * Q ∧ f i - qW F i * Q < Q := fun i hi => by
    have h1 := hval i hi
    have h2 := hd i hi
    have h3 : 0 ≤ (rW F i).n ∧ (rW F i).n < (F i).d := ⟨Int.emod_nonneg _ (by omega), Int.emod_lt_of_pos _ (by omega)⟩
    generalize (rW F i).n = r at *
    generalize f i - qW F i * Q = s at *
    generalize (F i).d = d at *
    constructor
    · have : 0 ≤ s * d := by rw [← h1]; exact Int.mul_nonneg h3.1 (by omega)
      exact Int.nonneg_of_mul_nonneg_left this (by omega)
    · have : s * d < Q * d := by
        rw [← h1]
        have := Int.mul_lt_mul_of_pos_right h3.2 (show 0 < Q by omega)
        have e1 : d * Q = Q * d := Int.mul_comm _ _
        omega
      exact Int.lt_of_mul_lt_mul_right this (by omega)
  have htot : suM (fun i => f i - qW F i * Q) n = (e - suM (qW F) n) * Q := by
    rw [wM_sub, wM_mulr, hs]; grind
  have hlo : 0 ≤ suM (fun i => f i - qW F i * Q) n := by
    have := wM_le (f := fun _ => (0 : Int)) n (fun i hi => (hrng i hi).1)
    rw [wM_const] at this; simpa using this
  have hhi : suM (fun i => f i - qW F i * Q) n ≤ n * Q := by
    have := wM_le (g := fun _ => Q) n (fun i hi => Int.le_of_lt (hrng i hi).2)
    rw [wM_const] at this; exact this
  rw [htot] at hlo hhi
  have l0 : 0 ≤ e - suM (qW F) n := Int.nonneg_of_mul_nonneg_left hlo (by omega)
  have l1 : e - suM (qW F) n ≤ n := Int.le_of_mul_le_mul_right hhi (by omega)
  refine ⟨Q, fun i => f i - qW F i * Q, (e - suM (qW F) n).toNat, hQ, hval, hrng, ?_, by omega, by omega⟩
  rw [htot, Int.toNat_of_nonneg l0]
theorem Keys.cmp {n : Nat} {e : Int} {F : Nat → Rt} {Q : Int} {s : Nat → Int} {L : Nat} (h : Keys n e F Q s L) (hd : ∀ i, i < n → 1 ≤ (F i).d) {x y : Nat} (hx : x < n) (hy : y < n) :
    (rW F y).n * (rW F x).d < (rW F x).n * (rW F y).d ↔ s y < s x := by
  have vx := h.val x hx
  have vy := h.val y hy
  have dx := hd x hx
  have dy := hd y hy
  have hQ := h.q1
  have e1 : (rW F x).d = (F x).d := rfl
  have e2 : (rW F y).d = (F y).d := rfl
  rw [e1, e2]
  generalize (rW F x).n = a at *
  generalize (rW F y).n = b at *
  generalize (F x).d = c at *
  generalize (F y).d = d at *
  generalize s x = u at *
  generalize s y = v at *
  have k1 : (b * c) * Q = v * (c * d) := by grind
  have k2 : (a * d) * Q = u * (c * d) := by grind
  have hcd : 0 < c * d := Int.mul_pos (by omega) (by omega)
  constructor
  · intro hlt
    have := Int.mul_lt_mul_of_pos_right hlt (show 0 < Q by omega)
    rw [k1, k2] at this
    exact Int.lt_of_mul_lt_mul_right this (by omega)
  · intro hlt
    have := Int.mul_lt_mul_of_pos_right hlt hcd
    rw [← k1, ← k2] at this
    exact Int.lt_of_mul_lt_mul_right this (by omega)
/-- What whole awards are. -/
def WhP (l : List Int) (e : Int) (F : Nat → Rt) (W : Nat → Int) : Prop :=
  suM W l.length = e ∧ ∀ i, i < l.length → (0 ≤ W i ∧ W i ≤ el l i) ∧ -(F i).d < W i * (F i).d - (F i).n ∧ W i * (F i).d - (F i).n < (F i).d
theorem whole_ok {l : List Int} {e : Int} {F : Nat → Rt} {Q : Int} {s : Nat → Int} {L : Nat} {σ : Nat → Nat} (h : Keys l.length e F Q s L) (hg : ∀ i, i < l.length → gdR (el l i) (F i)) (hI : InsI s l.length l.length σ) :
    WhP l e F (addW (qW F) σ L) := by
  have hσ := hI.low
  have hinj : ∀ a b, a < b → b < l.length → σ a ≠ σ b := fun a b hab hb => (hI.srt a b hab hb).ne
  have hle := h.le
  have hpos : ∀ k, k < L → 1 ≤ s (σ k) := fun k hk => by
    refine Classical.byContradiction fun hc => ?_
    have hz : s (σ k) ≤ 0 := by omega
    have h1 := wM_perm s hσ hinj
    rw [h.tot] at h1
    have h2 : suM (fun j => s (σ j)) l.length ≤ suM (fun j => if j < k then Q else 0) l.length := wM_le _ fun j hj => by
      split
      · exact Int.le_of_lt (h.rng _ (hσ j hj)).2
      · rename_i hjk
        by_cases e : j = k
        · subst e; exact hz
        · have := hI.srt k j (by omega) hj
          unfold LtS at this
          omega
    have h3 : ∀ m : Nat, suM (fun j => if j < k then Q else 0) m = (min m k : Nat) * Q := by
      intro m
      induction m with
      | zero => simp [suM]
      | succ m ih =>
        simp only [suM]
        rw [ih]
        by_cases hm : m < k
        · rw [if_pos hm, Nat.min_eq_left (by omega), Nat.min_eq_left (by omega)]; push_cast; grind
        · rw [if_neg hm, Nat.min_eq_right (by omega), Nat.min_eq_right (by omega)]; omega
    rw [h3, Nat.min_eq_right (by omega), h1] at h2
    have hQ := h.q1
    have := Int.le_of_mul_le_mul_right h2 (show 0 < Q by omega)
    omega
  refine ⟨by rw [addW_sum (qW F) hσ L hle]; have := h.left; omega, fun i hi => ?_⟩
  obtain ⟨⟨g1, g2⟩, g3, g4⟩ := hg i hi
  have hv := h.val i hi
  have hr := h.rng i hi
  have hQ := h.q1
  have h2 := Int.mul_ediv_add_emod (F i).n (F i).d
  have h3 : 0 ≤ (F i).n % (F i).d ∧ (F i).n % (F i).d < (F i).d := ⟨Int.emod_nonneg _ (by omega), Int.emod_lt_of_pos _ (by omega)⟩
  have hq0 : 0 ≤ qW F i := Int.ediv_nonneg g1 (by omega)
  have hqe : qW F i = (F i).n / (F i).d := rfl
  have hre : (rW F i).n = (F i).n % (F i).d := rfl
  rw [hre] at hv
  rw [← hqe] at h2
  rcases addW_val (qW F) hinj L hle i with ⟨⟨j, hj, he⟩, hw⟩ | ⟨_, hw⟩
  · have hp := hpos j hj
    rw [he] at hp
    have hr1 : 1 ≤ (F i).n % (F i).d := by
      refine Classical.byContradiction fun hc => ?_
      have : (F i).n % (F i).d = 0 := by omega
      rw [this, Int.zero_mul] at hv
      have : 0 < s i * (F i).d := Int.mul_pos (by omega) (by omega)
      omega
    rw [hw]
    generalize qW F i = q at *
    generalize (F i).n % (F i).d = r at *
    have e1 : (q + 1) * (F i).d = (F i).d * q + (F i).d := by grind
    refine ⟨⟨by omega, ?_⟩, by omega, by omega⟩
    have : q * (F i).d < el l i * (F i).d := by
      have : q * (F i).d = (F i).d * q := Int.mul_comm _ _
      omega
    have := Int.lt_of_mul_lt_mul_right this (by omega)
    omega
  · rw [hw]
    generalize qW F i = q at *
    generalize (F i).n % (F i).d = r at *
    have e1 : q * (F i).d = (F i).d * q := Int.mul_comm _ _
    refine ⟨⟨hq0, ?_⟩, by omega, by omega⟩
    have : q * (F i).d ≤ el l i * (F i).d := by omega
    exact Int.le_of_mul_le_mul_right this (by omega)
/-- The first one of those with the least award. -/
def lsI (f : Nat → Rt) : Nat → Nat
  | 0 => 0
  | k + 1 => if (f k).n * (f (lsI f k)).d < (f (lsI f k)).n * (f k).d then k else lsI f k
end M
end Go.Proofs.Ythleekdkbgnabaa
end

section
namespace Go.Proofs.Ythleekdkbgnabaa
open Go.RowKit Go.Deep M
set_option linter.unusedVariables false
set_option linter.unusedSimpArgs false
namespace M
theorem lsI_lt {f : Nat → Rt} : ∀ k, 1 ≤ k → lsI f k < k := by
  intro k
  induction k with
  | zero => intro h; omega
  | succ k ih =>
    intro _
    by_cases h0 : k = 0
    · subst h0; simp [lsI]
    · have := ih (by omega); simp only [lsI]; split <;> omega
end M
/-- Ratios whose cross products fit. -/
def crsR (f : Nat → Rt) (n : Nat) : Prop := ∀ i, i < n → (-100000000 ≤ (f i).n ∧ (f i).n ≤ 100000000) ∧ 1 ≤ (f i).d ∧ (f i).d ≤ 100000000
theorem crs_fit {a b : Rt} (ha : (-100000000 ≤ a.n ∧ a.n ≤ 100000000) ∧ 1 ≤ a.d ∧ a.d ≤ 100000000) (hb : (-100000000 ≤ b.n ∧ b.n ≤ 100000000) ∧ 1 ≤ b.d ∧ b.d ≤ 100000000) : fitP (a.n * b.d) ∧ fitP (b.n * a.d) := by
  have p1 := prod_b (a := a.n) (b := b.d) (x := 100000000) (y := 100000000) (by omega) (by omega) (by omega)
  have p2 := prod_b (a := b.n) (b := a.d) (x := 100000000) (y := 100000000) (by omega) (by omega) (by omega)
  unfold fitP
  omega
set_option maxRecDepth 100000 in
set_option maxHeartbeats 4000000 in
theorem least_any (g cp n : Nat) (F : Nat → Rt) (w : World) (hn : 1 ≤ n ∧ n ≤ 8) (hA : BlR w g n F) (hc : crsR F n) :
    Calls Try.prog 73 #[.slice (some ⟨g, 0, none⟩) n cp] w fun r w' => r = .returned (.int .i64 (lsI F n : Nat)) ∧ Below w.heap.size w w' := by
  have hcel := fun X (hX : Below w.heap.size w X) i (hi : i < n) => And.intro ((hA.up hX).c0 hi) ((hA.up hX).c1 hi)
  have kk := fun i j (hi : i < n) (hj : j < n) X => compared_any (F i) (F j) X (crs_fit (hc i hi) (hc j hj)).1 (crs_fit (hc i hi) (hc j hj)).2
  have hls := fun k (h : 1 ≤ k) => lsI_lt (f := F) k h
  have hsu := fun k => (show lsI F (k + 1) = if (F k).n * (F (lsI F k)).d < (F (lsI F k)).n * (F k).d then k else lsI F k from rfl)
  have hz : lsI F 0 = 0 := rfl
  unfold rtV at kk
  replace hcel := Lib.hid hcel
  replace kk := Lib.hid kk
  replace hls := Lib.hid hls
  replace hsu := Lib.hid hsu
  replace hz := Lib.hid hz
  replace hA := Lib.hid hA
  replace hc := Lib.hid hc
  obtain ⟨hn1, hn8⟩ := hn
  go_enter Try.func73, Try.ntmps73
  go_wp2
  go_loopw [8, 3, 4, 5] (fun iv fv _ _ wr => ∃ i : Nat, i ≤ n ∧ iv = .int .i64 (i : Nat) ∧ fv = .int .i64 (lsI F i : Nat) ∧ Below w.heap.size w wr) (fun iv _ _ _ _ => n - (intOf iv).toNat)
  case atStart => exact ⟨0, by omega, rfl, by rw [hz.out]; rfl, Below.refl _ _⟩
  case round =>
    obtain ⟨i, hi, rfl, rfl, hX⟩ := hrel
    by_cases hin : i < n
    · have hini : (i : Int) < (n : Int) := by omega
      have hjn : lsI F i < n := by
        by_cases h0 : i = 0
        · subst h0; rw [hz.out]; omega
        · have := hls.out i (by omega); omega
      obtain ⟨a0, a1⟩ := hcel.out wr hX i hin
      have hk := fun X => kk.out i (lsI F i) hin hjn X
      have hsi := hsu.out i
      have hS : ∀ Z, Below (wr.alloc (.cells #[.int .i64 (F i).n, .int .i64 (F i).d] 37)).heap.size (wr.alloc (.cells #[.int .i64 (F i).n, .int .i64 (F i).d] 37)) Z → Z.cell? ⟨wr.heap.size, 0, none⟩ = some (.int .i64 (F i).n) ∧ Z.cell? ⟨wr.heap.size, 1, none⟩ = some (.int .i64 (F i).d) ∧ Z.cell? ⟨g, lsI F i * 2, none⟩ = some (.int .i64 (F (lsI F i)).n) ∧ Z.cell? ⟨g, lsI F i * 2 + 1, none⟩ = some (.int .i64 (F (lsI F i)).d) := fun Z hZ => by
        have q := (Bxr.new wr (F i).n (F i).d).up hZ
        obtain ⟨u, v⟩ := hcel.out Z (bel_trans (bel_trans hX (ba1 _ _)) hZ) (lsI F i) hjn
        exact ⟨q.c0, q.c1, u, v⟩
      have hup := fun Z (hZ : Below (wr.alloc (.cells #[.int .i64 (F i).n, .int .i64 (F i).d] 37)).heap.size (wr.alloc (.cells #[.int .i64 (F i).n, .int .i64 (F i).d] 37)) Z) => bel_trans (bel_trans hX (ba1 wr (.cells #[.int .i64 (F i).n, .int .i64 (F i).d] 37))) hZ
      obtain ⟨j, hj⟩ : ∃ j, j = lsI F i := ⟨_, rfl⟩
      rw [← hj] at hk hsi hS hjn ⊢
      have hjI : (j : Int) < (n : Int) := by omega
      have hcn := cmpR_neg ((F i).n * (F j).d) ((F j).n * (F i).d)
      generalize hC : cmpR ((F i).n * (F j).d) ((F j).n * (F i).d) = C at *
      generalize (F i).n * (F j).d = P1 at *
      generalize (F j).n * (F i).d = P2 at *
      generalize (F i).n = an at *
      generalize (F i).d = ad at *
      generalize (F j).n = bn at *
      generalize (F j).d = bd at *
      have h0 : Below (wr.alloc (.cells #[.int .i64 an, .int .i64 ad] 37)).heap.size (wr.alloc (.cells #[.int .i64 an, .int .i64 ad] 37)) (wr.alloc (.cells #[.int .i64 an, .int .i64 ad] 37)).drew := below_drewN (Below.refl _ _) 1
      have t0 := hS _ h0
      replace hj := Lib.hid hj
      replace hC := Lib.hid hC
      replace hk := Lib.hid hk
      replace hS := Lib.hid hS
      replace hup := Lib.hid hup
      replace hX := Lib.hid hX
      by_cases hlt : P1 < P2
      · rw [if_pos hlt] at hsi
        have hneg : decide (C < 0) = true := decide_eq_true (hcn.2 hlt)
        have hneg2 := hcn.2 hlt
        replace hsi := Lib.hid hsi
        replace hcn := Lib.hid hcn
        go_wp2
        go_region_held3 (fun Z => Z.cell? ⟨wr.heap.size, 0, none⟩ = some (.int .i64 an) ∧ Z.cell? ⟨wr.heap.size, 1, none⟩ = some (.int .i64 ad) ∧ Z.cell? ⟨g, j * 2, none⟩ = some (.int .i64 bn) ∧ Z.cell? ⟨g, j * 2 + 1, none⟩ = some (.int .i64 bd)) (first | with_reducible exact t0 | with_reducible exact hS.out _ (by assumption)) ((go_at_call 100; refine (hk.out _).mono ?_; rintro _ Z1 ⟨rfl, hz1⟩; have hz2 := bel_trans h0 hz1))
        all_goals
          have hfin := Lib.hid (hup.out _ hz2)
          replace hz2 := Lib.hid hz2
          go_wp2
          go_roundw
          case rel => exact ⟨i + 1, by omega, by go_num, by rw [hsi.out], hfin.out⟩
          case measure => simp [intOf]; omega
      · rw [if_neg hlt] at hsi
        have hneg2 : ¬ C < 0 := fun h => hlt (hcn.1 h)
        have hneg : decide (C < 0) = false := decide_eq_false hneg2
        replace hsi := Lib.hid hsi
        replace hcn := Lib.hid hcn
        go_wp2
        go_region_held3 (fun Z => Z.cell? ⟨wr.heap.size, 0, none⟩ = some (.int .i64 an) ∧ Z.cell? ⟨wr.heap.size, 1, none⟩ = some (.int .i64 ad) ∧ Z.cell? ⟨g, j * 2, none⟩ = some (.int .i64 bn) ∧ Z.cell? ⟨g, j * 2 + 1, none⟩ = some (.int .i64 bd)) (first | with_reducible exact t0 | with_reducible exact hS.out _ (by assumption)) ((go_at_call 100; refine (hk.out _).mono ?_; rintro _ Z1 ⟨rfl, hz1⟩; have hz2 := bel_trans h0 hz1))
        all_goals
          have hfin := Lib.hid (hup.out _ hz2)
          replace hz2 := Lib.hid hz2
          go_wp2
          go_roundw
          case rel => exact ⟨i + 1, by omega, by go_num, by rw [hsi.out], hfin.out⟩
          case measure => simp [intOf]; omega
    · have : n = i := by omega
      subst this
      replace hX := Lib.hid hX
      go_wp2
      go_ret
      exact ⟨rfl, hX.out⟩
set_option maxRecDepth 100000 in
set_option maxHeartbeats 4000000 in
theorem Whole_ok (B : Nat) (A : Option Addr) (c : Nat) (l : List Int) (e : Int) (w : World) (h : Row w B A l) (hB : B ≤ w.heap.size) (hk : okE l e) (k : Nat) (hk1 : k < 4) :
    Calls Try.prog 38 #[.slice A l.length c, .int .i64 e, .int .i64 (k + 1 : Nat)] w fun r w' => ∃ g Q s L σ, r = .returned (.tuple #[.slice (some ⟨g, 0, none⟩) l.length l.length, .int .i64 0]) ∧ Below w.heap.size w w' ∧ BlI w' g l.length (addW (qW (shR l e (k + 1 : Nat))) σ L) ∧ Keys l.length e (shR l e (k + 1 : Nat)) Q s L ∧ InsI s l.length l.length σ := by
  have kc := cRule_ok B A c l e w h hk k hk1
  have hh := fun X (hX : Below w.heap.size w X) => h.below (hX.mono hB)
  have hBB := fun X (hX : Below w.heap.size w X) => Nat.le_trans hB hX.size
  have f1 := fun X (hX : Below w.heap.size w X) => inProp_any B A c l e X (hh X hX) (hBB X hX) hk
  have f2 := fun X (hX : Below w.heap.size w X) => eqAw_any B A c l e X (hh X hX) (hBB X hX) hk
  have f3 := fun X (hX : Below w.heap.size w X) => eqLoss_any B A c l e X (hh X hX) (hBB X hX) hk
  have f4 := fun X (hX : Below w.heap.size w X) => old_any B A c l e X (hh X hX) (hBB X hX) hk
  rw [← shR1] at f1
  rw [← shR2] at f2
  rw [← shR3] at f3
  rw [← shR4] at f4
  have tr := fun X Y g f (hX : Below w.heap.size w X) (hW : AwW X l.length g f Y) => AwW.trans (w := w) hW hX
  have hn := val_len hk.1
  have hg := fun i (hi : i < l.length) => gd_sh hk (k + 1 : Nat) hi
  have hd := fun i (hi : i < l.length) => (hg i hi).2.1
  obtain ⟨Q, s, L, hK⟩ := keys_of (cm_sh hk (k + 1 : Nat)) hd
  have hx := fun i (hi : i < l.length) => hk.1.2 i hi
  have hsm := sm_b hk.1
  have he := hk.2
  have wa : ∀ X g, BlR X g l.length (shR l e (k + 1 : Nat)) → _ := fun X g hb => whole_any g l.length l.length (shR l e (k + 1 : Nat)) e s L X hn hb (fun i hi => by
      obtain ⟨⟨a, b⟩, cc, d⟩ := hg i hi
      have hxi := hx i hi
      unfold okC at hxi
      have : el l i * (shR l e (k + 1 : Nat) i).d ≤ 1000 * (shR l e (k + 1 : Nat) i).d := Int.mul_le_mul_of_nonneg_right hxi.2 (by omega)
      exact ⟨⟨a, by omega⟩, cc, d⟩) (by omega) (fun x y hx hy => hK.cmp hd hx hy) hK.left hK.le
  generalize l.length = n at *
  clear hn hsm he
  replace wa := Lib.hid wa
  replace hK := Lib.hid hK
  replace hg := Lib.hid hg
  replace hd := Lib.hid hd
  replace hx := Lib.hid hx
  replace tr := Lib.hid tr
  replace kc := Lib.hid kc
  replace h := Lib.hid h
  replace hh := Lib.hid hh
  replace hBB := Lib.hid hBB
  replace hk := Lib.hid hk
  replace f1 := Lib.hid f1
  replace f2 := Lib.hid f2
  replace f3 := Lib.hid f3
  replace f4 := Lib.hid f4
  unfold fnV at *
  rcases (show k = 0 ∨ k = 1 ∨ k = 2 ∨ k = 3 by omega) with rfl | rfl | rfl | rfl
  all_goals
    go_enter Try.func38, Try.ntmps38
    go_wp2_with fail
    refine kc.out.mono ?_
    rintro _ X ⟨rfl, hbX⟩
    have g1 := Lib.hid (f1.out X hbX)
    have g2 := Lib.hid (f2.out X hbX)
    have g3 := Lib.hid (f3.out X hbX)
    have g4 := Lib.hid (f4.out X hbX)
    replace hbX := Lib.hid hbX
    go_wp2_with fail
    first
    | with_reducible refine g1.out.mono ?_
    | with_reducible refine g2.out.mono ?_
    | with_reducible refine g3.out.mono ?_
    | with_reducible refine g4.out.mono ?_
    rintro _ X2 ⟨g, rfl, hW⟩
    have hw2 := tr.out X X2 g _ hbX.out hW
    have kw := Lib.hid (wa.out X2 g hW.blk)
    have hb2 := Lib.hid hw2.below
    clear hW hw2 g1 g2 g3 g4
    go_wp2_with fail
    refine kw.out.mono ?_
    rintro _ X3 ⟨g', σ, rfl, hb3, hbl, hI⟩
    have hfin := Lib.hid (And.intro (bel_trans hb2.out hb3) (And.intro hbl hI))
    clear hb3 hbl hI
    go_wp2
    exact bodyPost_ret (by simp [results, Try.results38, go_sem]) rfl ⟨g', Q, s, L, σ, rfl, hfin.out.1, hfin.out.2.1, hK.out, hfin.out.2.2⟩
set_option maxRecDepth 100000 in
set_option maxHeartbeats 4000000 in
theorem Least_ok (B : Nat) (A : Option Addr) (c : Nat) (l : List Int) (e : Int) (w : World) (h : Row w B A l) (hB : B ≤ w.heap.size) (hk : okE l e) (k : Nat) (hk1 : k < 4) :
    Calls Try.prog 36 #[.slice A l.length c, .int .i64 e, .int .i64 (k + 1 : Nat)] w fun r w' => r = .returned (.tuple #[.int .i64 (lsI (shR l e (k + 1 : Nat)) l.length : Nat), .int .i64 0]) ∧ Below w.heap.size w w' := by
  have kc := cRule_ok B A c l e w h hk k hk1
  have hh := fun X (hX : Below w.heap.size w X) => h.below (hX.mono hB)
  have hBB := fun X (hX : Below w.heap.size w X) => Nat.le_trans hB hX.size
  have f1 := fun X (hX : Below w.heap.size w X) => inProp_any B A c l e X (hh X hX) (hBB X hX) hk
  have f2 := fun X (hX : Below w.heap.size w X) => eqAw_any B A c l e X (hh X hX) (hBB X hX) hk
  have f3 := fun X (hX : Below w.heap.size w X) => eqLoss_any B A c l e X (hh X hX) (hBB X hX) hk
  have f4 := fun X (hX : Below w.heap.size w X) => old_any B A c l e X (hh X hX) (hBB X hX) hk
  rw [← shR1] at f1
  rw [← shR2] at f2
  rw [← shR3] at f3
  rw [← shR4] at f4
  have tr := fun X Y g f (hX : Below w.heap.size w X) (hW : AwW X l.length g f Y) => AwW.trans (w := w) hW hX
  have hn := val_len hk.1
  have hcr : crsR (shR l e (k + 1 : Nat)) l.length := fun i hi => by have := shR_b (q := (k + 1 : Nat)) hk.1 hk.2 hi; omega
  have la : ∀ X g, BlR X g l.length (shR l e (k + 1 : Nat)) → _ := fun X g hb => least_any g l.length l.length (shR l e (k + 1 : Nat)) X hn hb hcr
  generalize l.length = n at *
  clear hn hcr
  replace la := Lib.hid la
  replace tr := Lib.hid tr
  replace kc := Lib.hid kc
  replace h := Lib.hid h
  replace hh := Lib.hid hh
  replace hBB := Lib.hid hBB
  replace hk := Lib.hid hk
  replace f1 := Lib.hid f1
  replace f2 := Lib.hid f2
  replace f3 := Lib.hid f3
  replace f4 := Lib.hid f4
  unfold fnV at *
  rcases (show k = 0 ∨ k = 1 ∨ k = 2 ∨ k = 3 by omega) with rfl | rfl | rfl | rfl
  all_goals
    go_enter Try.func36, Try.ntmps36
    go_wp2_with fail
    refine kc.out.mono ?_
    rintro _ X ⟨rfl, hbX⟩
    have g1 := Lib.hid (f1.out X hbX)
    have g2 := Lib.hid (f2.out X hbX)
    have g3 := Lib.hid (f3.out X hbX)
    have g4 := Lib.hid (f4.out X hbX)
    replace hbX := Lib.hid hbX
    go_wp2_with fail
    first
    | with_reducible refine g1.out.mono ?_
    | with_reducible refine g2.out.mono ?_
    | with_reducible refine g3.out.mono ?_
    | with_reducible refine g4.out.mono ?_
    rintro _ X2 ⟨g, rfl, hW⟩
    have hw2 := tr.out X X2 g _ hbX.out hW
    have kw := Lib.hid (la.out X2 g hW.blk)
    have hb2 := Lib.hid hw2.below
    clear hW hw2 g1 g2 g3 g4
    go_wp2_with fail
    refine kw.out.mono ?_
    rintro _ X3 ⟨rfl, hb3⟩
    have hfin := Lib.hid (bel_trans hb2.out hb3)
    clear hb3
    go_wp2
    exact bodyPost_ret (by simp [results, Try.results36, go_sem]) rfl ⟨rfl, hfin.out⟩
set_option maxRecDepth 100000 in
set_option maxHeartbeats 2000000 in
theorem Whole_bad (B : Nat) (A : Option Addr) (c : Nat) (l : List Int) (e q : Int) (w : World) (h : Row w B A l) (hk : ¬ okS l e q) :
    Calls Try.prog 38 #[.slice A l.length c, .int .i64 e, .int .i64 q] w fun r w' => r = .returned (.tuple #[.slice none 0 0, .int .i64 (errS l e q)]) ∧ Below w.heap.size w w' := by
  have k1 := cRule_bad B A c l e q w h hk
  have hne := errS_ne hk
  generalize l.length = n at *
  generalize errS l e q = E at *
  have hn : (E != 0) = true := by simp; omega
  replace k1 := Lib.hid k1
  replace h := Lib.hid h
  replace hk := Lib.hid hk
  replace hne := Lib.hid hne
  go_enter Try.func38, Try.ntmps38
  go_wp2_with fail
  refine k1.out.mono ?_
  rintro _ X ⟨rfl, hb⟩
  replace hb := Lib.hid hb
  go_wp2
  go_ret2
  exact ⟨rfl, hb.out⟩
set_option maxRecDepth 100000 in
set_option maxHeartbeats 2000000 in
theorem Least_bad (B : Nat) (A : Option Addr) (c : Nat) (l : List Int) (e q : Int) (w : World) (h : Row w B A l) (hk : ¬ okS l e q) :
    Calls Try.prog 36 #[.slice A l.length c, .int .i64 e, .int .i64 q] w fun r w' => r = .returned (.tuple #[.int .i64 0, .int .i64 (errS l e q)]) ∧ Below w.heap.size w w' := by
  have k1 := cRule_bad B A c l e q w h hk
  have hne := errS_ne hk
  generalize l.length = n at *
  generalize errS l e q = E at *
  have hn : (E != 0) = true := by simp; omega
  replace k1 := Lib.hid k1
  replace h := Lib.hid h
  replace hk := Lib.hid hk
  replace hne := Lib.hid hne
  go_enter Try.func36, Try.ntmps36
  go_wp2_with fail
  refine k1.out.mono ?_
  rintro _ X ⟨rfl, hb⟩
  replace hb := Lib.hid hb
  go_wp2
  go_ret2
  exact ⟨rfl, hb.out⟩
end Go.Proofs.Ythleekdkbgnabaa
end

section
namespace Go.Proofs.Ythleekdkbgnabaa
open Go.RowKit Go.Deep M
set_option linter.unusedVariables false
set_option linter.unusedSimpArgs false
namespace M
/-- The rests when the first t have been given 1 more. -/
def rP (F : Nat → Rt) (σ : Nat → Nat) : Nat → Nat → Rt
  | 0 => rW F
  | t + 1 => fun i => if i = σ t then ⟨0, (F i).d⟩ else rP F σ t i
/-- Their keys. -/
def kP (s : Nat → Int) (σ : Nat → Nat) : Nat → Nat → Int
  | 0 => s
  | t + 1 => fun i => if i = σ t then 0 else kP s σ t i
/-- The first one of the greatest. -/
def mxI (f : Nat → Rt) : Nat → Nat
  | 0 => 0
  | k + 1 => if (f (mxI f k)).n * (f k).d < (f k).n * (f (mxI f k)).d then k else mxI f k
theorem mxI_lt {f : Nat → Rt} : ∀ k, 1 ≤ k → mxI f k < k := by
  intro k
  induction k with
  | zero => intro h; omega
  | succ k ih =>
    intro _
    by_cases h0 : k = 0
    · subst h0; simp [mxI]
    · have := ih (by omega); simp only [mxI]; split <;> omega
theorem rP_d (F : Nat → Rt) (σ : Nat → Nat) (t i : Nat) : (rP F σ t i).d = (F i).d := by
  induction t with
  | zero => rfl
  | succ t ih => simp only [rP]; split <;> first | rfl | exact ih
theorem kP_val {n : Nat} {e : Int} {F : Nat → Rt} {Q : Int} {s : Nat → Int} {L : Nat} {σ : Nat → Nat} (h : Keys n e F Q s L) (t : Nat) {i : Nat} (hi : i < n) : (rP F σ t i).n * Q = kP s σ t i * (F i).d := by
  induction t with
  | zero => exact h.val i hi
  | succ t ih =>
    simp only [rP, kP]
    by_cases e : i = σ t
    · rw [if_pos e, if_pos e]; simp
    · rw [if_neg e, if_neg e]; exact ih
theorem kP_at {s : Nat → Int} {σ : Nat → Nat} : ∀ (t i : Nat), ((∃ j, j < t ∧ σ j = i) ∧ kP s σ t i = 0) ∨ ((¬ ∃ j, j < t ∧ σ j = i) ∧ kP s σ t i = s i) := by
  intro t
  induction t with
  | zero => intro i; exact .inr ⟨fun ⟨j, h, _⟩ => absurd h (Nat.not_lt_zero _), rfl⟩
  | succ t ih =>
    intro i
    simp only [kP]
    by_cases e : i = σ t
    · rw [if_pos e]; exact .inl ⟨⟨t, by omega, e.symm⟩, rfl⟩
    · rw [if_neg e]
      rcases ih i with ⟨⟨j, hj, he⟩, h⟩ | ⟨hn, h⟩
      · exact .inl ⟨⟨j, by omega, he⟩, h⟩
      · refine .inr ⟨fun ⟨j, hj, he⟩ => ?_, h⟩
        rcases Nat.lt_succ_iff_lt_or_eq.1 hj with h' | rfl
        · exact hn ⟨j, h', he⟩
        · exact e he.symm
theorem rP_cmp {n : Nat} {e : Int} {F : Nat → Rt} {Q : Int} {s : Nat → Int} {L : Nat} {σ : Nat → Nat} (h : Keys n e F Q s L) (hd : ∀ i, i < n → 1 ≤ (F i).d) (t : Nat) {x y : Nat} (hx : x < n) (hy : y < n) :
    (rP F σ t x).n * (rP F σ t y).d < (rP F σ t y).n * (rP F σ t x).d ↔ kP s σ t x < kP s σ t y := by
  have vx := kP_val (σ := σ) h t hx
  have vy := kP_val (σ := σ) h t hy
  have dx := hd x hx
  have dy := hd y hy
  have hQ := h.q1
  rw [rP_d, rP_d]
  generalize (rP F σ t x).n = a at *
  generalize (rP F σ t y).n = b at *
  generalize (F x).d = c at *
  generalize (F y).d = d at *
  generalize kP s σ t x = u at *
  generalize kP s σ t y = v at *
  have k1 : (a * d) * Q = u * (c * d) := by grind
  have k2 : (b * c) * Q = v * (c * d) := by grind
  have hcd : 0 < c * d := Int.mul_pos (by omega) (by omega)
  constructor
  · intro hlt
    have := Int.mul_lt_mul_of_pos_right hlt (show 0 < Q by omega)
    rw [k1, k2] at this
    exact Int.lt_of_mul_lt_mul_right this (by omega)
  · intro hlt
    have := Int.mul_lt_mul_of_pos_right hlt hcd
    rw [← k1, ← k2] at this
    exact Int.lt_of_mul_lt_mul_right this (by omega)
/-- The first greatest one, by keys. -/
theorem mxI_key {f : Nat → Rt} {key : Nat → Int} {n : Nat} (hc : ∀ x y, x < n → y < n → ((f x).n * (f y).d < (f y).n * (f x).d ↔ key x < key y)) :
    ∀ k, 1 ≤ k → k ≤ n → ∀ i, i < k → key i ≤ key (mxI f k) ∧ (i < mxI f k → key i < key (mxI f k)) := by
  intro k
  induction k with
  | zero => intro h; omega
  | succ k ih =>
    intro _ hk i hi
    by_cases h0 : k = 0
    · subst h0
      have : i = 0 := by omega
      subst this
      simp [mxI]
    · have hlt := mxI_lt (f := f) k (by omega)
      have hcc := hc (mxI f k) k (by omega) (by omega)
      simp only [mxI]
      by_cases hb : (f (mxI f k)).n * (f k).d < (f k).n * (f (mxI f k)).d
      · rw [if_pos hb]
        have hb' := hcc.1 hb
        rcases Nat.lt_succ_iff_lt_or_eq.1 hi with h | rfl
        · have := (ih (by omega) (by omega) i h).1
          exact ⟨by omega, fun _ => by omega⟩
        · exact ⟨Int.le_refl _, fun h => by omega⟩
      · rw [if_neg hb]
        have hb' : ¬ key (mxI f k) < key k := fun hh => hb (hcc.2 hh)
        rcases Nat.lt_succ_iff_lt_or_eq.1 hi with h | rfl
        · exact ih (by omega) (by omega) i h
        · exact ⟨by omega, fun h => by omega⟩
/-- Each of the first L has a rest. -/
theorem keys_pos {n : Nat} {e : Int} {F : Nat → Rt} {Q : Int} {s : Nat → Int} {L : Nat} {σ : Nat → Nat} (h : Keys n e F Q s L) (hI : InsI s n n σ) : ∀ k, k < L → 1 ≤ s (σ k) := fun k hk => by
  have hσ := hI.low
  have hinj : ∀ a b, a < b → b < n → σ a ≠ σ b := fun a b hab hb => (hI.srt a b hab hb).ne
  have hle := h.le
  refine Classical.byContradiction fun hc => ?_
  have hz : s (σ k) ≤ 0 := by omega
  have h1 := wM_perm s hσ hinj
  rw [h.tot] at h1
  have h2 : suM (fun j => s (σ j)) n ≤ suM (fun j => if j < k then Q else 0) n := wM_le _ fun j hj => by
    split
    · exact Int.le_of_lt (h.rng _ (hσ j hj)).2
    · rename_i hjk
      by_cases e : j = k
      · subst e; exact hz
      · have := hI.srt k j (by omega) hj
        unfold LtS at this
        omega
  have h3 : ∀ m : Nat, suM (fun j => if j < k then Q else 0) m = (min m k : Nat) * Q := by
    intro m
    induction m with
    | zero => simp [suM]
    | succ m ih =>
      simp only [suM]
      rw [ih]
      by_cases hm : m < k
      · rw [if_pos hm, Nat.min_eq_left (by omega), Nat.min_eq_left (by omega)]; push_cast; grind
      · rw [if_neg hm, Nat.min_eq_right (by omega), Nat.min_eq_right (by omega)]; omega
  rw [h3, Nat.min_eq_right (by omega), h1] at h2
  have hQ := h.q1
  have := Int.le_of_mul_le_mul_right h2 (show 0 < Q by omega)
  omega
/-- The one that is picked behind t others is the next one in order. -/
theorem pick_eq {n : Nat} {e : Int} {F : Nat → Rt} {Q : Int} {s : Nat → Int} {L : Nat} {σ : Nat → Nat} (h : Keys n e F Q s L) (hd : ∀ i, i < n → 1 ≤ (F i).d) (hI : InsI s n n σ) {t : Nat} (ht : t < L) : mxI (rP F σ t) n = σ t := by
  have hle := h.le
  have hinj : ∀ a b, a < b → b < n → σ a ≠ σ b := fun a b hab hb => (hI.srt a b hab hb).ne
  have hmet := met hI.low hinj
  have hp := keys_pos h hI t ht
  have hσt := hI.low t (by omega)
  have hspec := mxI_key (f := rP F σ t) (key := kP s σ t) (fun x y hx hy => rP_cmp (σ := σ) h hd t hx hy) n (by omega) (Nat.le_refl _)
  have hm := mxI_lt (f := rP F σ t) n (by omega)
  have htk : kP s σ t (σ t) = s (σ t) := by
    rcases kP_at (s := s) (σ := σ) t (σ t) with ⟨⟨j, hj, he⟩, _⟩ | ⟨_, hv⟩
    · exact absurd he (hinj j t hj (by omega))
    · exact hv
  have hown : ∀ i, i < n → i ≠ σ t → kP s σ t i < s (σ t) ∨ (kP s σ t i = s (σ t) ∧ σ t < i) := fun i hi hne => by
    rcases kP_at (s := s) (σ := σ) t i with ⟨_, hv⟩ | ⟨hn, hv⟩
    · rw [hv]; left; omega
    · obtain ⟨j, hj, he⟩ := hmet i hi
      have htj : t < j := by
        rcases Nat.lt_trichotomy j t with h1 | h1 | h1
        · exact absurd ⟨j, h1, he⟩ hn
        · subst h1; exact absurd he.symm hne
        · exact h1
      have := hI.srt t j htj hj
      rw [he] at this
      unfold LtS at this
      rw [hv]
      omega
  refine Classical.byContradiction fun hc => ?_
  obtain ⟨a1, a2⟩ := hspec (σ t) hσt
  rw [htk] at a1 a2
  rcases hown _ hm hc with h1 | ⟨h1, h2⟩
  · omega
  · have := a2 h2
    omega
end M
end Go.Proofs.Ythleekdkbgnabaa
end

section
namespace Go.Proofs.Ythleekdkbgnabaa
open Go.RowKit Go.Deep M
set_option linter.unusedVariables false
set_option linter.unusedSimpArgs false
set_option maxRecDepth 100000 in
set_option maxHeartbeats 4000000 in
theorem Least_ref (B : Nat) (A : Option Addr) (c : Nat) (l : List Int) (e q : Int) (w : World) (h : Row w B A l) (hB : B ≤ w.heap.size) :
    Calls Try.prog 37 #[.slice A l.length c, .int .i64 e, .int .i64 q] w fun r w' => r = .returned (.tuple #[.int .i64 (lsI (shR l e q) (shN l e q) : Nat), .int .i64 (errS l e q)]) ∧ Below w.heap.size w w' := by
  have k1 := Share_ref B A c l e q w h hB
  unfold ShR at k1
  have hcr : crsR (shR l e q) (shN l e q) := fun i hi => by
    by_cases hk : okS l e q
    · rw [shN_ok hk] at hi
      have := shR_b (q := q) hk.1.1 hk.1.2 hi; omega
    · rw [shN_bad hk] at hi; omega
  have hN8 : shN l e q ≤ 8 := by
    by_cases hk : okS l e q
    · rw [shN_ok hk]; exact hk.1.1.1.2
    · rw [shN_bad hk]; omega
  generalize shR l e q = F at *
  generalize shN l e q = n at *
  generalize errS l e q = E at *
  generalize l.length = ln at *
  have kk : ∀ i j, i < n → j < n → ∀ X, Calls Try.prog 74 #[rtV (F i), rtV (F j)] X fun e w' => e = .returned (.bool (decide ((F i).n * (F j).d < (F j).n * (F i).d))) ∧ Below X.heap.size X w' := fun i j hi hj X =>
    Below_ref (F i) (F j) X (crs_fit (hcr i hi) (hcr j hj)).1 (crs_fit (hcr i hi) (hcr j hj)).2
  have hls := fun k (h : 1 ≤ k) => lsI_lt (f := F) k h
  have hsu := fun k => (show lsI F (k + 1) = if (F k).n * (F (lsI F k)).d < (F (lsI F k)).n * (F k).d then k else lsI F k from rfl)
  have hz : lsI F 0 = 0 := rfl
  unfold rtV at kk
  replace kk := Lib.hid kk
  replace hls := Lib.hid hls
  replace hsu := Lib.hid hsu
  replace hz := Lib.hid hz
  replace hcr := Lib.hid hcr
  replace k1 := Lib.hid k1
  replace h := Lib.hid h
  go_enter Try.func37, Try.ntmps37
  go_wp2_with fail
  refine k1.out.mono ?_
  rintro _ X ⟨A', N, cp, rfl, hbX, hN, hf⟩
  subst hN
  have hup := fun Z (hZ : Below X.heap.size X Z) => bel_trans hbX hZ
  replace hup := Lib.hid hup
  replace hbX := Lib.hid hbX
  go_wp2
  go_loopw [11, 10] (fun iv fv wr => ∃ i : Nat, i ≤ N ∧ iv = .int .i64 (i : Nat) ∧ fv = .int .i64 (lsI F i : Nat) ∧ Below X.heap.size X wr) (fun iv _ _ => N - (intOf iv).toNat)
  case atStart => exact ⟨0, by omega, rfl, by rw [hz.out]; rfl, Below.refl _ _⟩
  case round =>
    obtain ⟨i, hi, rfl, rfl, hX⟩ := hrel
    by_cases hin : i < N
    · have hini : (i : Int) < (N : Int) := by omega
      have hjn : lsI F i < N := by
        by_cases h0 : i = 0
        · subst h0; rw [hz.out]; omega
        · have := hls.out i (by omega); omega
      obtain ⟨g, rfl, hbl⟩ := hf (by omega)
      have hk := fun X => kk.out i (lsI F i) hin hjn X
      have hsi := hsu.out i
      have hS : ∀ Z, Below wr.heap.size wr Z → Z.cell? ⟨g, i * 2, none⟩ = some (.int .i64 (F i).n) ∧ Z.cell? ⟨g, i * 2 + 1, none⟩ = some (.int .i64 (F i).d) ∧ Z.cell? ⟨g, lsI F i * 2, none⟩ = some (.int .i64 (F (lsI F i)).n) ∧ Z.cell? ⟨g, lsI F i * 2 + 1, none⟩ = some (.int .i64 (F (lsI F i)).d) := fun Z hZ => by
        have u := hbl.up (bel_trans hX hZ)
        exact ⟨u.c0 hin, u.c1 hin, u.c0 hjn, u.c1 hjn⟩
      have hup2 := fun Z (hZ : Below wr.heap.size wr Z) => bel_trans hX hZ
      obtain ⟨j, hj⟩ : ∃ j, j = lsI F i := ⟨_, rfl⟩
      rw [← hj] at hk hsi hS hjn ⊢
      have hjI : (j : Int) < (N : Int) := by omega
      generalize (F i).n * (F j).d = P1 at *
      generalize (F j).n * (F i).d = P2 at *
      generalize (F i).n = an at *
      generalize (F i).d = ad at *
      generalize (F j).n = bn at *
      generalize (F j).d = bd at *
      have h0 : Below wr.heap.size wr wr.drew := below_drewN (Below.refl _ _) 1
      have t0 := hS _ h0
      replace hj := Lib.hid hj
      replace hS := Lib.hid hS
      replace hup2 := Lib.hid hup2
      replace hX := Lib.hid hX
      replace hbl := Lib.hid hbl
      replace hf := Lib.hid hf
      by_cases hlt : P1 < P2
      · rw [if_pos hlt] at hsi
        rw [decide_eq_true hlt] at hk
        replace hk := Lib.hid hk
        replace hsi := Lib.hid hsi
        replace hlt := Lib.hid hlt
        go_wp2
        go_region_held3 (fun Z => Z.cell? ⟨g, i * 2, none⟩ = some (.int .i64 an) ∧ Z.cell? ⟨g, i * 2 + 1, none⟩ = some (.int .i64 ad) ∧ Z.cell? ⟨g, j * 2, none⟩ = some (.int .i64 bn) ∧ Z.cell? ⟨g, j * 2 + 1, none⟩ = some (.int .i64 bd)) (first | with_reducible exact t0 | with_reducible exact hS.out _ (by assumption)) ((go_at_call 74; refine (hk.out _).mono ?_; rintro _ Z1 ⟨rfl, hz1⟩; have hz2 := bel_trans h0 hz1))
        all_goals
          have hfin := Lib.hid (hup2.out _ hz2)
          replace hz2 := Lib.hid hz2
          go_wp2
          go_roundw
          case rel => exact ⟨i + 1, by omega, by go_num, by rw [hsi.out], hfin.out⟩
          case measure => simp [intOf]; omega
      · rw [if_neg hlt] at hsi
        rw [decide_eq_false hlt] at hk
        replace hk := Lib.hid hk
        replace hsi := Lib.hid hsi
        replace hlt := Lib.hid hlt
        go_wp2
        go_region_held3 (fun Z => Z.cell? ⟨g, i * 2, none⟩ = some (.int .i64 an) ∧ Z.cell? ⟨g, i * 2 + 1, none⟩ = some (.int .i64 ad) ∧ Z.cell? ⟨g, j * 2, none⟩ = some (.int .i64 bn) ∧ Z.cell? ⟨g, j * 2 + 1, none⟩ = some (.int .i64 bd)) (first | with_reducible exact t0 | with_reducible exact hS.out _ (by assumption)) ((go_at_call 74; refine (hk.out _).mono ?_; rintro _ Z1 ⟨rfl, hz1⟩; have hz2 := bel_trans h0 hz1))
        all_goals
          have hfin := Lib.hid (hup2.out _ hz2)
          replace hz2 := Lib.hid hz2
          go_wp2
          go_roundw
          case rel => exact ⟨i + 1, by omega, by go_num, by rw [hsi.out], hfin.out⟩
          case measure => simp [intOf]; omega
    · have : N = i := by omega
      subst this
      have hfin := Lib.hid (hup.out _ hX)
      replace hX := Lib.hid hX
      replace hf := Lib.hid hf
      go_wp2
      go_ret2
      exact ⟨rfl, hfin.out⟩
end Go.Proofs.Ythleekdkbgnabaa
end

section
namespace Go.Proofs.Ythleekdkbgnabaa
open Go.RowKit Go.Deep M
set_option linter.unusedVariables false
set_option linter.unusedSimpArgs false
set_option maxRecDepth 100000 in
set_option maxHeartbeats 2000000 in
theorem Share_new (B : Nat) (A : Option Addr) (c : Nat) (l : List Int) (e q : Int) (w : World) (h : Row w B A l) (hB : B ≤ w.heap.size) (hk : okS l e q) :
    Calls Try.prog 20 #[.slice A l.length c, .int .i64 e, .int .i64 q] w fun r w' => ∃ g cp, r = .returned (.tuple #[.slice (some ⟨g, 0, none⟩) l.length cp, .int .i64 0]) ∧ AwW w l.length g (shR l e q) w' := by
  have k1 := ruled_any B A c l e q w h
  obtain ⟨k, hk4, rfl⟩ := okS_nat hk
  rw [errS_ok hk] at k1
  have k2 := share_ref B A c l e w h hB hk.1 k hk4
  unfold ShP at k2
  generalize shR l e (k + 1 : Nat) = F at *
  generalize l.length = n at *
  obtain ⟨q, hq⟩ : ∃ q : Int, q = (k + 1 : Nat) := ⟨_, rfl⟩
  rw [← hq] at k1 k2 ⊢
  replace hq := Lib.hid hq
  replace k1 := Lib.hid k1
  replace k2 := Lib.hid k2
  replace h := Lib.hid h
  replace hk := Lib.hid hk
  go_enter Try.func20, Try.ntmps20
  go_wp2_with fail
  refine k1.out.mono ?_
  rintro _ X ⟨rfl, rfl⟩
  go_wp2_with fail
  refine k2.out.mono ?_
  rintro _ X1 ⟨g, cp, rfl, hW⟩
  replace hW := Lib.hid hW
  go_wp2
  go_ret2
  exact ⟨_, _, rfl, hW.out⟩
namespace M
/-- The first i are rests. -/
def upM (i : Nat) (F : Nat → Rt) (k : Nat) : Rt := if k < i then rW F k else F k
theorem upM_succ (i : Nat) (F : Nat → Rt) (k : Nat) : (if k = i then rW F i else upM i F k) = upM (i + 1) F k := by
  unfold upM
  by_cases e : k = i
  · subst e; simp
  · rw [if_neg e]
    by_cases h : k < i
    · rw [if_pos h, if_pos (by omega)]
    · rw [if_neg h, if_neg (by omega)]
def qL (F : Nat → Rt) (i : Nat) : List Int := (List.range i).map (qW F)
theorem qL_len (F : Nat → Rt) (i : Nat) : (qL F i).length = i := by simp [qL]
theorem qL_snoc (F : Nat → Rt) (i : Nat) : vals (qL F (i + 1)) = vals (qL F i) ++ [.int .i64 (qW F i)] := by
  have : qL F (i + 1) = qL F i ++ [qW F i] := by simp [qL, List.range_succ]
  rw [this, vals_app]; rfl
theorem qL_at (F : Nat → Rt) (n i : Nat) (h : i < n) : el (qL F n) i = qW F i := by rw [el_eq _ _ (by rw [qL_len]; exact h)]; simp [qL]
end M
theorem BlR.setn {w : World} {g n j : Nat} {f : Nat → Rt} (h : BlR w g n f) (hj : j < n) (x : Int) : BlR (w.setCell ⟨g, j * 2, none⟩ (.int .i64 x)) g n (fun i => if i = j then ⟨x, (f j).d⟩ else f i) := by
  obtain ⟨cs, h1, h2⟩ := h
  have hj0 : j * 2 < cs.size := (Array.getElem?_eq_some_iff.1 (h2 j hj).1).1
  refine ⟨cs.setIfInBounds (j * 2) (.int .i64 x), by simp [World.setCell, Array.getElem?_modify, h1], fun i hi => ?_⟩
  simp only [Array.getElem?_setIfInBounds]
  by_cases e : i = j
  · subst e
    have a1 : ¬ i * 2 = i * 2 + 1 := by omega
    simp [hj0, (h2 i hi).2]
  · have a2 : ¬ j * 2 = i * 2 := by omega
    have a4 : ¬ j * 2 = i * 2 + 1 := by omega
    rw [if_neg a2, if_neg a4, if_neg e]
    exact h2 i hi
set_option maxRecDepth 100000 in
set_option maxHeartbeats 8000000 in
theorem Whole_ref (B : Nat) (A : Option Addr) (c : Nat) (l : List Int) (e q : Int) (Q : Int) (s : Nat → Int) (L : Nat) (σ : Nat → Nat) (w : World) (h : Row w B A l) (hB : B ≤ w.heap.size) (hk : okS l e q)
    (hK : Keys l.length e (shR l e q) Q s L) (hI : InsI s l.length l.length σ) :
    Calls Try.prog 39 #[.slice A l.length c, .int .i64 e, .int .i64 q] w fun r w' => ∃ g cp, r = .returned (.tuple #[.slice (some ⟨g, 0, none⟩) l.length cp, .int .i64 0]) ∧ Below w.heap.size w w' ∧ BlI w' g l.length (addW (qW (shR l e q)) σ L) := by
  obtain ⟨i3, ji, jz0, jz1, jz2⟩ := info_parts info3
  replace ji := Lib.hid ji
  replace jz0 := Lib.hid jz0
  replace jz1 := Lib.hid jz1
  replace jz2 := Lib.hid jz2
  have k1 := Share_new B A c l e q w h hB hk
  have hn := val_len hk.1.1
  have hF : ∀ i, i < l.length → (0 ≤ (shR l e q i).n ∧ (shR l e q i).n ≤ 1000 * (shR l e q i).d) ∧ 1 ≤ (shR l e q i).d ∧ (shR l e q i).d ≤ 10000 := fun i hi => by
    obtain ⟨⟨a, b⟩, cc, d⟩ := gd_sh hk.1 q hi
    have hxi := hk.1.1.2 i hi
    unfold okC at hxi
    have : el l i * (shR l e q i).d ≤ 1000 * (shR l e q i).d := Int.mul_le_mul_of_nonneg_right hxi.2 (by omega)
    exact ⟨⟨a, by omega⟩, cc, d⟩
  have he : 0 ≤ e ∧ e ≤ 8000 := by have := hk.1.2; have := sm_b hk.1.1; omega
  generalize shR l e q = F at *
  generalize l.length = n at *
  have hd := fun i (hi : i < n) => (hF i hi).2.1
  have hq : ∀ i, i < n → 0 ≤ qW F i ∧ qW F i ≤ 1000 := fun i hi => by
    obtain ⟨⟨a, b⟩, c, d⟩ := hF i hi
    unfold qW
    refine ⟨Int.ediv_nonneg a (by omega), ?_⟩
    have := Int.ediv_le_ediv (c := (F i).d) (by omega) b
    rw [Int.mul_ediv_cancel _ (by omega)] at this
    exact this
  have hqr : ∀ i, i < n → (F i).n.tdiv (F i).d = qW F i ∧ (F i).n.tmod (F i).d = (rW F i).n ∧ (0 ≤ (rW F i).n ∧ (rW F i).n < (F i).d) := fun i hi => by
    obtain ⟨⟨a, b⟩, c, d⟩ := hF i hi
    exact ⟨Int.tdiv_eq_ediv_of_nonneg a, Int.tmod_eq_emod_of_nonneg a, Int.emod_nonneg _ (by omega), Int.emod_lt_of_pos _ (by omega)⟩
  have hpick := fun t (ht : t < L) => pick_eq hK hd hI ht
  have hσ := hI.low
  have hwb := addW_b hq hσ
  have hLn := hK.le
  have hleft := hK.left
  have hrb : ∀ t i, i < n → (-100000000 ≤ (rP F σ t i).n ∧ (rP F σ t i).n ≤ 100000000) ∧ 1 ≤ (rP F σ t i).d ∧ (rP F σ t i).d ≤ 100000000 := fun t i hi => by
    rw [rP_d]
    have := hF i hi
    have h2 := (hqr i hi).2.2
    induction t with
    | zero => simp only [rP]; omega
    | succ t ih => simp only [rP]; split <;> first | omega | (simp only; omega)
  have kk : ∀ t i j, i < n → j < n → ∀ X, Calls Try.prog 74 #[rtV (rP F σ t i), rtV (rP F σ t j)] X fun e w' => e = .returned (.bool (decide ((rP F σ t i).n * (rP F σ t j).d < (rP F σ t j).n * (rP F σ t i).d))) ∧ Below X.heap.size X w' := fun t i j hi hj X =>
    Below_ref _ _ X (crs_fit (hrb t i hi) (hrb t j hj)).1 (crs_fit (hrb t i hi) (hrb t j hj)).2
  unfold rtV at kk
  have kT : ∀ X g cp, BlI X g n (qW F) → Calls Try.prog 51 #[.slice (some ⟨g, 0, none⟩) n cp] X fun r w' => r = .returned (.int .i64 (suM (qW F) n)) ∧ w' = X := fun X g cp hX => by
    have q := Total_ref X.heap.size (some ⟨g, 0, none⟩) cp (liF (qW F) n) X (row_blk hX (by omega)) (by rw [liF_len]; exact fun i hi => by rw [liF_at _ _ _ hi]; exact hq i hi) (by rw [liF_len]; omega)
    rw [liF_len, liF_sm] at q
    exact q
  have hmz : ∀ t, mxI (rP F σ t) 0 = 0 := fun t => rfl
  have hms := fun t k => (show mxI (rP F σ t) (k + 1) = if (rP F σ t (mxI (rP F σ t) k)).n * (rP F σ t k).d < (rP F σ t k).n * (rP F σ t (mxI (rP F σ t) k)).d then k else mxI (rP F σ t) k from rfl)
  have hml := fun t k (h : 1 ≤ k) => mxI_lt (f := rP F σ t) k h
  have haS := fun k => (show addW (qW F) σ (k + 1) = fun i => if i = σ k then addW (qW F) σ k (σ k) + 1 else addW (qW F) σ k i from rfl)
  have hrS := fun t => (show rP F σ (t + 1) = fun i => if i = σ t then ⟨0, (F i).d⟩ else rP F σ t i from rfl)
  have hsub : IntKind.i64.wrap (e - suM (qW F) n) = (L : Int) := by rw [hleft]; exact IntWalk.i64_in _ (by omega)
  clear hrb hd
  replace k1 := Lib.hid k1
  replace hF := Lib.hid hF
  replace hq := Lib.hid hq
  replace hqr := Lib.hid hqr
  replace hpick := Lib.hid hpick
  replace hσ := Lib.hid hσ
  replace hwb := Lib.hid hwb
  replace hleft := Lib.hid hleft
  replace kk := Lib.hid kk
  replace kT := Lib.hid kT
  replace hmz := Lib.hid hmz
  replace hms := Lib.hid hms
  replace hml := Lib.hid hml
  replace haS := Lib.hid haS
  replace hrS := Lib.hid hrS
  replace h := Lib.hid h
  replace hk := Lib.hid hk
  replace hK := Lib.hid hK
  replace hI := Lib.hid hI
  replace hB := Lib.hid hB
  obtain ⟨hn1, hn8⟩ := hn
  go_enter Try.func39, Try.ntmps39
  go_wp2_with fail
  refine k1.out.mono ?_
  rintro _ X ⟨gl, cp, rfl, hW⟩
  have hge := hW.ge
  have hbX := hW.below
  have hlt := hW.blk.lt
  have hst := Lib.hid (And.intro hW.below (And.intro (Nat.le_refl X.heap.size) (And.intro (hW.blk.congr (f' := upM 0 F) (fun i _ => by simp [upM])) (show X.ownsRow X.heap.size 3 1 (.slice none 0 0) 0 (vals (qL F 0)) from ⟨rfl, .inl ⟨rfl, rfl⟩⟩))))
  replace hW := Lib.hid hW
  replace hbX := Lib.hid hbX
  go_wp2
  go_loopw [11, 10] (fun iv v wr => ∃ i : Nat, i ≤ n ∧ iv = .int .i64 (i : Nat) ∧ Below w.heap.size w wr ∧ X.heap.size ≤ wr.heap.size ∧ BlR wr gl n (upM i F) ∧ wr.ownsRow X.heap.size 3 1 v i (vals (qL F i))) (fun iv _ _ => n - (intOf iv).toNat)
  case atStart => exact ⟨0, by omega, rfl, hst.out⟩
  case round =>
    clear hst
    obtain ⟨i, hi, rfl, hX, hsz, hbl, hown⟩ := hrel
    by_cases hin : i < n
    · have hini : (i : Int) < (n : Int) := by omega
      obtain ⟨q1, q2, q4, q5⟩ := hqr.out i hin
      have hqi := hq.out i hin
      have hFi := hF.out i hin
      have hui : upM i F i = F i := by unfold upM; rw [if_neg (by omega)]
      have hS : ∀ Z, Below wr.heap.size wr Z → Z.cell? ⟨gl, i * 2, none⟩ = some (.int .i64 (F i).n) ∧ Z.cell? ⟨gl, i * 2 + 1, none⟩ = some (.int .i64 (F i).d) := fun Z hZ => by
        have u := hbl.up hZ
        have a := u.c0 hin
        have b := u.c1 hin
        rw [hui] at a b
        exact ⟨a, b⟩
      have hq0 : ∃ qv, qv = qW F i := ⟨_, rfl⟩
      obtain ⟨qv, hqv⟩ := hq0
      obtain ⟨rv, hrv⟩ : ∃ r, r = (rW F i).n := ⟨_, rfl⟩
      rw [← hqv] at q1 hqi
      rw [← hrv] at q2 q4 q5
      have hb1 : Below wr.heap.size wr (wr.alloc (.cells #[.int .i64 qv] 3)).drew := below_drewN (ba1 wr _) 1
      have own1 : (wr.alloc (.cells #[.int .i64 qv] 3)).drew.ownsRow X.heap.size 3 1 u10 i (vals (qL F i)) := own_up hown hb1
      have nw1 : ∀ j u, [Value.int .i64 qv][j]? = some u → (wr.alloc (.cells #[.int .i64 qv] 3)).drew.cell? ((⟨wr.heap.size, 0, none⟩ : Addr).add j) = some u := one_new wr qv
      have sz1 : X.heap.size ≤ (wr.alloc (.cells #[.int .i64 qv] 3)).drew.heap.size := Nat.le_trans hsz hb1.size
      have rest : ∀ g cap w1, w1.ownsRow X.heap.size 3 1 (.slice (some ⟨g, 0, none⟩) (i + 1) cap) (i + 1) (vals (qL F i) ++ [.int .i64 qv]) → (wr.alloc (.cells #[.int .i64 qv] 3)).drew.grownBy w1 u10.ownBlock →
          (w1.cell? ⟨gl, i * 2, none⟩ = some (.int .i64 (F i).n) ∧ w1.cell? ⟨gl, i * 2 + 1, none⟩ = some (.int .i64 (F i).d)) ∧ Below w.heap.size w w1 ∧ X.heap.size ≤ w1.heap.size ∧ BlR w1 gl n (upM i F) ∧ w1.ownsRow X.heap.size 3 1 (.slice (some ⟨g, 0, none⟩) (i + 1) cap) (i + 1) (vals (qL F (i + 1))) := fun g cap w1 ho hg => by
        have hbw : Below X.heap.size (wr.alloc (.cells #[.int .i64 qv] 3)).drew w1 := below_grown hg sz1 (fun x hx => (own1.lt x hx).1)
        have hbl1 : BlR w1 gl n (upM i F) := (hbl.up hb1).to (hbw.block gl hlt)
        have hww : Below w.heap.size w w1 := (bel_trans hX hb1).trans (hbw.mono hbX.out.size)
        have a := hbl1.c0 hin
        have b := hbl1.c1 hin
        rw [hui] at a b
        exact ⟨⟨a, b⟩, hww, Nat.le_trans sz1 hbw.size, hbl1, by rw [qL_snoc, ← hqv]; exact ho⟩
      have k0 := hS wr.drew (below_drewN (Below.refl _ _) 1)
      have k2 := hS _ hb1
      obtain ⟨N, hN⟩ : ∃ N, N = (F i).n := ⟨_, rfl⟩
      obtain ⟨D, hD⟩ : ∃ D, D = (F i).d := ⟨_, rfl⟩
      rw [← hN] at k0 k2 rest q1 q2 hFi
      rw [← hD] at k0 k2 rest q1 q2 q5 hFi
      have hD1 : ¬ D = 0 := by omega
      have hD2 : 1 ≤ D := by omega
      have w5 : IntKind.i64.wrap qv = qv := IntWalk.i64_in _ (by omega)
      have w6 : IntKind.i64.wrap rv = rv := IntWalk.i64_in _ (by omega)
      replace hS := Lib.hid hS
      replace rest := Lib.hid rest
      replace hX := Lib.hid hX
      replace hbl := Lib.hid hbl
      replace hown := Lib.hid hown
      replace hqv := Lib.hid hqv
      replace hrv := Lib.hid hrv
      replace hN := Lib.hid hN
      replace hD := Lib.hid hD
      replace hui := Lib.hid hui
      replace own1 := Lib.hid own1
      replace nw1 := Lib.hid nw1
      replace sz1 := Lib.hid sz1
      replace hb1 := Lib.hid hb1
      go_upto_region 8 with fail
      go_cut [10] from 31 to 44 (fun v wx => ∃ (g : Nat) (cap : Nat), v = .slice (some ⟨g, 0, none⟩) (i + 1) cap ∧ (wx.cell? ⟨gl, i * 2, none⟩ = some (.int .i64 N) ∧ wx.cell? ⟨gl, i * 2 + 1, none⟩ = some (.int .i64 D)) ∧ Below w.heap.size w wx ∧ X.heap.size ≤ wx.heap.size ∧ BlR wx gl n (upM i F) ∧ wx.ownsRow X.heap.size 3 1 (.slice (some ⟨g, 0, none⟩) (i + 1) cap) (i + 1) (vals (qL F (i + 1))))
      case first =>
        go_region_held3 (fun Z => Z.cell? ⟨gl, i * 2, none⟩ = some (.int .i64 N) ∧ Z.cell? ⟨gl, i * 2 + 1, none⟩ = some (.int .i64 D))
          (first | with_reducible exact k0 | with_reducible exact k2 | with_reducible exact k3)
          (first
            | (refine step_append_lies _ rfl (.tmp 31) (.tmp 43) 22 rfl X.heap.size 3 i3 (.int .i64 0) 1 8 Try.underlying22 ji.out jz0.out jz1.out jz2.out rfl (by decide) _ i _ rfl own1.out ⟨wr.heap.size, 0, none⟩ 1 1 [.int .i64 qv] rfl rfl nw1.out (fun u hu => by cases List.mem_singleton.1 hu; rfl) (by omega) (by unfold maxLen; omega) (by omega) sz1.out _ rfl ?_; intro g cap w1 hown1 hgrow hat1 hlt1; obtain ⟨k3, z3, z4, z5, z6⟩ := rest.out g cap w1 hown1 hgrow; clear hown1 hgrow hat1 hlt1))
        have hfin := Lib.hid (And.intro k3 (And.intro z3 (And.intro z4 (And.intro z5 z6))))
        go_wp2_with fail
        go_meet
        exact ⟨g, cap, rfl, hfin.out⟩
      case rest =>
      obtain ⟨g, cap, rfl, k3, z3, z4, z5, z6⟩ := hcut
      clear k0 k2
      have c5 := z5.fz (i * 2)
      have c6 := z5.lt
      have c0 : wc.drew.cell? ⟨gl, i * 2, none⟩ = some (.int .i64 N) := k3.1
      have c1 : wc.drew.cell? ⟨gl, i * 2 + 1, none⟩ = some (.int .i64 D) := k3.2
      have c7 : wc.drew.frozen? ⟨gl, i * 2, none⟩ = false := c5
      have hset := (z5.setn hin rv).congr (f' := upM (i + 1) F) (fun k _ => by rw [← upM_succ, hui.out, hrv.out]; rfl)
      have hown9 : (wc.setCell ⟨gl, i * 2, none⟩ (.int .i64 rv)).ownsRow X.heap.size 3 1 (.slice (some ⟨g, 0, none⟩) (i + 1) cap) (i + 1) (vals (qL F (i + 1))) := own_to z6 fun g' hg' => set1_far (by have := (z6.lt g' hg').1; omega) _
      have hb9 : Below w.heap.size w (wc.setCell ⟨gl, i * 2, none⟩ (.int .i64 rv)) := z3.setCell (p := ⟨gl, i * 2, none⟩) hge _
      have hs9 : X.heap.size ≤ (wc.setCell ⟨gl, i * 2, none⟩ (.int .i64 rv)).heap.size := by simpa [World.setCell] using z4
      have hfin := Lib.hid (And.intro (below_drewN hb9 1) (And.intro hs9 (And.intro hset hown9)))
      clear hset hown9 hb9 hs9 z3 z4 z5 z6
      go_wp2
      go_region
      all_goals
        go_wp2
        go_roundw
        case rel => exact ⟨i + 1, by omega, by go_num, hfin.out.1, hfin.out.2.1, hfin.out.2.2.1, hfin.out.2.2.2⟩
        case measure => simp [intOf]; omega
    · have : n = i := by omega
      subst this
      have ho : wr.ownsRow X.heap.size 3 1 u10 (qL F n).length (vals (qL F n)) := by rw [qL_len]; exact hown
      obtain ⟨g, cap, hu, hcap, hgX, hblo⟩ := own_blk ho (by rw [qL_len]; omega)
      rw [qL_len] at hu hcap hblo
      subst hu
      have hO : BlI wr g n (qW F) := hblo.congr (fun k hk => qL_at F n k hk)
      have hR : BlR wr gl n (rP F σ 0) := hbl.congr (fun k hk => by unfold upM; rw [if_pos hk]; rfl)
      have hgw : w.heap.size ≤ g := Nat.le_trans hbX.out.size hgX
      have hne : gl ≠ g := by omega
      have kt := Lib.hid (kT.out wr g cap hO)
      have hst := Lib.hid (And.intro hX (And.intro hR hO))
      clear ho hown hblo hO hR hX hbl
      go_wp2_with fail
      refine kt.out.mono ?_
      rintro _ X1 ⟨rfl, rfl⟩
      go_wp2
      go_loopw [12, 13, 14] (fun lv _ _ wr => ∃ t : Nat, t ≤ L ∧ lv = .int .i64 ((L - t : Nat) : Int) ∧ Below w.heap.size w wr ∧ BlR wr gl n (rP F σ t) ∧ BlI wr g n (addW (qW F) σ t)) (fun lv _ _ _ => (intOf lv).toNat)
      case atStart => exact ⟨0, by omega, rfl, hst.out⟩
      case round =>
        clear hst
        obtain ⟨t, ht, rfl, hX, hR, hO⟩ := hrel
        by_cases htL : t < L
        · obtain ⟨lt, hlt'⟩ : ∃ lt, lt = L - t := ⟨_, rfl⟩
          have hpos : (0 : Int) < (lt : Int) := by omega
          have hposN : 0 < lt := by omega
          have hsb : IntKind.i64.wrap ((lt : Int) - 1) = ((L - (t + 1) : Nat) : Int) := by rw [IntWalk.i64_in _ (by omega)]; omega
          rw [← hlt']
          replace hlt' := Lib.hid hlt'
          have hup : ∀ Z, Below wr.heap.size wr Z → Below w.heap.size w Z ∧ BlR Z gl n (rP F σ t) ∧ BlI Z g n (addW (qW F) σ t) := fun Z hZ => ⟨bel_trans hX hZ, hR.up hZ, hO.up hZ⟩
          replace hup := Lib.hid hup
          replace hX := Lib.hid hX
          replace hR := Lib.hid hR
          replace hO := Lib.hid hO
          go_wp2
          go_loopw [13, 14] (fun mv iv wr' => ∃ i : Nat, i ≤ n ∧ iv = .int .i64 (i : Nat) ∧ mv = .int .i64 (mxI (rP F σ t) i : Nat) ∧ Below w.heap.size w wr' ∧ BlR wr' gl n (rP F σ t) ∧ BlI wr' g n (addW (qW F) σ t)) (fun _ iv _ => n - (intOf iv).toNat)
          case atStart => exact ⟨0, by omega, rfl, by rw [hmz.out]; rfl, hX.out, hR.out, hO.out⟩
          case round =>
            clear hX hR hO hup
            obtain ⟨i, hi, rfl, rfl, hX, hR, hO⟩ := hrel
            by_cases hin : i < n
            · have hini : (i : Int) < (n : Int) := by omega
              have hjn : mxI (rP F σ t) i < n := by
                by_cases h0 : i = 0
                · subst h0; rw [hmz.out]; omega
                · have := hml.out t i (by omega); omega
              have hk := fun Z => kk.out t (mxI (rP F σ t) i) i hjn hin Z
              have hsi := hms.out t i
              have hS : ∀ Z, Below wr.heap.size wr Z → Z.cell? ⟨gl, i * 2, none⟩ = some (.int .i64 (rP F σ t i).n) ∧ Z.cell? ⟨gl, i * 2 + 1, none⟩ = some (.int .i64 (rP F σ t i).d) ∧ Z.cell? ⟨gl, mxI (rP F σ t) i * 2, none⟩ = some (.int .i64 (rP F σ t (mxI (rP F σ t) i)).n) ∧ Z.cell? ⟨gl, mxI (rP F σ t) i * 2 + 1, none⟩ = some (.int .i64 (rP F σ t (mxI (rP F σ t) i)).d) := fun Z hZ => by
                have u := hR.up hZ
                exact ⟨u.c0 hin, u.c1 hin, u.c0 hjn, u.c1 hjn⟩
              have hup2 : ∀ Z, Below wr.heap.size wr Z → Below w.heap.size w Z ∧ BlR Z gl n (rP F σ t) ∧ BlI Z g n (addW (qW F) σ t) := fun Z hZ => ⟨bel_trans hX hZ, hR.up hZ, hO.up hZ⟩
              obtain ⟨j, hj⟩ : ∃ j, j = mxI (rP F σ t) i := ⟨_, rfl⟩
              rw [← hj] at hk hsi hS hjn ⊢
              have hjI : (j : Int) < (n : Int) := by omega
              generalize (rP F σ t j).n * (rP F σ t i).d = P1 at *
              generalize (rP F σ t i).n * (rP F σ t j).d = P2 at *
              generalize (rP F σ t i).n = an at *
              generalize (rP F σ t i).d = ad at *
              generalize (rP F σ t j).n = bn at *
              generalize (rP F σ t j).d = bd at *
              have h0 : Below wr.heap.size wr wr.drew := below_drewN (Below.refl _ _) 1
              have t0 := hS _ h0
              replace hj := Lib.hid hj
              replace hS := Lib.hid hS
              replace hup2 := Lib.hid hup2
              replace hX := Lib.hid hX
              replace hR := Lib.hid hR
              replace hO := Lib.hid hO
              by_cases hlt9 : P1 < P2
              · rw [if_pos hlt9] at hsi
                rw [decide_eq_true hlt9] at hk
                replace hk := Lib.hid hk
                replace hsi := Lib.hid hsi
                replace hlt9 := Lib.hid hlt9
                go_wp2
                go_region_held3 (fun Z => Z.cell? ⟨gl, i * 2, none⟩ = some (.int .i64 an) ∧ Z.cell? ⟨gl, i * 2 + 1, none⟩ = some (.int .i64 ad) ∧ Z.cell? ⟨gl, j * 2, none⟩ = some (.int .i64 bn) ∧ Z.cell? ⟨gl, j * 2 + 1, none⟩ = some (.int .i64 bd)) (first | with_reducible exact t0 | with_reducible exact hS.out _ (by assumption)) ((go_at_call 74; refine (hk.out _).mono ?_; rintro _ Z1 ⟨rfl, hz1⟩; have hz2 := bel_trans h0 hz1))
                all_goals
                  have hfin := Lib.hid (hup2.out _ hz2)
                  replace hz2 := Lib.hid hz2
                  go_wp2
                  go_roundw
                  case rel => exact ⟨i + 1, by omega, by go_num, by rw [hsi.out], hfin.out⟩
                  case measure => simp [intOf]; omega
              · rw [if_neg hlt9] at hsi
                rw [decide_eq_false hlt9] at hk
                replace hk := Lib.hid hk
                replace hsi := Lib.hid hsi
                replace hlt9 := Lib.hid hlt9
                go_wp2
                go_region_held3 (fun Z => Z.cell? ⟨gl, i * 2, none⟩ = some (.int .i64 an) ∧ Z.cell? ⟨gl, i * 2 + 1, none⟩ = some (.int .i64 ad) ∧ Z.cell? ⟨gl, j * 2, none⟩ = some (.int .i64 bn) ∧ Z.cell? ⟨gl, j * 2 + 1, none⟩ = some (.int .i64 bd)) (first | with_reducible exact t0 | with_reducible exact hS.out _ (by assumption)) ((go_at_call 74; refine (hk.out _).mono ?_; rintro _ Z1 ⟨rfl, hz1⟩; have hz2 := bel_trans h0 hz1))
                all_goals
                  have hfin := Lib.hid (hup2.out _ hz2)
                  replace hz2 := Lib.hid hz2
                  go_wp2
                  go_roundw
                  case rel => exact ⟨i + 1, by omega, by go_num, by rw [hsi.out], hfin.out⟩
                  case measure => simp [intOf]; omega
            · have : n = i := by omega
              subst this
              have hp := hpick.out t htL
              rw [hp]
              have hs1 := hσ.out t (by omega)
              have hsI : ((σ t : Nat) : Int) < (n : Int) := by omega
              have r0 := hO.cell hs1
              have r1 := hO.fz (σ t)
              have r2 := hO.lt
              have g0 := hR.c0 hs1
              have g1 := hR.fz (σ t * 2)
              have g2 := hR.lt
              have hw1 := hwb.out t (by omega) (σ t) hs1
              have hset1 := hO.set hs1 (addW (qW F) σ t (σ t) + 1)
              rw [← haS.out t] at hset1
              have hR1 : BlR (wr.setCell ⟨g, σ t, none⟩ (.int .i64 (addW (qW F) σ t (σ t) + 1))) gl n (rP F σ t) := hR.to (set1_far hne _)
              have g3 := hR1.c0 hs1
              have g4 := hR1.fz (σ t * 2)
              have hset2 := (hR1.setn hs1 0).congr (f' := rP F σ (t + 1)) (fun k _ => by
                  rw [hrS.out t]
                  by_cases ek : k = σ t
                  · rw [if_pos ek]; simp only; rw [if_pos ek, rP_d, ek]
                  · rw [if_neg ek]; simp only; rw [if_neg ek])
              have hset1' : BlI ((wr.setCell ⟨g, σ t, none⟩ (.int .i64 (addW (qW F) σ t (σ t) + 1))).setCell ⟨gl, σ t * 2, none⟩ (.int .i64 0)) g n (addW (qW F) σ (t + 1)) := hset1.to (set1_far (fun e0 => hne e0.symm) _)
              have hbb : Below w.heap.size w ((wr.setCell ⟨g, σ t, none⟩ (.int .i64 (addW (qW F) σ t (σ t) + 1))).setCell ⟨gl, σ t * 2, none⟩ (.int .i64 0)) := (hX.setCell (p := ⟨g, σ t, none⟩) hgw _).setCell (p := ⟨gl, σ t * 2, none⟩) hge _
              have hfin := Lib.hid (And.intro hbb (And.intro hset2 hset1'))
              clear hbb hset2 hset1' hset1 hR1
              generalize addW (qW F) σ t (σ t) = av at *
              generalize hu : σ t = u at *
              generalize (rP F σ t u).n = pn at *
              have wv : IntKind.i64.wrap (av + 1) = av + 1 := IntWalk.i64_in _ (by omega)
              replace hu := Lib.hid hu
              replace hp := Lib.hid hp
              replace hX := Lib.hid hX
              replace hR := Lib.hid hR
              replace hO := Lib.hid hO
              go_wp2
              go_roundw
              case rel => exact ⟨t + 1, by omega, rfl, hfin.out⟩
              case measure => have := hlt'.out; simp [intOf]; omega
        · have : L = t := by omega
          subst this
          have hfin := Lib.hid (And.intro hX hO)
          replace hX := Lib.hid hX
          replace hR := Lib.hid hR
          replace hO := Lib.hid hO
          rw [Nat.sub_self]
          go_wp2
          go_ret2
          exact ⟨g, cap, rfl, hfin.out.1, hfin.out.2⟩
end Go.Proofs.Ythleekdkbgnabaa
end
