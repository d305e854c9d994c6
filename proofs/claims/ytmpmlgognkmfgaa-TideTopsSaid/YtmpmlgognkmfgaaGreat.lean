/-
  The contract of greatest: the first hour with the greatest value.
-/
import Derived.Test.YtmpmlgognkmfgaaSlack
import Derived.Test.YtmpmlgognkmfgaaBeat
namespace Go.Proofs.Ytmpmlgognkmfgaa
open Go.RowKit Go.Deep M
set_option linter.unusedVariables false
set_option linter.unusedSimpArgs false

/-- The first of the hours from 0 on with the greatest value of F, among 0 .. k (and 0). -/
def best (F : Nat → Int) : Nat → Nat × Int
  | 0 => (0, F 0)
  | k + 1 => if (best F k).2 < F k then (k, F k) else best F k

theorem best_range {F : Nat → Int} (hF : ∀ k : Nat, k ≤ 20736 → -1000000000 ≤ F k ∧ F k ≤ 1000000000) (k : Nat) (hk : k ≤ 20736) : (best F k).1 ≤ 20736 ∧ -1000000000 ≤ (best F k).2 ∧ (best F k).2 ≤ 1000000000 := by
  induction k with
  | zero => exact ⟨by show 0 ≤ 20736; omega, hF 0 (by omega)⟩
  | succ k ih =>
    unfold best
    split
    · exact ⟨by show k ≤ 20736; omega, hF k (by omega)⟩
    · exact ih (by omega)
theorem best_up {F : Nat → Int} {k : Nat} (h : (best F k).2 < F k) : best F (k + 1) = (k, F k) := by
  show (if (best F k).2 < F k then (k, F k) else best F k) = _
  rw [if_pos h]
theorem best_stay {F : Nat → Int} {k : Nat} (h : ¬ (best F k).2 < F k) : best F (k + 1) = best F k := by
  show (if (best F k).2 < F k then (k, F k) else best F k) = _
  rw [if_neg h]
/-- Block g holds a struct of two numbers. -/
def Pair (w : World) (g : Nat) (x y : Int) : Prop := w.heap[g]? = some (.cells #[.int .i64 x, .int .i64 y] 71 (0, 0))
theorem Pair.c0 {w : World} {g : Nat} {x y : Int} (h : Pair w g x y) : w.cell? ⟨g, 0, none⟩ = some (.int .i64 x) := by unfold Pair at h; simp [World.cell?, h]
theorem Pair.c1 {w : World} {g : Nat} {x y : Int} (h : Pair w g x y) : w.cell? ⟨g, 1, none⟩ = some (.int .i64 y) := by unfold Pair at h; simp [World.cell?, h]
theorem Pair.fz {w : World} {g : Nat} {x y : Int} (h : Pair w g x y) (i : Nat) : w.frozen? ⟨g, i, none⟩ = false := by unfold Pair at h; simp [World.frozen?, h]
theorem Pair.below {w w' : World} {g B : Nat} {x y : Int} (h : Pair w g x y) (hb : Below B w w') (hg : g < B) : Pair w' g x y := (hb.block g hg).trans h
theorem Pair.lt {w : World} {g : Nat} {x y : Int} (h : Pair w g x y) : g < w.heap.size := by
  rcases Nat.lt_or_ge g w.heap.size with hlt | hge
  · exact hlt
  · unfold Pair at h; rw [Array.getElem?_eq_none hge] at h; cases h
theorem Pair.new (w : World) (x y : Int) : Pair (w.alloc (.cells #[.int .i64 x, .int .i64 y] 71)) w.heap.size x y := heap_alloc_new w _
theorem Pair.set {w : World} {g : Nat} {x y : Int} (h : Pair w g x y) (a b : Int) : Pair ((w.setCell ⟨g, 0, none⟩ (.int .i64 a)).setCell ⟨g, 1, none⟩ (.int .i64 b)) g a b := by
  unfold Pair at *
  simp [World.setCell, Array.getElem?_modify, h]
theorem Pair.far {w : World} {g : Nat} {x y : Int} (h : Pair w g x y) {p : Addr} (hp : g ≠ p.block) (v : Value) : Pair (w.setCell p v) g x y := (Below.heap_setCell w p v g hp).trans h

set_option maxHeartbeats 1000000 in
set_option maxRecDepth 100000 in
theorem greatestM (B : Nat) (A : Option Addr) (c : Nat) (T : List (List Int)) (g : FuncId) (p : Value) (F : Nat → Int) (w : World) (h : Mat w B A T) (hB : B ≤ w.heap.size) (hV : Val T) (hF : ∀ k : Nat, k ≤ 20736 → -1000000000 ≤ F k ∧ F k ≤ 1000000000)
    (hen : ∀ (args : Array Value) (w : World), (callFunc g args).run Try.prog w = .ok (.enter g args) w)
    (hcall : ∀ k : Nat, k ≤ 20736 → ∀ W, Below w.heap.size w W → Calls Try.prog g #[p, .int .i64 k] W fun e w' => e = .returned (.int .i64 (F k)) ∧ Below W.heap.size W w') :
    Calls Try.prog 91 #[.slice A T.length c, .func (Fn.func g) #[p] #[]] w fun e w' => e = .returned (.agg #[.int .i64 (best F (rnd T)).1, .int .i64 (best F (rnd T)).2]) ∧ Below w.heap.size w w' := by
  obtain ⟨r1, r2⟩ := rnd_bound hV
  replace hcall := Lib.hid hcall
  replace hF := Lib.hid hF
  have h0 := hcall.out 0 (by omega) (w.alloc (.cells #[.int .i64 0, .int .i64 0] 71)) ((Below.refl _ _).alloc (Nat.le_refl _) _)
  replace h0 := Lib.hid h0
  go_enter Try.func91, Try.ntmps91
  go_wp2_with fail
  refine h0.out.mono ?_
  rintro e w1 ⟨rfl, hb1⟩
  have hz1 : w.heap.size < w1.heap.size := by have := hb1.size; simp at this; omega
  have hb01 : Below w.heap.size w w1 := ((Below.refl _ _).alloc (Nat.le_refl _) _).trans (hb1.mono (by simp))
  have hp0 : Pair w1 w.heap.size 0 0 := (Pair.new w 0 0).below hb1 (by simp)
  have hp0' := hp0.below (Below.alloc (Below.refl w1.heap.size w1) (Nat.le_refl _) (.cells #[.int .i64 0, .int .i64 (F 0)] 71)) hz1
  have hp1 := Pair.new w1 0 (F 0)
  have hb02 : Below w.heap.size w (w1.alloc (.cells #[.int .i64 0, .int .i64 (F 0)] 71)) := hb01.alloc (by omega) _
  have hM1 := (h.below (hb01.mono hB)).alloc (by omega) (.cells #[.int .i64 0, .int .i64 (F 0)] 71)
  obtain ⟨g1, hg1⟩ : ∃ g1, g1 = w1.heap.size := ⟨_, rfl⟩
  go_wp2_with fail
  refine (round_any B A c T _ hM1 hV).mono ?_
  rintro e w2 ⟨rfl, m, rfl⟩
  rw [← hg1] at hp1 ⊢
  have hne : w.heap.size ≠ g1 := by omega
  generalize hw3 : (w1.alloc (.cells #[.int .i64 0, .int .i64 (F 0)] 71)).drewN m = w3
  have hp03 : Pair w3 w.heap.size 0 0 := by rw [← hw3]; exact hp0'
  have hp13 : Pair w3 g1 0 (F 0) := by rw [← hw3]; exact hp1
  have hb03 : Below w.heap.size w w3 := by rw [← hw3]; exact below_drewN hb02 m
  have hge : w.heap.size ≤ g1 := by omega
  clear hp0 hp0' hp1 hb02 hM1 hw3 hb01 hb1 hg1 hz1 h0
  go_wp2
  go_loopw [13] (fun i wr => ∃ k : Nat, k ≤ rnd T ∧ i = .int .i64 k ∧ Below w.heap.size w wr ∧ Pair wr w.heap.size 0 0 ∧ Pair wr g1 (best F k).1 (best F k).2) (fun i _ => rnd T - (intOf i).toNat)
  case atStart => exact ⟨0, Nat.zero_le _, rfl, hb03, hp03, hp13⟩
  case round =>
    clear hb03 hp03 hp13
    obtain ⟨k, hk, rfl, hb, hpa, hpb⟩ := hrel
    obtain ⟨v0, v1, v2⟩ := best_range hF.out k (by omega)
    by_cases hlt : k < rnd T
    · obtain ⟨f1, f2⟩ := hF.out k (by omega)
      have hc := Lib.hid (hcall.out k (by omega) wr hb)
      by_cases hup : (best F k).2 < F k
      · have hs := Lib.hid (best_up hup)
        go_wp2_with fail
        refine hc.out.mono ?_
        rintro e w4 ⟨rfl, hb4⟩
        have hpa4 := hpa.below hb4 hpa.lt
        have hpb4 := hpb.below hb4 hpb.lt
        have hb44 := hb.trans (hb4.mono hb.size)
        have k1 := hpb4.c0
        have k2 := hpb4.c1
        have k3 := hpb4.fz 0
        have k4 := hpb4.fz 1
        have hpn := hpb4.set k (F k)
        have hpan := (hpa4.far (p := ⟨g1, 0, none⟩) hne (.int .i64 (k : Int))).far (p := ⟨g1, 1, none⟩) hne (.int .i64 (F k))
        have hbn := (hb44.setCell (p := ⟨g1, 0, none⟩) hge (.int .i64 (k : Int))).setCell (p := ⟨g1, 1, none⟩) hge (.int .i64 (F k))
        clear hpa hpb hpa4 hpb4 hb hb4 hb44
        generalize (best F k).2 = y at *
        generalize (best F k).1 = x at *
        go_wp2
        go_roundw
        case rel => exact ⟨k + 1, by omega, by go_num, hbn, hpan, by rw [hs.out]; exact hpn⟩
        case measure => simp [intOf]; omega
      · have hs := Lib.hid (best_stay hup)
        go_wp2_with fail
        refine hc.out.mono ?_
        rintro e w4 ⟨rfl, hb4⟩
        have hpa4 := hpa.below hb4 hpa.lt
        have hpb4 := hpb.below hb4 hpb.lt
        have hb44 := hb.trans (hb4.mono hb.size)
        have k1 := hpb4.c0
        have k2 := hpb4.c1
        rw [← hs.out] at hpb4
        clear hpa hpb hb hb4
        generalize (best F k).2 = y at *
        generalize (best F k).1 = x at *
        go_wp2
        go_roundw
        case rel => exact ⟨k + 1, by omega, by go_num, hb44, hpa4, hpb4⟩
        case measure => simp [intOf]; omega
    · have hk' : k = rnd T := by omega
      subst hk'
      have k1 := hpb.c0
      have k2 := hpb.c1
      have k3 := hpa.fz 0
      have k4 := hpa.fz 1
      have k5 := hpa.c0
      have k6 := hpa.c1
      have hpn := hpa.set (best F (rnd T)).1 (best F (rnd T)).2
      have hbn := (hb.setCell (p := ⟨w.heap.size, 0, none⟩) (Nat.le_refl _) (.int .i64 ((best F (rnd T)).1 : Int))).setCell (p := ⟨w.heap.size, 1, none⟩) (Nat.le_refl _) (.int .i64 (best F (rnd T)).2)
      clear hpa hpb v0 v1 v2
      generalize hbq : best F (rnd T) = q at k1 k2 hpn hbn
      obtain ⟨x, y⟩ := q
      replace hbq := Lib.hid hbq
      dsimp only at k1 k2 hpn hbn
      go_wp2
      have j1 := hpn.c0
      have j2 := hpn.c1
      exact bodyPost_ret (v := .agg #[.int .i64 x, .int .i64 y]) (by simp [results, Try.results91, go_sem, j1, j2]) rfl ⟨by rw [hbq.out], hbn⟩

set_option maxHeartbeats 1000000 in
set_option maxRecDepth 100000 in
theorem greatest2 (B : Nat) (A : Option Addr) (c : Nat) (T : List (List Int)) (g : FuncId) (p q : Value) (F : Nat → Int) (w : World) (h : Mat w B A T) (hB : B ≤ w.heap.size) (hV : Val T) (hF : ∀ k : Nat, k ≤ 20736 → -1000000000 ≤ F k ∧ F k ≤ 1000000000)
    (hen : ∀ (args : Array Value) (w : World), (callFunc g args).run Try.prog w = .ok (.enter g args) w)
    (hcall : ∀ k : Nat, k ≤ 20736 → ∀ W, Below w.heap.size w W → Calls Try.prog g #[.int .i64 k, p, q] W fun e w' => e = .returned (.int .i64 (F k)) ∧ Below W.heap.size W w') :
    Calls Try.prog 91 #[.slice A T.length c, .func (Fn.func g) #[] #[p, q]] w fun e w' => e = .returned (.agg #[.int .i64 (best F (rnd T)).1, .int .i64 (best F (rnd T)).2]) ∧ Below w.heap.size w w' := by
  obtain ⟨r1, r2⟩ := rnd_bound hV
  replace hcall := Lib.hid hcall
  replace hF := Lib.hid hF
  have h0 := hcall.out 0 (by omega) (w.alloc (.cells #[.int .i64 0, .int .i64 0] 71)) ((Below.refl _ _).alloc (Nat.le_refl _) _)
  replace h0 := Lib.hid h0
  go_enter Try.func91, Try.ntmps91
  go_wp2_with fail
  refine h0.out.mono ?_
  rintro e w1 ⟨rfl, hb1⟩
  have hz1 : w.heap.size < w1.heap.size := by have := hb1.size; simp at this; omega
  have hb01 : Below w.heap.size w w1 := ((Below.refl _ _).alloc (Nat.le_refl _) _).trans (hb1.mono (by simp))
  have hp0 : Pair w1 w.heap.size 0 0 := (Pair.new w 0 0).below hb1 (by simp)
  have hp0' := hp0.below (Below.alloc (Below.refl w1.heap.size w1) (Nat.le_refl _) (.cells #[.int .i64 0, .int .i64 (F 0)] 71)) hz1
  have hp1 := Pair.new w1 0 (F 0)
  have hb02 : Below w.heap.size w (w1.alloc (.cells #[.int .i64 0, .int .i64 (F 0)] 71)) := hb01.alloc (by omega) _
  have hM1 := (h.below (hb01.mono hB)).alloc (by omega) (.cells #[.int .i64 0, .int .i64 (F 0)] 71)
  obtain ⟨g1, hg1⟩ : ∃ g1, g1 = w1.heap.size := ⟨_, rfl⟩
  go_wp2_with fail
  refine (round_any B A c T _ hM1 hV).mono ?_
  rintro e w2 ⟨rfl, m, rfl⟩
  rw [← hg1] at hp1 ⊢
  have hne : w.heap.size ≠ g1 := by omega
  generalize hw3 : (w1.alloc (.cells #[.int .i64 0, .int .i64 (F 0)] 71)).drewN m = w3
  have hp03 : Pair w3 w.heap.size 0 0 := by rw [← hw3]; exact hp0'
  have hp13 : Pair w3 g1 0 (F 0) := by rw [← hw3]; exact hp1
  have hb03 : Below w.heap.size w w3 := by rw [← hw3]; exact below_drewN hb02 m
  have hge : w.heap.size ≤ g1 := by omega
  clear hp0 hp0' hp1 hb02 hM1 hw3 hb01 hb1 hg1 hz1 h0
  go_wp2
  go_loopw [13] (fun i wr => ∃ k : Nat, k ≤ rnd T ∧ i = .int .i64 k ∧ Below w.heap.size w wr ∧ Pair wr w.heap.size 0 0 ∧ Pair wr g1 (best F k).1 (best F k).2) (fun i _ => rnd T - (intOf i).toNat)
  case atStart => exact ⟨0, Nat.zero_le _, rfl, hb03, hp03, hp13⟩
  case round =>
    clear hb03 hp03 hp13
    obtain ⟨k, hk, rfl, hb, hpa, hpb⟩ := hrel
    obtain ⟨v0, v1, v2⟩ := best_range hF.out k (by omega)
    by_cases hlt : k < rnd T
    · obtain ⟨f1, f2⟩ := hF.out k (by omega)
      have hc := Lib.hid (hcall.out k (by omega) wr hb)
      by_cases hup : (best F k).2 < F k
      · have hs := Lib.hid (best_up hup)
        go_wp2_with fail
        refine hc.out.mono ?_
        rintro e w4 ⟨rfl, hb4⟩
        have hpa4 := hpa.below hb4 hpa.lt
        have hpb4 := hpb.below hb4 hpb.lt
        have hb44 := hb.trans (hb4.mono hb.size)
        have k1 := hpb4.c0
        have k2 := hpb4.c1
        have k3 := hpb4.fz 0
        have k4 := hpb4.fz 1
        have hpn := hpb4.set k (F k)
        have hpan := (hpa4.far (p := ⟨g1, 0, none⟩) hne (.int .i64 (k : Int))).far (p := ⟨g1, 1, none⟩) hne (.int .i64 (F k))
        have hbn := (hb44.setCell (p := ⟨g1, 0, none⟩) hge (.int .i64 (k : Int))).setCell (p := ⟨g1, 1, none⟩) hge (.int .i64 (F k))
        clear hpa hpb hpa4 hpb4 hb hb4 hb44
        generalize (best F k).2 = y at *
        generalize (best F k).1 = x at *
        go_wp2
        go_roundw
        case rel => exact ⟨k + 1, by omega, by go_num, hbn, hpan, by rw [hs.out]; exact hpn⟩
        case measure => simp [intOf]; omega
      · have hs := Lib.hid (best_stay hup)
        go_wp2_with fail
        refine hc.out.mono ?_
        rintro e w4 ⟨rfl, hb4⟩
        have hpa4 := hpa.below hb4 hpa.lt
        have hpb4 := hpb.below hb4 hpb.lt
        have hb44 := hb.trans (hb4.mono hb.size)
        have k1 := hpb4.c0
        have k2 := hpb4.c1
        rw [← hs.out] at hpb4
        clear hpa hpb hb hb4
        generalize (best F k).2 = y at *
        generalize (best F k).1 = x at *
        go_wp2
        go_roundw
        case rel => exact ⟨k + 1, by omega, by go_num, hb44, hpa4, hpb4⟩
        case measure => simp [intOf]; omega
    · have hk' : k = rnd T := by omega
      subst hk'
      have k1 := hpb.c0
      have k2 := hpb.c1
      have k3 := hpa.fz 0
      have k4 := hpa.fz 1
      have k5 := hpa.c0
      have k6 := hpa.c1
      have hpn := hpa.set (best F (rnd T)).1 (best F (rnd T)).2
      have hbn := (hb.setCell (p := ⟨w.heap.size, 0, none⟩) (Nat.le_refl _) (.int .i64 ((best F (rnd T)).1 : Int))).setCell (p := ⟨w.heap.size, 1, none⟩) (Nat.le_refl _) (.int .i64 (best F (rnd T)).2)
      clear hpa hpb v0 v1 v2
      generalize hbq : best F (rnd T) = qq at k1 k2 hpn hbn
      obtain ⟨x, y⟩ := qq
      replace hbq := Lib.hid hbq
      dsimp only at k1 k2 hpn hbn
      go_wp2
      have j1 := hpn.c0
      have j2 := hpn.c1
      exact bodyPost_ret (v := .agg #[.int .i64 x, .int .i64 y]) (by simp [results, Try.results91, go_sem, j1, j2]) rfl ⟨by rw [hbq.out], hbn⟩


def topS (T : List (List Int)) : Nat × Int := best (fun k => spd T (k : Int)) (rnd T)
def topD (T : List (List Int)) (n : Nat) : Nat × Int := best (fun k => drf T (k : Int) n) (rnd T)
/-- A struct of two numbers. -/
def Agg (p : Nat × Int) : Value := .agg #[.int .i64 p.1, .int .i64 p.2]

theorem highest_any (B : Nat) (A : Option Addr) (c : Nat) (T : List (List Int)) (w : World) (h : Mat w B A T) (hB : B ≤ w.heap.size) (hV : Val T) :
    Calls Try.prog 73 #[.slice A T.length c] w fun e w' => e = .returned (Agg (topS T)) ∧ Below w.heap.size w w' := by
  have h3 : Calls Try.prog 91 #[.slice A T.length c, .func (Fn.func 51) #[.slice A T.length c] #[]] (w.alloc (.cells #[.int .i64 0, .int .i64 0] 71)) fun e w' => e = .returned (Agg (topS T)) ∧ Below w.heap.size w w' ∧ Pair w' w.heap.size 0 0 := by
    refine (greatestM B A c T 51 (.slice A T.length c) (fun k => spd T (k : Int)) _ (h.alloc hB _) (by simp; omega) hV (fun k hk => by have := spd_bound hV (k : Int); omega) enter51 (fun k hk W hb => ?_)).mono ?_
    · refine (speed_any B A c T k W ((h.alloc hB _).below (hb.mono (by simp; omega))) hV (by omega)).mono ?_
      rintro e w' ⟨rfl, rfl⟩
      exact ⟨rfl, Below.refl _ _⟩
    · rintro e w' ⟨rfl, hb⟩
      exact ⟨rfl, ((Below.refl _ _).alloc (Nat.le_refl _) _).trans (hb.mono (by simp)), (Pair.new w 0 0).below hb (by simp)⟩
  generalize topS T = q at h3 ⊢
  obtain ⟨x, y⟩ := q
  unfold Agg at h3 ⊢
  replace h3 := Lib.hid h3
  go_enter Try.func73, Try.ntmps73
  go_wp2_with fail
  refine h3.out.mono ?_
  rintro e w1 ⟨rfl, hb, hp⟩
  have k1 := hp.c0
  have k2 := hp.c1
  have k3 := hp.fz 0
  have k4 := hp.fz 1
  have hpn := hp.set (x : Int) y
  have hbn := (hb.setCell (p := ⟨w.heap.size, 0, none⟩) (Nat.le_refl _) (.int .i64 (x : Int))).setCell (p := ⟨w.heap.size, 1, none⟩) (Nat.le_refl _) (.int .i64 y)
  clear hp hb
  dsimp only
  go_wp2
  have j1 := hpn.c0
  have j2 := hpn.c1
  exact bodyPost_ret (v := .agg #[.int .i64 (x : Int), .int .i64 y]) (by simp [results, Try.results73, go_sem, j1, j2]) rfl ⟨rfl, hbn⟩

end Go.Proofs.Ytmpmlgognkmfgaa
