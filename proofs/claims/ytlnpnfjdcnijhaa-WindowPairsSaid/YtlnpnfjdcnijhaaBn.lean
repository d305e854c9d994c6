/-
  How many of two windows are open, for each hour of both periods together: the specification's function.
-/
import Derived.Test.YtlnpnfjdcnijhaaBm
namespace Go.Proofs.Ytlnpnfjdcnijhaa
open Go.RowKit Go.Deep M
set_option linter.unusedVariables false
set_option linter.unusedSimpArgs false

/-! ### a block of integers -/
def BlI (w : World) (g n : Nat) (f : Nat → Int) : Prop := ∃ cs : Array Value, w.heap[g]? = some (.cells cs 3 (0, 0)) ∧ ∀ i, i < n → cs[i]? = some (.int .i64 (f i))
theorem BlI.lt {w : World} {g n : Nat} {f : Nat → Int} (h : BlI w g n f) : g < w.heap.size := by obtain ⟨cs, h1, _⟩ := h; exact blk_lt h1
theorem BlI.to {w w' : World} {g n : Nat} {f : Nat → Int} (h : BlI w g n f) (hb : w'.heap[g]? = w.heap[g]?) : BlI w' g n f := by obtain ⟨cs, h1, h2⟩ := h; exact ⟨cs, hb.trans h1, h2⟩
theorem BlI.up {w w' : World} {g n : Nat} {f : Nat → Int} (h : BlI w g n f) (hb : Below w.heap.size w w') : BlI w' g n f := h.to (hb.block g h.lt)
theorem BlI.cell {w : World} {g n i : Nat} {f : Nat → Int} (h : BlI w g n f) (hi : i < n) : w.cell? ⟨g, i, none⟩ = some (.int .i64 (f i)) := by obtain ⟨cs, h1, h2⟩ := h; simp [World.cell?, h1, h2 i hi]
theorem BlI.fz {w : World} {g n : Nat} {f : Nat → Int} (h : BlI w g n f) (i : Nat) : w.frozen? ⟨g, i, none⟩ = false := by obtain ⟨cs, h1, _⟩ := h; simp [World.frozen?, h1]
theorem BlI.congr {w : World} {g n : Nat} {f f' : Nat → Int} (h : BlI w g n f) (e : ∀ i, i < n → f i = f' i) : BlI w g n f' := by obtain ⟨cs, h1, h2⟩ := h; exact ⟨cs, h1, fun i hi => by rw [← e i hi]; exact h2 i hi⟩
theorem BlI.set {w : World} {g n j : Nat} {f : Nat → Int} (h : BlI w g n f) (hj : j < n) (x : Int) : BlI (w.setCell ⟨g, j, none⟩ (.int .i64 x)) g n (fun i => if i = j then x else f i) := by
  obtain ⟨cs, h1, h2⟩ := h
  have hjs : j < cs.size := by have := h2 j hj; exact (Array.getElem?_eq_some_iff.1 this).1
  refine ⟨cs.setIfInBounds j (.int .i64 x), by simp [World.setCell, Array.getElem?_modify, h1], fun i hi => ?_⟩
  rw [Array.getElem?_setIfInBounds]
  by_cases e : i = j
  · subst e
    simp [hjs]
  · have e2 : ¬ j = i := fun h => e h.symm
    simp [e, e2, h2 i hi]
def mkI (w : World) (n : Nat) : World := w.alloc (.cells (madeCells #[.int .i64 0] n) 3)
theorem mkI_below (w : World) (n : Nat) : Below w.heap.size w (mkI w n) := ba1 _ _
theorem mkI_blk (w : World) (n : Nat) : BlI (mkI w n) w.heap.size n (fun _ => 0) :=
  ⟨madeCells #[.int .i64 0] n, heap_alloc_new w _, fun i hi => by unfold madeCells; simp [hi, Nat.mod_one]⟩
theorem run_mkI (w : World) (n : Nat) (hn : n ≤ 1000000) : (Instr.makeSlice 22 (.int .i64 n) (.int .i64 n)).run Try.prog w = .ok (.slice (some ⟨w.heap.size, 0, none⟩) n n) (mkI w n) := by
  have hi := info3
  cases h : Try.prog.info? 3 with
  | none => rw [h] at hi; cases hi
  | some i =>
    rw [h] at hi
    simp only [Option.map_some, Option.some.injEq, Prod.mk.injEq] at hi
    obtain ⟨h1, h2, h3⟩ := hi
    have := run_make (P := Try.prog) w 22 3 i (.int .i64 0) Try.underlying22 h h1 .i64 .i64 (n : Int) (n : Int) (by omega) (Int.le_refl _) (by rw [h3]; omega) (by omega)
    rw [this, h2]
    simp [mkI, Value.cells]

namespace M
/-- How many of two windows are open. -/
def cntN (x y : Wn) (i : Nat) : Int := (if opB x (i : Nat) = true then 1 else 0) + (if opB y (i : Nat) = true then 1 else 0)
end M
theorem TwO.drewN {w X : World} {p q : Int} {A A' : Option Addr} {n n' c c' : Nat} (h : TwO w p q A A' n n' c c' X) (k : Nat) : TwO w p q A A' n n' c c' (X.drewN k) := ⟨below_drewN h.below k, h.b1, h.b2⟩
theorem TwO.set {w X : World} {p q : Int} {A A' : Option Addr} {n n' c c' g : Nat} (h : TwO w p q A A' n n' c c' X) (hg : w.heap.size + 1 < g) (k : Nat) (v : Value) : TwO w p q A A' n n' c c' (X.setCell ⟨g, k, none⟩ v) :=
  ⟨h.below.setCell (show w.heap.size ≤ g by omega) v, h.b1.to (setCell_far (show w.heap.size ≠ g by omega)), h.b2.to (setCell_far (show w.heap.size + 1 ≠ g by omega))⟩
/-- The world in which the count runs. -/
structure JnW (w : World) (p q : Nat) (A A' : Option Addr) (n n' c c' g ga gb m : Nat) (fa fb : Nat → Bool) (F : Nat → Int) (X : World) : Prop where
  on : TwO w p q A A' n n' c c' X
  out : BlI X g m F
  ta : BlB X ga p fa
  tb : BlB X gb q fb
theorem JnW.set {w X : World} {p q : Nat} {A A' : Option Addr} {n n' c c' g ga gb m : Nat} {fa fb : Nat → Bool} {F : Nat → Int} (h : JnW w p q A A' n n' c c' g ga gb m fa fb F X) (hg : w.heap.size + 1 < g) (ha : g < ga) (hb : g < gb) {k : Nat} (hk : k < m) (v : Int) :
    JnW w p q A A' n n' c c' g ga gb m fa fb (fun i => if i = k then v else F i) (X.setCell ⟨g, k, none⟩ (.int .i64 v)) :=
  ⟨h.on.set hg _ _, h.out.set hk v, h.ta.far (show ga ≠ g by omega) _, h.tb.far (show gb ≠ g by omega) _⟩
theorem JnW.congr {w X : World} {p q : Nat} {A A' : Option Addr} {n n' c c' g ga gb m : Nat} {fa fb : Nat → Bool} {F F' : Nat → Int} (h : JnW w p q A A' n n' c c' g ga gb m fa fb F X) (e : ∀ i, i < m → F i = F' i) : JnW w p q A A' n n' c c' g ga gb m fa fb F' X :=
  ⟨h.on, h.out.congr e, h.ta, h.tb⟩

set_option maxRecDepth 100000 in
set_option maxHeartbeats 4000000 in
theorem joined_ref (B : Nat) (A A' : Option Addr) (c c' : Nat) (x y : Wn) (p q : Nat) (w : World) (h : Row w B A x.hs) (h' : Row w B A' y.hs) (hB : B ≤ w.heap.size) (hx : winB x 60 = true) (hy : winB y 60 = true) (hp : x.p = (p : Int)) (hq : y.p = (q : Int)) :
    Calls Try.prog 102 #[wnV p A x.hs.length c, wnV q A' y.hs.length c'] w fun e w' => ∃ g, e = .returned (.slice (some ⟨g, 0, none⟩) (mulN p q) (mulN p q)) ∧ Below w.heap.size w w' ∧ w.heap.size ≤ g ∧ BlI w' g (mulN p q) (cntN x y) := by
  have h63 := h.1
  have h63' := h'.1
  obtain ⟨⟨p1, p2⟩, _⟩ := winB_iff.1 hx
  obtain ⟨⟨q1, q2⟩, _⟩ := winB_iff.1 hy
  rw [hp] at p1 p2
  rw [hq] at q1 q2
  obtain ⟨m1, m2⟩ := mul_60 hx hy hp hq
  have hpq : p * q ≤ 60 * 60 := Nat.mul_le_mul (by omega) (by omega)
  have hW := twO_new w p q A A' x.hs.length y.hs.length c c'
  have c90 := multiple_ref p q 60 ((w.alloc (.cells #[.int .i64 p, .slice A x.hs.length c] 24)).alloc (.cells #[.int .i64 q, .slice A' y.hs.length c'] 24)) (by omega) (by omega) (by omega) (by omega)
  have hmk := fun W => run_mkI W (mulN p q) (by omega)
  have ka : ∀ g X m, TwO w p q A A' x.hs.length y.hs.length c c' X → BlI X g m (fun _ => 0) → Calls Try.prog 67 #[wnV p A x.hs.length c] X fun e w' => ∃ ga, e = .returned (.slice (some ⟨ga, 0, none⟩) p p) ∧ Below X.heap.size X w' ∧ TwO w p q A A' x.hs.length y.hs.length c c' w' ∧ BlI w' g m (fun _ => 0) ∧ BlB w' ga p (fun j => opB x (j : Nat)) ∧ g < ga := fun g X m hX hg =>
    (hours_ref B A c x p X (h.below (hX.below.mono hB)) (Nat.le_trans hB hX.below.size) (win_more hx (by omega)) hp).mono fun e w' ⟨ga, he, hb, hbl, hga⟩ => ⟨ga, he, hb, hX.up hb, hg.up hb, hbl.congr fun j hj => (opB_eq (by rw [hp]; exact Int.emod_eq_of_lt (by omega) (by omega))).symm, by have := hg.lt; omega⟩
  have kb : ∀ g X m, TwO w p q A A' x.hs.length y.hs.length c c' X → BlI X g m (fun _ => 0) → Calls Try.prog 67 #[wnV q A' y.hs.length c'] X fun e w' => ∃ ga, e = .returned (.slice (some ⟨ga, 0, none⟩) q q) ∧ Below X.heap.size X w' ∧ TwO w p q A A' x.hs.length y.hs.length c c' w' ∧ BlI w' g m (fun _ => 0) ∧ BlB w' ga q (fun j => opB y (j : Nat)) ∧ g < ga := fun g X m hX hg =>
    (hours_ref B A' c' y q X (h'.below (hX.below.mono hB)) (Nat.le_trans hB hX.below.size) (win_more hy (by omega)) hq).mono fun e w' ⟨ga, he, hb, hbl, hga⟩ => ⟨ga, he, hb, hX.up hb, hg.up hb, hbl.congr fun j hj => (opB_eq (by rw [hq]; exact Int.emod_eq_of_lt (by omega) (by omega))).symm, by have := hg.lt; omega⟩
  have pa : ∀ k : Nat, opB x ((k % p : Nat) : Int) = opB x (k : Nat) := fun k => by rw [Int.natCast_emod]; exact opB_perM hp k
  have pb : ∀ k : Nat, opB y ((k % q : Nat) : Int) = opB y (k : Nat) := fun k => by rw [Int.natCast_emod]; exact opB_perM hq k
  have hcn : ∀ k, cntN x y k = (if opB x (k : Nat) = true then 1 else 0) + (if opB y (k : Nat) = true then 1 else 0) := fun k => rfl
  unfold wnV at *
  obtain ⟨c0, c1, d0, d1⟩ := hW.cells
  obtain ⟨F, hF⟩ : ∃ F, F = cntN x y := ⟨_, rfl⟩
  obtain ⟨fa, hfa⟩ : ∃ f : Nat → Bool, f = fun j => opB x (j : Nat) := ⟨_, rfl⟩
  obtain ⟨fb, hfb⟩ : ∃ f : Nat → Bool, f = fun j => opB y (j : Nat) := ⟨_, rfl⟩
  have pa' : ∀ k, fa (k % p) = fa k := by rw [hfa]; exact pa
  have pb' : ∀ k, fb (k % q) = fb k := by rw [hfb]; exact pb
  have hcn' : ∀ k, F k = (if fa k = true then 1 else 0) + (if fb k = true then 1 else 0) := by rw [hF, hfa, hfb]; exact hcn
  rw [← hfa] at ka
  rw [← hfb] at kb
  rw [← hF]
  clear pa pb hcn
  generalize mulN p q = m at *
  have hpi : ¬ ((p : Int) = 0) := by omega
  have hqi : ¬ ((q : Int) = 0) := by omega
  have hpn : ¬ (p = 0) := by omega
  have hqn : ¬ (q = 0) := by omega
  replace hF := Lib.hid hF
  replace hfa := Lib.hid hfa
  replace hfb := Lib.hid hfb
  replace hp := Lib.hid hp
  replace hq := Lib.hid hq
  replace hx := Lib.hid hx
  replace hy := Lib.hid hy
  replace hW := Lib.hid hW
  replace c90 := Lib.hid c90
  replace ka := Lib.hid ka
  replace kb := Lib.hid kb
  replace pa' := Lib.hid pa'
  replace pb' := Lib.hid pb'
  replace hcn' := Lib.hid hcn'
  clear hpq
  go_enter Try.func102, Try.ntmps102
  go_wp2_with fail
  refine c90.out.mono ?_
  rintro e X1 ⟨rfl, k0, hk0⟩
  have hX1 : TwO w p q A A' x.hs.length y.hs.length c c' X1 := by rw [hk0]; exact hW.out.drewN k0
  clear hk0 c0 c1 d0 d1
  have hXm := hX1.up (mkI_below X1 m)
  have hbl := mkI_blk X1 m
  obtain ⟨g, hge⟩ : ∃ g, g = X1.heap.size := ⟨_, rfl⟩
  have hg1 : w.heap.size + 1 < g := by have := hX1.b2.lt; omega
  have hsz := hmk X1
  rw [← hge] at hbl hsz
  obtain ⟨Y2, hY2⟩ : ∃ Y, Y = mkI X1 m := ⟨_, rfl⟩
  rw [← hY2] at hXm hbl hsz
  replace hY2 := Lib.hid hY2
  replace hge := Lib.hid hge
  clear hmk
  replace hX1 := Lib.hid hX1
  have hXd := hXm.drew
  have hbd : BlI Y2.drew g m (fun _ => 0) := hbl.to rfl
  replace hXm := Lib.hid hXm
  replace hbl := Lib.hid hbl
  go_wp2
  go_region_held3 (fun X => X.cell? ⟨w.heap.size, 0, none⟩ = some (.int .i64 p) ∧ X.cell? ⟨w.heap.size, 1, none⟩ = some (.slice A x.hs.length c) ∧ X.cell? ⟨w.heap.size + 1, 0, none⟩ = some (.int .i64 q) ∧ X.cell? ⟨w.heap.size + 1, 1, none⟩ = some (.slice A' y.hs.length c'))
    (first | with_reducible exact TwO.cells (by assumption))
    (first | (go_at_call 67; first
        | (with_reducible refine (ka.out g _ m (by assumption) (by assumption)).mono ?_; rintro e X3 ⟨ga, rfl, hb3, hX3, hg3, hta, hga⟩)
        | (with_reducible refine (kb.out g _ m (by assumption) (by assumption)).mono ?_; rintro e X4 ⟨gb, rfl, hb4, hX4, hg4, htb, hgb⟩)))
  all_goals
    have hJ : JnW w p q A A' x.hs.length y.hs.length c c' g ga gb m fa fb (fun i => if i < 0 then F i else 0) X4 := ⟨hX4, hg4.congr fun i _ => by simp, hta.up hb4, htb⟩
    clear hXd hbd
    replace hX3 := Lib.hid hX3
    replace hX4 := Lib.hid hX4
    replace hg3 := Lib.hid hg3
    replace hg4 := Lib.hid hg4
    replace hta := Lib.hid hta
    replace htb := Lib.hid htb
    replace hJ := Lib.hid hJ
    go_wp2
    go_loopw [21] (fun i X => ∃ k : Nat, k ≤ m ∧ i = .int .i64 (k : Nat) ∧ JnW w p q A A' x.hs.length y.hs.length c c' g ga gb m fa fb (fun i => if i < k then F i else 0) X) (fun i _ => m - (intOf i).toNat)
    case atStart => exact ⟨0, Nat.zero_le _, rfl, hJ.out⟩
    case round =>
      obtain ⟨k, hk, rfl, hX⟩ := hrel
      by_cases hlt : k < m
      · have hra : k % p < p := Nat.mod_lt _ (by omega)
        have hrb : k % q < q := Nat.mod_lt _ (by omega)
        have ea := hX.ta.cell hra
        have eb := hX.tb.cell hrb
        rw [pa'.out k] at ea
        rw [pb'.out k] at eb
        have ma : ((k : Int)).tmod (p : Int) = ((k % p : Nat) : Int) := rfl
        have mb : ((k : Int)).tmod (q : Int) = ((k % q : Nat) : Int) := rfl
        have hF := hcn'.out k
        have eo := hX.out.cell hlt
        simp only [Nat.lt_irrefl, if_false] at eo
        have ez := hX.out.fz k
        have el := hX.out.lt
        have hset := fun v => hX.set hg1 hga hgb hlt v
        have hfin : ∀ (Y : World) (G : Nat → Int), JnW w p q A A' x.hs.length y.hs.length c c' g ga gb m fa fb G Y → (∀ i, ¬ i = k → G i = if i < k then F i else 0) → G k = F k → JnW w p q A A' x.hs.length y.hs.length c c' g ga gb m fa fb (fun i => if i < k + 1 then F i else 0) Y := fun Y G hY h1 h2 => hY.congr fun i _ => by
          by_cases e : i = k
          · subst e; simp [h2]
          · rw [h1 i e]
            by_cases e' : i < k
            · simp [e', Nat.lt_succ_of_lt e']
            · have : ¬ i < k + 1 := by omega
              simp [e', this]
        obtain ⟨c0, c1, d0, d1⟩ := hX.on.cells
        have hX1s := hset 1
        have eb1 := hX1s.tb.cell hrb
        rw [pb'.out k] at eb1
        obtain ⟨g0, g1, g2, g3⟩ := hX1s.on.cells
        have eo1 := hX1s.out.cell hlt
        have ez1 := hX1s.out.fz k
        have el1 := hX1s.out.lt
        simp only [if_true] at eo1
        have hset2 := hX1s.set hg1 hga hgb hlt 2
        generalize k % p = ra at *
        generalize k % q = rb at *
        cases ha : fa k with
        | false =>
          rw [ha] at ea hF
          cases hb : fb k with
          | false =>
            rw [hb] at eb hF
            have h1 := hfin wr _ hX (fun i hi => rfl) (by simp [hF])
            clear hset hfin hX1s eb1 g0 g1 g2 g3 eo1 ez1 el1 hset2
            replace h1 := Lib.hid h1
            replace ha := Lib.hid ha
            replace hb := Lib.hid hb
            replace hF := Lib.hid hF
            replace hX := Lib.hid hX
            go_wp2
            go_roundw
            case rel => exact ⟨k + 1, by omega, by go_num, h1.out⟩
            case measure => simp [intOf]; omega
          | true =>
            rw [hb] at eb hF
            have h1 := hfin _ _ (hset 1) (fun i hi => by simp [hi]) (by simp [hF])
            clear hset hfin hX1s eb1 g0 g1 g2 g3 eo1 ez1 el1 hset2
            replace h1 := Lib.hid h1
            replace ha := Lib.hid ha
            replace hb := Lib.hid hb
            replace hF := Lib.hid hF
            replace hX := Lib.hid hX
            go_wp2
            go_roundw
            case rel => exact ⟨k + 1, by omega, by go_num, h1.out⟩
            case measure => simp [intOf]; omega
        | true =>
          rw [ha] at ea hF
          cases hb : fb k with
          | false =>
            rw [hb] at eb1 hF
            have h1 := hfin _ _ (hset 1) (fun i hi => by simp [hi]) (by simp [hF])
            clear hset hfin eb
            replace h1 := Lib.hid h1
            replace ha := Lib.hid ha
            replace hb := Lib.hid hb
            replace hF := Lib.hid hF
            replace hX := Lib.hid hX
            replace hX1s := Lib.hid hX1s
            replace hset2 := Lib.hid hset2
            go_wp2
            go_roundw
            case rel => exact ⟨k + 1, by omega, by go_num, h1.out⟩
            case measure => simp [intOf]; omega
          | true =>
            rw [hb] at eb1 hF
            have h1 := hfin _ _ hset2 (fun i hi => by simp [hi]) (by simp [hF])
            clear hset hfin eb
            replace h1 := Lib.hid h1
            replace ha := Lib.hid ha
            replace hb := Lib.hid hb
            replace hF := Lib.hid hF
            replace hX := Lib.hid hX
            replace hX1s := Lib.hid hX1s
            replace hset2 := Lib.hid hset2
            go_wp2
            go_roundw
            case rel => exact ⟨k + 1, by omega, by go_num, h1.out⟩
            case measure => simp [intOf]; omega
      · have hk' : k = m := by omega
        subst hk'
        have hend := hX.out.congr (f' := F) fun i hi => by simp [hi]
        have hbe := hX.on.below
        replace hX := Lib.hid hX
        replace hend := Lib.hid hend
        replace hbe := Lib.hid hbe
        go_wp2
        exact bodyPost_ret (v := .slice (some ⟨g, 0, none⟩) k k) (by simp [results, Try.results102, go_sem]) rfl ⟨g, rfl, hbe.out, by omega, hend.out⟩
end Go.Proofs.Ytlnpnfjdcnijhaa
