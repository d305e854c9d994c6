/-
  Part: by program and specification.
-/
import Derived.Test.YtlnpnfjdcnijhaaR
namespace Go.Proofs.Ytlnpnfjdcnijhaa
open Go.RowKit Go.Deep M
set_option linter.unusedVariables false
set_option linter.unusedSimpArgs false

namespace M
/-- What Part answers. -/
def partN (n p : Nat) : Nat × Nat := (n / Nat.gcd n p, p / Nat.gcd n p)
def partR (x : Wn) : (Int × Int) × Int := if winB x 3600 = true then ((((partN x.hs.length x.p.toNat).1 : Nat), ((partN x.hs.length x.p.toNat).2 : Nat)), 0) else ((0, 0), 50)
theorem len_le {x : Wn} {p : Nat} (hp : x.p = (p : Int)) (hg : Gds x x.hs.length) : x.hs.length ≤ p := by
  have key : ∀ k, k ≤ x.hs.length → k ≤ p ∧ (0 < k → ((k : Nat) : Int) ≤ el x.hs (k - 1) + 1) := by
    intro k
    induction k with
    | zero => intro _; exact ⟨Nat.zero_le _, fun h => absurd h (Nat.lt_irrefl _)⟩
    | succ k ih =>
      intro hk
      obtain ⟨i1, i2⟩ := ih (by omega)
      have h1 := hg k (by omega)
      have h2 := h1.1
      have h3 := h1.2
      have h4 : ((k : Nat) : Int) ≤ el x.hs k := by
        cases k with
        | zero => rw [lst_zero] at h2; exact h2
        | succ k => rw [lst_succ] at h2; have := i2 (by omega); rw [Nat.add_sub_cancel] at this; omega
      rw [Nat.add_sub_cancel]
      exact ⟨by omega, fun _ => by omega⟩
  exact (key _ (Nat.le_refl _)).1
end M
/-- A box of a part. -/
def BxP (w : World) (b : Nat) (x y : Int) : Prop := w.heap[b]? = some (.cells #[.int .i64 x, .int .i64 y] 33 (0, 0))
theorem BxP.lt {w : World} {b : Nat} {x y : Int} (h : BxP w b x y) : b < w.heap.size := blk_lt h
theorem BxP.c0 {w : World} {b : Nat} {x y : Int} (h : BxP w b x y) : w.cell? ⟨b, 0, none⟩ = some (.int .i64 x) := by simp [World.cell?, show w.heap[b]? = _ from h]
theorem BxP.c1 {w : World} {b : Nat} {x y : Int} (h : BxP w b x y) : w.cell? ⟨b, 1, none⟩ = some (.int .i64 y) := by simp [World.cell?, show w.heap[b]? = _ from h]
theorem BxP.fz {w : World} {b : Nat} {x y : Int} (h : BxP w b x y) (k : Nat) : w.frozen? ⟨b, k, none⟩ = false := by simp [World.frozen?, show w.heap[b]? = _ from h]
theorem BxP.up {w w' : World} {b : Nat} {x y : Int} (h : BxP w b x y) (hb : Below w.heap.size w w') : BxP w' b x y := (hb.block b h.lt).trans h
theorem BxP.set {w : World} {b : Nat} {x y : Int} (h : BxP w b x y) (x' y' : Int) : BxP ((w.setCell ⟨b, 0, none⟩ (.int .i64 x')).setCell ⟨b, 1, none⟩ (.int .i64 y')) b x' y' := by
  unfold BxP at *
  simp [World.setCell, Array.getElem?_modify, h]
/-- The world in which Part runs. -/
structure PtW (w : World) (p : Int) (A : Option Addr) (n c : Nat) (X : World) : Prop where
  on : OnW w p A n c X
  box : BxP X (w.heap.size + 1) 0 0
theorem PtW.up {w X Y : World} {p : Int} {A : Option Addr} {n c : Nat} (h : PtW w p A n c X) (hb : Below X.heap.size X Y) : PtW w p A n c Y := ⟨h.on.up hb, h.box.up hb⟩
theorem PtW.drewN {w X : World} {p : Int} {A : Option Addr} {n c : Nat} (h : PtW w p A n c X) (k : Nat) : PtW w p A n c (X.drewN k) := ⟨⟨below_drewN h.on.below k, h.on.box⟩, h.box⟩
theorem PtW.drew {w X : World} {p : Int} {A : Option Addr} {n c : Nat} (h : PtW w p A n c X) : PtW w p A n c X.drew := ⟨h.on.drew, h.box⟩
theorem ptW_new (w : World) (p : Int) (A : Option Addr) (n c : Nat) : PtW w p A n c ((w.alloc (.cells #[.int .i64 p, .slice A n c] 24)).alloc (.cells #[.int .i64 0, .int .i64 0] 33)) := by
  refine ⟨(onW_new w p A n c).up (ba1 _ _), ?_⟩
  have := heap_alloc_new (w.alloc (.cells #[.int .i64 p, .slice A n c] 24)) (.cells #[.int .i64 0, .int .i64 0] 33)
  rwa [show (w.alloc (.cells #[.int .i64 p, .slice A n c] 24)).heap.size = w.heap.size + 1 by simp] at this

/-- The first error of one window; all that was in memory before stays. -/
theorem chk_b {B : Nat} {A : Option Addr} {c : Nat} {x : Wn} {w X : World} (h : Row w B A x.hs) (hB : B ≤ w.heap.size) (hX : OnW w x.p A x.hs.length c X) (fits : Bool) (most : Int) (hm : most ≤ 1000000) :
    Calls Try.prog 63 #[.int .i64 most, .bool fits, .slice (some ⟨X.heap.size, 0, none⟩) 1 1] (X.alloc (.cells #[.int .i64 x.p, .slice A x.hs.length c] 24)) fun e w' => e = .returned (.int .i64 (errW [⟨x, A, c⟩] most fits)) ∧ Below X.heap.size X w' := by
  have hr := h.below (hX.below.mono hB)
  have hBX := Nat.le_trans hB hX.below.size
  have hw := wds1 (w := X) ⟨x, A, c⟩ hr hBX
  have hb := ba1 X (.cells #[.int .i64 x.p, .slice A x.hs.length c] 24)
  have := checkedW_any (X.heap.size + 1) _ 1 [⟨x, A, c⟩] most fits _ hw (by simp) hm
  exact this.mono fun e w' ⟨he, hb'⟩ => ⟨he, hb.trans (hb'.mono hb.size)⟩

set_option maxRecDepth 100000 in
set_option maxHeartbeats 2000000 in
theorem Part_any (B : Nat) (A : Option Addr) (c : Nat) (x : Wn) (w : World) (h : Row w B A x.hs) (hB : B ≤ w.heap.size) :
    Calls Try.prog 26 #[wnV x.p A x.hs.length c] w fun e w' => e = .returned (.tuple #[.agg #[.int .i64 (partR x).1.1, .int .i64 (partR x).1.2], .int .i64 (partR x).2]) ∧ Below w.heap.size w w' := by
  have h63 := h.1
  have hW := ptW_new w x.p A x.hs.length c
  have c0 := hW.on.box.c0
  have c1 := hW.on.box.c1
  have c63 := (chk_b h hB hW.on true 3600 (by omega)).mono fun e w' ⟨he, hb⟩ => And.intro he (hW.up hb)
  rw [show ((w.alloc (.cells #[.int .i64 x.p, .slice A x.hs.length c] 24)).alloc (.cells #[.int .i64 0, .int .i64 0] 33)).heap.size = w.heap.size + 1 + 1 by simp] at c63
  unfold wnV at *
  cases hv : winB x 3600 with
  | false =>
    have hR : partR x = ((0, 0), 50) := by unfold partR; rw [hv]; simp
    rw [hR]
    have he : errW [⟨x, A, c⟩] 3600 true = 50 := by unfold errW; rw [wnsB1, hv]; simp
    rw [he] at c63
    replace hW := Lib.hid hW
    replace c63 := Lib.hid c63
    replace hv := Lib.hid hv
    replace hR := Lib.hid hR
    replace he := Lib.hid he
    go_enter Try.func26, Try.ntmps26
    go_wp2_with fail
    refine c63.out.mono ?_
    rintro e X1 ⟨rfl, hX1⟩
    have z0 := hX1.box.fz 0
    have z1 := hX1.box.fz 1
    have z2 := hX1.box.c0
    have z3 := hX1.box.c1
    have hs := hX1.box.set 0 0
    have y0 := hs.c0
    have y1 := hs.c1
    have hl := hX1.box.lt
    have hz := (hX1.on.below.setCell (p := ⟨w.heap.size + 1, 0, none⟩) (Nat.le_succ _) (.int .i64 0)).setCell (p := ⟨w.heap.size + 1, 1, none⟩) (Nat.le_succ _) (.int .i64 0)
    replace hs := Lib.hid hs
    replace hX1 := Lib.hid hX1
    replace hz := Lib.hid hz
    go_wp2
    exact bodyPost_ret (v := .tuple #[.agg #[.int .i64 0, .int .i64 0], .int .i64 50]) (by simp [results, Try.results26, go_sem, y0, y1]) rfl ⟨rfl, hz.out⟩
  | true =>
    obtain ⟨⟨p1, p2⟩, hg⟩ := winB_iff.1 hv
    obtain ⟨p, hp⟩ := Int.eq_ofNat_of_zero_le (show 0 ≤ x.p by omega)
    have hlp := len_le hp hg
    have hR : partR x = (((((partN x.hs.length p).1 : Nat) : Int), (((partN x.hs.length p).2 : Nat) : Int)), 0) := by unfold partR; rw [hv, hp, Int.toNat_natCast]; simp
    rw [hR]
    unfold partN
    simp only []
    have he : errW [⟨x, A, c⟩] 3600 true = 0 := by unfold errW; rw [wnsB1, hv]; simp
    rw [he] at c63
    rw [hp] at c0 p1 p2 ⊢
    rw [hp] at c63 hW
    have hp4 : p ≤ 4000 := by omega
    have c71 := fun W => divisor_any x.hs.length p 4000 W (by omega) (by omega) (by omega)
    have hg1 : 1 ≤ Nat.gcd x.hs.length p := Nat.gcd_pos_of_pos_right _ (by omega)
    have hg9 : Nat.gcd x.hs.length p ≤ 4000 := Nat.le_trans (Nat.gcd_le_right _ (by omega)) hp4
    have hq1 : x.hs.length / Nat.gcd x.hs.length p ≤ 4000 := Nat.le_trans (Nat.div_le_self _ _) (by omega)
    have hq2 : p / Nat.gcd x.hs.length p ≤ 4000 := Nat.le_trans (Nat.div_le_self _ _) (by omega)
    have t1 := tdiv_nat x.hs.length (Nat.gcd x.hs.length p)
    have t2 := tdiv_nat p (Nat.gcd x.hs.length p)
    have hl4 : x.hs.length ≤ 4000 := by omega
    generalize x.hs.length / Nat.gcd x.hs.length p = q1 at *
    generalize p / Nat.gcd x.hs.length p = q2 at *
    generalize Nat.gcd x.hs.length p = g at *
    have hgi : ¬ ((g : Int) = 0) := by omega
    have hgi1 : (1 : Int) ≤ (g : Int) := by omega
    have w1 : IntKind.i64.wrap (g : Int) = (g : Int) := IntWalk.i64_in _ (by omega)
    have w2 : IntKind.i64.wrap (q1 : Int) = (q1 : Int) := IntWalk.i64_in _ (by omega)
    have w3 : IntKind.i64.wrap (q2 : Int) = (q2 : Int) := IntWalk.i64_in _ (by omega)
    have w4 : IntKind.i64.wrap (p : Int) = (p : Int) := IntWalk.i64_in _ (by omega)
    have w5 : IntKind.i64.wrap (x.hs.length : Int) = (x.hs.length : Int) := IntWalk.i64_in _ (by omega)
    have hgn : ¬ g = 0 := by omega
    clear hg hlp
    replace hW := Lib.hid hW
    replace c63 := Lib.hid c63
    replace c71 := Lib.hid c71
    replace hv := Lib.hid hv
    replace hR := Lib.hid hR
    replace he := Lib.hid he
    replace hp := Lib.hid hp
    go_enter Try.func26, Try.ntmps26
    go_wp2_with fail
    refine c63.out.mono ?_
    rintro e X1 ⟨rfl, hX1⟩
    have f0 := hX1.on.box.c0
    have f1 := hX1.on.box.c1
    replace hX1 := Lib.hid hX1
    go_wp2_with fail
    refine (c71.out _).mono ?_
    rintro e X2 ⟨rfl, k, hk⟩
    have hX2 : PtW w p A x.hs.length c X2 := by rw [hk]; exact hX1.out.drewN k
    clear hk
    have hXd := hX2.drew
    have k0 := hXd.on.cells
    have z4 := hX2.box.fz 0
    have z5 := hX2.box.fz 1
    have z6 := hX2.box.c0
    have z7 := hX2.box.c1
    have hl2 := hX2.box.lt
    have hs := hX2.box.set q1 q2
    have y0 := hs.c0
    have y1 := hs.c1
    have hb2 : BxW ((X2.setCell ⟨w.heap.size + 1, 0, none⟩ (.int .i64 q1)).setCell ⟨w.heap.size + 1, 1, none⟩ (.int .i64 q2)) w.heap.size p A x.hs.length c := hX2.on.box.to (by
      rw [setCell_far (show w.heap.size ≠ w.heap.size + 1 by omega), setCell_far (show w.heap.size ≠ w.heap.size + 1 by omega)])
    have k1 : ((X2.setCell ⟨w.heap.size + 1, 0, none⟩ (.int .i64 q1)).setCell ⟨w.heap.size + 1, 1, none⟩ (.int .i64 q2)).drew.cell? ⟨w.heap.size, 0, none⟩ = some (.int .i64 p) ∧ ((X2.setCell ⟨w.heap.size + 1, 0, none⟩ (.int .i64 q1)).setCell ⟨w.heap.size + 1, 1, none⟩ (.int .i64 q2)).drew.cell? ⟨w.heap.size, 1, none⟩ = some (.slice A x.hs.length c) := ⟨hb2.c0, hb2.c1⟩
    have hz := below_drew ((hX2.on.below.setCell (p := ⟨w.heap.size + 1, 0, none⟩) (Nat.le_succ _) (.int .i64 q1)).setCell (p := ⟨w.heap.size + 1, 1, none⟩) (Nat.le_succ _) (.int .i64 q2))
    replace hs := Lib.hid hs
    replace hb2 := Lib.hid hb2
    replace hX2 := Lib.hid hX2
    replace hXd := Lib.hid hXd
    replace hz := Lib.hid hz
    go_wp2_with fail
    go_region_held3 (fun X => X.cell? ⟨w.heap.size, 0, none⟩ = some (.int .i64 p) ∧ X.cell? ⟨w.heap.size, 1, none⟩ = some (.slice A x.hs.length c))
      (first | with_reducible exact k0 | with_reducible exact k1)
      (fail)
    go_wp2
    exact bodyPost_ret (v := .tuple #[.agg #[.int .i64 q1, .int .i64 q2], .int .i64 0]) (by simp [results, Try.results26, go_sem, y0, y1]) rfl ⟨rfl, hz.out⟩
set_option maxRecDepth 100000 in
set_option maxHeartbeats 2000000 in
theorem Part_ref (B : Nat) (A : Option Addr) (c : Nat) (x : Wn) (w : World) (h : Row w B A x.hs) (hB : B ≤ w.heap.size) :
    Calls Try.prog 27 #[wnV x.p A x.hs.length c] w fun e w' => e = .returned (.tuple #[.agg #[.int .i64 (partR x).1.1, .int .i64 (partR x).1.2], .int .i64 (partR x).2]) ∧ Below w.heap.size w w' := by
  have h63 := h.1
  have hW := ptW_new w x.p A x.hs.length c
  have c0 := hW.on.box.c0
  have c1 := hW.on.box.c1
  have c58 := (Wide_ref B A c x _ (h.below (hW.on.below.mono hB)) (Nat.le_trans hB hW.on.below.size)).mono fun e w' ⟨he, hb⟩ => And.intro he (hW.up hb)
  unfold wnV at *
  cases hv : winB x 3600 with
  | false =>
    have hR : partR x = ((0, 0), 50) := by unfold partR; rw [hv]; simp
    rw [hR]
    rw [hv] at c58
    replace hW := Lib.hid hW
    replace c58 := Lib.hid c58
    replace hv := Lib.hid hv
    replace hR := Lib.hid hR
    go_enter Try.func27, Try.ntmps27
    go_wp2_with fail
    refine c58.out.mono ?_
    rintro e X1 ⟨rfl, hX1⟩
    have z0 := hX1.box.fz 0
    have z1 := hX1.box.fz 1
    have z2 := hX1.box.c0
    have z3 := hX1.box.c1
    have hs := hX1.box.set 0 0
    have y0 := hs.c0
    have y1 := hs.c1
    have hl := hX1.box.lt
    have hz := (hX1.on.below.setCell (p := ⟨w.heap.size + 1, 0, none⟩) (Nat.le_succ _) (.int .i64 0)).setCell (p := ⟨w.heap.size + 1, 1, none⟩) (Nat.le_succ _) (.int .i64 0)
    replace hs := Lib.hid hs
    replace hX1 := Lib.hid hX1
    replace hz := Lib.hid hz
    go_wp2
    exact bodyPost_ret (v := .tuple #[.agg #[.int .i64 0, .int .i64 0], .int .i64 50]) (by simp [results, Try.results27, go_sem, y0, y1]) rfl ⟨rfl, hz.out⟩
  | true =>
    obtain ⟨⟨p1, p2⟩, hg⟩ := winB_iff.1 hv
    obtain ⟨p, hp⟩ := Int.eq_ofNat_of_zero_le (show 0 ≤ x.p by omega)
    have hlp := len_le hp hg
    have hR : partR x = (((((partN x.hs.length p).1 : Nat) : Int), (((partN x.hs.length p).2 : Nat) : Int)), 0) := by unfold partR; rw [hv, hp, Int.toNat_natCast]; simp
    rw [hR]
    unfold partN
    simp only []
    rw [hv] at c58
    rw [hp] at c0 p1 p2 ⊢
    rw [hp] at c58 hW
    have hp4 : p ≤ 4000 := by omega
    have hg1 : 1 ≤ Nat.gcd x.hs.length p := Nat.gcd_pos_of_pos_right _ (by omega)
    have hg9 : Nat.gcd x.hs.length p ≤ 4000 := Nat.le_trans (Nat.gcd_le_right _ (by omega)) hp4
    have hq1 : x.hs.length / Nat.gcd x.hs.length p ≤ 4000 := Nat.le_trans (Nat.div_le_self _ _) (by omega)
    have hq2 : p / Nat.gcd x.hs.length p ≤ 4000 := Nat.le_trans (Nat.div_le_self _ _) (by omega)
    have t1 := tdiv_nat x.hs.length (Nat.gcd x.hs.length p)
    have t2 := tdiv_nat p (Nat.gcd x.hs.length p)
    have hl4 : x.hs.length ≤ 4000 := by omega
    generalize x.hs.length / Nat.gcd x.hs.length p = q1 at *
    generalize p / Nat.gcd x.hs.length p = q2 at *
    obtain ⟨g, hgg⟩ : ∃ g, Nat.gcd x.hs.length p = g := ⟨_, rfl⟩
    rw [hgg] at hg1 hg9 t1 t2
    clear hg hlp
    replace hgg := Lib.hid hgg
    replace hW := Lib.hid hW
    replace c58 := Lib.hid c58
    replace hv := Lib.hid hv
    replace hR := Lib.hid hR
    replace hp := Lib.hid hp
    go_enter Try.func27, Try.ntmps27
    go_wp2_with fail
    refine c58.out.mono ?_
    rintro e X1 ⟨rfl, hX1⟩
    have f0 := hX1.on.box.c0
    have f1 := hX1.on.box.c1
    replace hX1 := Lib.hid hX1
    go_wp2_with fail
    go_quiet (fail)
    go_wp2
    go_loopw [4, 5] (fun a b wr => ∃ i j k : Nat, a = .int .i64 i ∧ b = .int .i64 j ∧ i ≤ 4000 ∧ j ≤ 4000 ∧ Nat.gcd i j = g ∧ wr = X1.drewN k) (fun _ b _ => (intOf b).toNat)
    case atStart => exact ⟨x.hs.length, p, nq, rfl, rfl, hl4, hp4, hgg.out, rfl⟩
    case round =>
      obtain ⟨i, j, k, rfl, rfl, hi, hj, hgg', hw⟩ := hrel
      have hX2 : PtW w p A x.hs.length c wr := by rw [hw]; exact hX1.out.drewN k
      replace hw := Lib.hid hw
      by_cases h0 : j = 0
      · subst h0
        rw [Nat.gcd_zero_right] at hgg'
        subst hgg'
        have h0' : (((0 : Nat) : Int) != 0) = false := by simp
        have hgn : ¬ i = 0 := by omega
        have w2 : IntKind.i64.wrap (q1 : Int) = (q1 : Int) := IntWalk.i64_in _ (by omega)
        have w3 : IntKind.i64.wrap (q2 : Int) = (q2 : Int) := IntWalk.i64_in _ (by omega)
        have hgi : ¬ ((i : Int) = 0) := by omega
        have hgi1 : (1 : Int) ≤ (i : Int) := by omega
        have hXd := hX2.drew
        have k0 := hXd.on.cells
        have z4 := hX2.box.fz 0
        have z5 := hX2.box.fz 1
        have z6 := hX2.box.c0
        have z7 := hX2.box.c1
        have hl2 := hX2.box.lt
        have hs := hX2.box.set q1 q2
        have y0 := hs.c0
        have y1 := hs.c1
        have hb2 : BxW ((wr.setCell ⟨w.heap.size + 1, 0, none⟩ (.int .i64 q1)).setCell ⟨w.heap.size + 1, 1, none⟩ (.int .i64 q2)) w.heap.size p A x.hs.length c := hX2.on.box.to (by
          rw [setCell_far (show w.heap.size ≠ w.heap.size + 1 by omega), setCell_far (show w.heap.size ≠ w.heap.size + 1 by omega)])
        have k1 : ((wr.setCell ⟨w.heap.size + 1, 0, none⟩ (.int .i64 q1)).setCell ⟨w.heap.size + 1, 1, none⟩ (.int .i64 q2)).drew.cell? ⟨w.heap.size, 0, none⟩ = some (.int .i64 p) ∧ ((wr.setCell ⟨w.heap.size + 1, 0, none⟩ (.int .i64 q1)).setCell ⟨w.heap.size + 1, 1, none⟩ (.int .i64 q2)).drew.cell? ⟨w.heap.size, 1, none⟩ = some (.slice A x.hs.length c) := ⟨hb2.c0, hb2.c1⟩
        have hz := below_drew ((hX2.on.below.setCell (p := ⟨w.heap.size + 1, 0, none⟩) (Nat.le_succ _) (.int .i64 q1)).setCell (p := ⟨w.heap.size + 1, 1, none⟩) (Nat.le_succ _) (.int .i64 q2))
        replace hs := Lib.hid hs
        replace hb2 := Lib.hid hb2
        replace hX2 := Lib.hid hX2
        replace hXd := Lib.hid hXd
        replace hz := Lib.hid hz
        go_wp2_with fail
        go_region_held3 (fun X => X.cell? ⟨w.heap.size, 0, none⟩ = some (.int .i64 p) ∧ X.cell? ⟨w.heap.size, 1, none⟩ = some (.slice A x.hs.length c))
          (first | with_reducible exact k0 | with_reducible exact k1)
          (fail)
        go_wp2
        exact bodyPost_ret (v := .tuple #[.agg #[.int .i64 q1, .int .i64 q2], .int .i64 0]) (by simp [results, Try.results27, go_sem, y0, y1]) rfl ⟨rfl, hz.out⟩
      · have h0' : ((j : Int) != 0) = true := by simp; omega
        have h1 : ¬ ((j : Int) = 0) := by omega
        have h2 : (1 : Int) ≤ (j : Int) := by omega
        have hmm : i % j < j := Nat.mod_lt _ (by omega)
        have hst := Lib.hid ((gcd_step i j).symm.trans hgg')
        have hee : ((i : Int)).tmod (j : Int) = ((i % j : Nat) : Int) := rfl
        clear hgg'
        replace hX2 := Lib.hid hX2
        go_wp2_with fail
        go_quiet (fail)
        go_wp2
        try rw [hee]
        go_roundw
        case rel => exact ⟨j, i % j, k + nq, rfl, rfl, hj, by omega, hst.out, by rw [hw.out, World.drewN_drewN]⟩
        case measure => simp [intOf]; omega
end Go.Proofs.Ytlnpnfjdcnijhaa
