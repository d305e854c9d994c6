/-
  The opening of a window: the program's function.
-/
import Derived.Test.YtlnpnfjdcnijhaaO
import Derived.Laws.EntriesVeiled
namespace Go.Proofs.Ytlnpnfjdcnijhaa
open Go.RowKit Go.Deep M
set_option linter.unusedVariables false
set_option linter.unusedSimpArgs false

def OpenR (w : World) (p : Int) (f : Int → Bool) (e : Ending) (w' : World) : Prop := ∃ F, e = .returned (.agg #[.int .i64 p, F]) ∧ Below w.heap.size w w' ∧ Opn w' w'.heap.size F f

/-- The world in which openingOf runs. -/
structure OpW (w : World) (p n c : Nat) (A : Option Addr) (f : Nat → Bool) (X : World) : Prop where
  below : Below w.heap.size w X
  b1 : BxW X w.heap.size p A n c
  b2 : X.heap[w.heap.size + 1]? = some (.cells #[.int .i64 0, .nilFunc] 74 (0, 0))
  b3 : X.heap[w.heap.size + 1 + 1 + 1]? = some (.cells #[.slice (some ⟨w.heap.size + 1 + 1, 0, none⟩) p p] 76 (0, 0))
  b4 : BlB X (w.heap.size + 1 + 1) p f
def opW0 (w : World) (p n c : Nat) (A : Option Addr) : World :=
  (mkB ((w.alloc (.cells #[.int .i64 p, .slice A n c] 24)).alloc (.cells #[.int .i64 0, .nilFunc] 74)) p).alloc (.cells #[.slice (some ⟨w.heap.size + 1 + 1, 0, none⟩) p p] 76)
theorem opW_new (w : World) (p n c : Nat) (A : Option Addr) : OpW w p n c A (fun _ => false) (opW0 w p n c A) := by
  unfold opW0
  obtain ⟨w1, h1⟩ : ∃ w1, w1 = w.alloc (.cells #[.int .i64 p, .slice A n c] 24) := ⟨_, rfl⟩
  have s1 : w1.heap.size = w.heap.size + 1 := by rw [h1]; simp
  have e1 : BxW w1 w.heap.size p A n c := by rw [h1]; exact BxW.new w p A n c
  have l1 : Below w.heap.size w w1 := by rw [h1]; exact ba1 _ _
  rw [← h1]
  obtain ⟨w2, h2⟩ : ∃ w2, w2 = w1.alloc (.cells #[.int .i64 0, .nilFunc] 74) := ⟨_, rfl⟩
  have s2 : w2.heap.size = w.heap.size + 1 + 1 := by rw [h2]; simp [s1]
  have e2 : w2.heap[w.heap.size + 1]? = some (.cells #[.int .i64 0, .nilFunc] 74 (0, 0)) := by rw [h2, ← s1]; exact heap_alloc_new _ _
  have l2 : Below w1.heap.size w1 w2 := by rw [h2]; exact ba1 _ _
  rw [← h2]
  have e3 := mkB_blk w2 p
  have l3 := mkB_below w2 p
  have s3 := mkB_size w2 p
  obtain ⟨w3, h3⟩ : ∃ w3, w3 = mkB w2 p := ⟨_, rfl⟩
  rw [← h3] at e3 l3 s3 ⊢
  rw [s2] at e3 s3
  have l4 := ba1 w3 (.cells #[.slice (some ⟨w.heap.size + 1 + 1, 0, none⟩) p p] 76)
  have e4 := heap_alloc_new w3 (.cells #[.slice (some ⟨w.heap.size + 1 + 1, 0, none⟩) p p] 76)
  rw [s3] at e4
  have l12 := l1.trans (l2.mono l1.size)
  have l13 := l12.trans (l3.mono l12.size)
  refine ⟨l13.trans (l4.mono l13.size), ((e1.up l2).up l3).up l4, ?_, e4, e3.up l4⟩
  have k3 : w3.heap[w.heap.size + 1]? = w2.heap[w.heap.size + 1]? := l3.block _ (by omega)
  have k4 := l4.block (w.heap.size + 1) (by omega)
  rw [k4, k3]; exact e2
theorem OpW.set {w X : World} {p n c : Nat} {A : Option Addr} {f : Nat → Bool} (h : OpW w p n c A f X) {j : Nat} (hj : j < p) : OpW w p n c A (fun i => if i = j then true else f i) (X.setCell ⟨w.heap.size + 1 + 1, j, none⟩ (.bool true)) := by
  have hne : ∀ b, b ≠ w.heap.size + 1 + 1 → (X.setCell ⟨w.heap.size + 1 + 1, j, none⟩ (.bool true)).heap[b]? = X.heap[b]? := fun b hb => by
    simp [World.setCell, Array.getElem?_modify, Ne.symm hb]
  exact ⟨h.below.setCell (le2 _) _, h.b1.to (hne _ (by omega)), (hne _ (by omega)).trans h.b2, (hne _ (by omega)).trans h.b3, h.b4.set hj true⟩
theorem OpW.congr {w X : World} {p n c : Nat} {A : Option Addr} {f f' : Nat → Bool} (h : OpW w p n c A f X) (e : ∀ i, i < p → f i = f' i) : OpW w p n c A f' X := ⟨h.below, h.b1, h.b2, h.b3, h.b4.congr e⟩

theorem setCell_far {X : World} {a : Addr} {v : Value} {b : Nat} (h : b ≠ a.block) : (X.setCell a v).heap[b]? = X.heap[b]? := by
  simp [World.setCell, Array.getElem?_modify, Ne.symm h]
theorem setCell_sz (X : World) (a : Addr) (v : Value) : (X.setCell a v).heap.size = X.heap.size := by simp [World.setCell]
theorem opW_end {w X : World} {x : Wn} {p n c : Nat} {A : Option Addr} (h : OpW w p n c A (opN x x.hs.length) X) (hp : x.p = (p : Nat)) (hp1 : 1 ≤ p ∧ p ≤ 1000000) (v0 v1 : Value) :
    Below w.heap.size w ((X.setCell ⟨w.heap.size + 1, 0, none⟩ v0).setCell ⟨w.heap.size + 1, 1, none⟩ v1) ∧
    Opn ((X.setCell ⟨w.heap.size + 1, 0, none⟩ v0).setCell ⟨w.heap.size + 1, 1, none⟩ v1) ((X.setCell ⟨w.heap.size + 1, 0, none⟩ v0).setCell ⟨w.heap.size + 1, 1, none⟩ v1).heap.size (.func (Fn.func 98) #[] #[.pointer (some ⟨w.heap.size + 1 + 1 + 1, 0, none⟩)]) (opB x) := by
  obtain ⟨Y, hY⟩ : ∃ Y, Y = (X.setCell ⟨w.heap.size + 1, 0, none⟩ v0).setCell ⟨w.heap.size + 1, 1, none⟩ v1 := ⟨_, rfl⟩
  have hb : Below w.heap.size w Y := by rw [hY]; exact (h.below.setCell (Nat.le_succ _) _).setCell (Nat.le_succ _) _
  have k3 : Y.heap[w.heap.size + 1 + 1 + 1]? = some (.cells #[.slice (some ⟨w.heap.size + 1 + 1, 0, none⟩) p p] 76 (0, 0)) := by
    rw [hY, setCell_far (show w.heap.size + 1 + 1 + 1 ≠ w.heap.size + 1 by omega), setCell_far (show w.heap.size + 1 + 1 + 1 ≠ w.heap.size + 1 by omega)]; exact h.b3
  have k4 : BlB Y (w.heap.size + 1 + 1) p (opN x x.hs.length) := h.b4.to (by
    rw [hY, setCell_far (show w.heap.size + 1 + 1 ≠ w.heap.size + 1 by omega), setCell_far (show w.heap.size + 1 + 1 ≠ w.heap.size + 1 by omega)])
  rw [← hY]
  have hlt := blk_lt k3
  refine ⟨hb, 98, _, rfl, enter98, fun Z hZ hBZ hh hhr => ?_⟩
  have e3 : Z.cell? ⟨w.heap.size + 1 + 1 + 1, 0, none⟩ = some (.slice (some ⟨w.heap.size + 1 + 1, 0, none⟩) p p) := by
    have : Z.heap[w.heap.size + 1 + 1 + 1]? = _ := (hZ.block _ hlt).trans k3
    simp [World.cell?, this]
  have h1 := Int.emod_nonneg hh (show (p : Int) ≠ 0 by omega)
  have := open1_any (w.heap.size + 1 + 1 + 1) (w.heap.size + 1 + 1) p (opN x x.hs.length) hh Z e3 (k4.up hZ) hp1 (by omega)
  rw [← opB_eq (x := x) (h := hh) (j := (hh % (p : Int)).toNat) (by rw [hp]; omega)] at this
  exact this

set_option maxRecDepth 100000 in
set_option maxHeartbeats 4000000 in
theorem openingOf_any (B : Nat) (A : Option Addr) (c : Nat) (x : Wn) (w : World) (h : Row w B A x.hs) (hB : B ≤ w.heap.size) (hv : winB x 3600 = true) :
    Calls Try.prog 65 #[wnV x.p A x.hs.length c] w (OpenR w x.p (opB x)) := by
  obtain ⟨⟨p1, p2⟩, hg⟩ := winB_iff.1 hv
  obtain ⟨p, hp⟩ := Int.eq_ofNat_of_zero_le (show 0 ≤ x.p by omega)
  have h63 := h.1
  unfold wnV
  rw [hp] at p1 p2 ⊢
  have hx := BxW.new w p A x.hs.length c
  have c0 := hx.c0
  have hW := opW_new w p x.hs.length c A
  have c1 := hW.b1.c1
  unfold opW0 at c1
  have hmk := fun W => run_mkB W p (by omega)
  have hms : (mkB ((w.alloc (.cells #[.int .i64 (p : Int), .slice A x.hs.length c] 24)).alloc (.cells #[.int .i64 0, .nilFunc] 74)) p).heap.size = w.heap.size + 1 + 1 + 1 := by rw [mkB_size]; simp
  have hW0 : opW0 w p x.hs.length c A = (mkB ((w.alloc (.cells #[.int .i64 p, .slice A x.hs.length c] 24)).alloc (.cells #[.int .i64 0, .nilFunc] 74)) p).alloc (.cells #[.slice (some ⟨w.heap.size + 1 + 1, 0, none⟩) p p] 76) := rfl
  replace hW := Lib.hid hW
  replace hW0 := Lib.hid hW0
  replace hg := Lib.hid hg
  replace hx := Lib.hid hx
  go_enter Try.func65, Try.ntmps65
  go_wp2_with fail
  rw [← hW0.out]
  clear hW0 hmk hms c0 c1 hx
  go_loopw [12] (fun v X => ∃ k : Nat, k ≤ x.hs.length ∧ v = .int .i64 (k : Nat) ∧ OpW w p x.hs.length c A (opN x k) X) (fun v _ => x.hs.length - (intOf v).toNat)
  case atStart => exact ⟨0, Nat.zero_le _, rfl, hW.out.congr fun i _ => (opN_zero x i).symm⟩
  case round =>
    obtain ⟨k, hk, rfl, hX⟩ := hrel
    have b3c : wr.cell? ⟨w.heap.size + 1 + 1 + 1, 0, none⟩ = some (.slice (some ⟨w.heap.size + 1 + 1, 0, none⟩) p p) := by simp [World.cell?, hX.b3]
    by_cases hlt : k < x.hs.length
    · have hr := h.below (hX.below.mono hB)
      obtain ⟨b, o, rfl, hb, hc⟩ := hr.at_ k hlt
      have hz0 := gds_pos hg.out k hlt
      have hz1 := (hg.out k hlt).2
      obtain ⟨z, hz⟩ := Int.eq_ofNat_of_zero_le hz0
      have hs := opN_succ hz
      rw [hz] at hc hz1
      rw [hp] at hz1
      have hzp : z < p := by omega
      have hzc := hX.b4.cell hzp
      have hzf := hX.b4.fz z
      have hY := (hX.set hzp).congr (f' := opN x (k + 1)) fun i _ => (hs i).symm
      have hlt4 := hX.b4.lt
      clear hz0 hs
      replace hX := Lib.hid hX
      replace hr := Lib.hid hr
      replace hz := Lib.hid hz
      replace hY := Lib.hid hY
      go_wp2
      go_roundw
      case rel => exact ⟨k + 1, by omega, by go_num, hY.out⟩
      case measure => simp [intOf]; omega
    · have hk' : k = x.hs.length := by omega
      subst hk'
      have z0 : wr.cell? ⟨w.heap.size + 1, 0, none⟩ = some (.int .i64 0) := by simp [World.cell?, hX.b2]
      have z1 : wr.cell? ⟨w.heap.size + 1, 1, none⟩ = some .nilFunc := by simp [World.cell?, hX.b2]
      have z2 : wr.frozen? ⟨w.heap.size + 1, 0, none⟩ = false := by simp [World.frozen?, hX.b2]
      have z3 : wr.frozen? ⟨w.heap.size + 1, 1, none⟩ = false := by simp [World.frozen?, hX.b2]
      have hend := opW_end hX hp (by omega) (.int .i64 p) (.func (Fn.func 98) #[] #[.pointer (some ⟨w.heap.size + 1 + 1 + 1, 0, none⟩)])
      replace hend := Lib.hid hend
      have h2 := hX.b2
      replace hX := Lib.hid hX
      go_wp2
      refine bodyPost_ret (v := .agg #[.int .i64 p, .func (Fn.func 98) #[] #[.pointer (some ⟨w.heap.size + 1 + 1 + 1, 0, none⟩)]]) ?_ rfl ⟨_, rfl, hend.out.1, hend.out.2⟩
      have y0 : ((wr.setCell ⟨w.heap.size + 1, 0, none⟩ (.int .i64 p)).setCell ⟨w.heap.size + 1, 1, none⟩ (.func (Fn.func 98) #[] #[.pointer (some ⟨w.heap.size + 1 + 1 + 1, 0, none⟩)])).cell? ⟨w.heap.size + 1, 0, none⟩ = some (.int .i64 p) := by
        simp [World.cell?, World.setCell, Array.getElem?_modify, h2]
      have y1 : ((wr.setCell ⟨w.heap.size + 1, 0, none⟩ (.int .i64 p)).setCell ⟨w.heap.size + 1, 1, none⟩ (.func (Fn.func 98) #[] #[.pointer (some ⟨w.heap.size + 1 + 1 + 1, 0, none⟩)])).cell? ⟨w.heap.size + 1, 1, none⟩ = some (.func (Fn.func 98) #[] #[.pointer (some ⟨w.heap.size + 1 + 1 + 1, 0, none⟩)]) := by
        simp [World.cell?, World.setCell, Array.getElem?_modify, h2]
      simp [results, Try.results65, go_sem, y0, y1]
end Go.Proofs.Ytlnpnfjdcnijhaa
