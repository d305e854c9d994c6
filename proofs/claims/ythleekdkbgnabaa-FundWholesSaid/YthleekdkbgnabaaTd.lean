/-
  What claimants get who come in an order: Turn of the program, Turn of the specification.
-/
import Derived.Test.YthleekdkbgnabaaMathF
import Derived.Test.YthleekdkbgnabaaTc
namespace Go.Proofs.Ythleekdkbgnabaa
open Go.RowKit Go.Deep M
set_option linter.unusedVariables false
set_option linter.unusedSimpArgs false

/-! ### a block of booleans -/
def BlB (w : World) (g n : Nat) (f : Nat → Bool) : Prop := ∃ cs : Array Value, w.heap[g]? = some (.cells cs 4 (0, 0)) ∧ ∀ i, i < n → cs[i]? = some (.bool (f i))
theorem BlB.lt {w : World} {g n : Nat} {f : Nat → Bool} (h : BlB w g n f) : g < w.heap.size := by obtain ⟨cs, h1, _⟩ := h; exact blk_lt h1
theorem BlB.to {w w' : World} {g n : Nat} {f : Nat → Bool} (h : BlB w g n f) (hb : w'.heap[g]? = w.heap[g]?) : BlB w' g n f := by obtain ⟨cs, h1, h2⟩ := h; exact ⟨cs, hb.trans h1, h2⟩
theorem BlB.up {w w' : World} {g n : Nat} {f : Nat → Bool} (h : BlB w g n f) (hb : Below w.heap.size w w') : BlB w' g n f := h.to (hb.block g h.lt)
theorem BlB.cell {w : World} {g n i : Nat} {f : Nat → Bool} (h : BlB w g n f) (hi : i < n) : w.cell? ⟨g, i, none⟩ = some (.bool (f i)) := by obtain ⟨cs, h1, h2⟩ := h; simp [World.cell?, h1, h2 i hi]
theorem BlB.fz {w : World} {g n : Nat} {f : Nat → Bool} (h : BlB w g n f) (i : Nat) : w.frozen? ⟨g, i, none⟩ = false := by obtain ⟨cs, h1, _⟩ := h; simp [World.frozen?, h1]
theorem BlB.congr {w : World} {g n : Nat} {f f' : Nat → Bool} (h : BlB w g n f) (e : ∀ i, i < n → f i = f' i) : BlB w g n f' := by obtain ⟨cs, h1, h2⟩ := h; exact ⟨cs, h1, fun i hi => by rw [← e i hi]; exact h2 i hi⟩
theorem BlB.set {w : World} {g n j : Nat} {f : Nat → Bool} (h : BlB w g n f) (hj : j < n) (x : Bool) : BlB (w.setCell ⟨g, j, none⟩ (.bool x)) g n (fun i => if i = j then x else f i) := by
  obtain ⟨cs, h1, h2⟩ := h
  have hjs : j < cs.size := by have := h2 j hj; exact (Array.getElem?_eq_some_iff.1 this).1
  refine ⟨cs.setIfInBounds j (.bool x), by simp [World.setCell, Array.getElem?_modify, h1], fun i hi => ?_⟩
  rw [Array.getElem?_setIfInBounds]
  by_cases e : i = j
  · subst e
    simp [hjs]
  · have e2 : ¬ j = i := fun h => e h.symm
    simp [e, e2, h2 i hi]

theorem info4 : (Try.prog.info? 4).map (fun i => (i.zero, i.size, i.bytes)) = some (some (.bool false), 1, 1) := by kernel_rfl
def mkB (w : World) (n : Nat) : World := w.alloc (.cells (madeCells #[.bool false] n) 4)
theorem mkB_below (w : World) (n : Nat) : Below w.heap.size w (mkB w n) := ba1 _ _
theorem mkB_blk (w : World) (n : Nat) : BlB (mkB w n) w.heap.size n (fun _ => false) :=
  ⟨madeCells #[.bool false] n, heap_alloc_new w _, fun i hi => by unfold madeCells; simp [hi, Nat.mod_one]⟩
theorem run_mkB (w : World) (n : Nat) (hn : n ≤ 1000000) : (Instr.makeSlice 94 (.int .i64 n) (.int .i64 n)).run Try.prog w = .ok (.slice (some ⟨w.heap.size, 0, none⟩) n n) (mkB w n) := by
  have hi := info4
  cases h : Try.prog.info? 4 with
  | none => rw [h] at hi; cases hi
  | some i =>
    rw [h] at hi
    simp only [Option.map_some, Option.some.injEq, Prod.mk.injEq] at hi
    obtain ⟨h1, h2, h3⟩ := hi
    have := run_make (P := Try.prog) w 94 4 i (.bool false) Try.underlying94 h h1 .i64 .i64 (n : Int) (n : Int) (by omega) (Int.le_refl _) (by rw [h3]; omega) (by omega)
    rw [this, h2]
    simp [mkB, Value.cells]


namespace M
instance (o : List Int) (n : Nat) : Decidable (ordP o n) := by unfold ordP; infer_instance
def okU (l o : List Int) (e : Int) : Prop := okE l e ∧ ordP o l.length
instance (l o : List Int) (e : Int) : Decidable (okU l o e) := by unfold okU; infer_instance
def errU (l o : List Int) (e : Int) : Int := if okE l e then if ordP o l.length then 0 else 2 else errC l e
def tuN (l o : List Int) (e : Int) : Nat := if okU l o e then l.length else 0
end M
/-- Numbers that came out: none, or a block. -/
def ItF (X : World) (A : Option Addr) (N : Nat) (f : Nat → Int) : Prop := 0 < N → ∃ g, A = some ⟨g, 0, none⟩ ∧ BlI X g N f
def TuR (w : World) (n : Nat) (f : Nat → Int) (E : Int) (r : Ending) (w' : World) : Prop :=
  ∃ A N cp, r = .returned (.tuple #[.slice A N cp, .int .i64 E]) ∧ Below w.heap.size w w' ∧ N = n ∧ ItF w' A N f
theorem itf_none (X : World) (f : Nat → Int) : ItF X none 0 f := fun hh => absurd hh (Nat.lt_irrefl _)

set_option maxRecDepth 100000 in
set_option maxHeartbeats 2000000 in
theorem Turn_any (A Ao : Option Addr) (c co : Nat) (l o : List Int) (e : Int) (w : World) (h : Row w w.heap.size A l) (ho : Row w w.heap.size Ao o) :
    Calls Try.prog 45 #[.slice A l.length c, .slice Ao o.length co, .int .i64 e] w (TuR w (tuN l o e) (tuS l o e o.length).2 (errU l o e)) := by
  have hbw := Lib.hid (Below.refl w.heap.size w)
  unfold tuN errU TuR
  by_cases hk : okE l e
  · have k1 := checked_ok w.heap.size A c l e w h hk
    have hn := val_len hk.1
    have hup := fun X (hX : Below w.heap.size w X) => And.intro (h.up hX) (ho.up hX)
    rw [if_pos hk]
    by_cases hd : ordP o l.length
    · have hU : okU l o e := ⟨hk, hd⟩
      rw [if_pos hU, if_pos hd]
      have k2 := isOrder_any A Ao l.length c co o w ho hn.2 true ⟨fun _ => hd, fun _ => rfl⟩
      have hdi := ord_dif.1 hd
      have k3 := fun X (hX : Below w.heap.size w X) => turn_any A Ao c co l o e X (hup X hX).1 (hup X hX).2 hk hdi.1 (fun k hkk => by have := hdi.2.1 k (by omega); omega)
      generalize (tuS l o e o.length).2 = f at *
      generalize l.length = n at *
      generalize o.length = m at *
      replace k1 := Lib.hid k1
      replace k2 := Lib.hid k2
      replace k3 := Lib.hid k3
      replace h := Lib.hid h
      replace ho := Lib.hid ho
      replace hk := Lib.hid hk
      replace hd := Lib.hid hd
      replace hU := Lib.hid hU
      replace hdi := Lib.hid hdi
      replace hup := Lib.hid hup
      replace hn := Lib.hid hn
      go_enter Try.func45, Try.ntmps45
      go_wp2_with fail
      refine k1.out.mono ?_
      rintro _ X ⟨rfl, rfl⟩
      go_wp2_with fail
      refine k2.out.mono ?_
      rintro _ X1 ⟨rfl, hb1⟩
      have k4 := Lib.hid (k3.out X1 hb1)
      replace hb1 := Lib.hid hb1
      go_wp2_with fail
      refine k4.out.mono ?_
      rintro _ X2 ⟨g, rfl, hb2, hbl⟩
      have z2 := Lib.hid (bel_trans hb1.out hb2)
      have hit := Lib.hid (show ItF X2 (some ⟨g, 0, none⟩) n f from fun _ => ⟨g, rfl, hbl⟩)
      replace hb2 := Lib.hid hb2
      replace hbl := Lib.hid hbl
      go_wp2
      go_ret2
      exact ⟨_, _, _, rfl, z2.out, rfl, hit.out⟩
    · have hU : ¬ okU l o e := fun hh => hd hh.2
      rw [if_neg hU, if_neg hd]
      have k2 := isOrder_any A Ao l.length c co o w ho hn.2 false ⟨(fun hh => by cases hh), fun hh => absurd hh hd⟩
      have hit := fun X => itf_none X (tuS l o e o.length).2
      generalize (tuS l o e o.length).2 = f at *
      generalize l.length = n at *
      generalize o.length = m at *
      replace k1 := Lib.hid k1
      replace k2 := Lib.hid k2
      replace h := Lib.hid h
      replace ho := Lib.hid ho
      replace hk := Lib.hid hk
      replace hd := Lib.hid hd
      replace hU := Lib.hid hU
      replace hup := Lib.hid hup
      replace hn := Lib.hid hn
      replace hit := Lib.hid hit
      go_enter Try.func45, Try.ntmps45
      go_wp2_with fail
      refine k1.out.mono ?_
      rintro _ X ⟨rfl, rfl⟩
      go_wp2_with fail
      refine k2.out.mono ?_
      rintro _ X1 ⟨rfl, hb1⟩
      replace hb1 := Lib.hid hb1
      go_wp2
      go_ret2
      exact ⟨_, _, _, rfl, hb1.out, rfl, hit.out _⟩
  · have hU : ¬ okU l o e := fun hh => hk hh.1
    rw [if_neg hU, if_neg hk]
    have k1 := checked_bad w.heap.size A c l e w h hk
    have hne := errC_ne hk
    have hit := fun X => itf_none X (tuS l o e o.length).2
    generalize (tuS l o e o.length).2 = f at *
    generalize l.length = n at *
    generalize o.length = m at *
    generalize errC l e = E at *
    have hn : (E != 0) = true := by simp; omega
    replace k1 := Lib.hid k1
    replace h := Lib.hid h
    replace ho := Lib.hid ho
    replace hk := Lib.hid hk
    replace hU := Lib.hid hU
    replace hne := Lib.hid hne
    replace hit := Lib.hid hit
    go_enter Try.func45, Try.ntmps45
    go_wp2_with fail
    refine k1.out.mono ?_
    rintro _ X ⟨rfl, rfl⟩
    go_wp2
    go_ret2
    exact ⟨_, _, _, rfl, hbw.out, rfl, hit.out _⟩
end Go.Proofs.Ythleekdkbgnabaa
