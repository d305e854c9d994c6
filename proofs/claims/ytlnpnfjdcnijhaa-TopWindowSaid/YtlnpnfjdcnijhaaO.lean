/-
  Openings: what is open at an hour; the opening of a window.
-/
import Derived.Test.YtlnpnfjdcnijhaaN
import Derived.Laws.MakeOwn
namespace Go.Proofs.Ytlnpnfjdcnijhaa
open Go.RowKit Go.Deep M
set_option linter.unusedVariables false
set_option linter.unusedSimpArgs false

/-! ### a block of booleans -/
def BlB (w : World) (g n : Nat) (f : Nat → Bool) : Prop := ∃ cs : Array Value, w.heap[g]? = some (.cells cs 4 (0, 0)) ∧ ∀ i, i < n → cs[i]? = some (.bool (f i))
theorem BlB.lt {w : World} {g n : Nat} {f : Nat → Bool} (h : BlB w g n f) : g < w.heap.size := by obtain ⟨cs, h1, _⟩ := h; exact blk_lt h1
theorem BlB.to {w w' : World} {g n : Nat} {f : Nat → Bool} (h : BlB w g n f) (hb : w'.heap[g]? = w.heap[g]?) : BlB w' g n f := by obtain ⟨cs, h1, h2⟩ := h; exact ⟨cs, hb.trans h1, h2⟩
theorem BlB.up {w w' : World} {g n : Nat} {f : Nat → Bool} (h : BlB w g n f) (hb : Below w.heap.size w w') : BlB w' g n f := h.to (hb.block g h.lt)
theorem BlB.cell {w : World} {g n i : Nat} {f : Nat → Bool} (h : BlB w g n f) (hi : i < n) : w.cell? ⟨g, i, none⟩ = some (.bool (f i)) := by obtain ⟨cs, h1, h2⟩ := h; simp [World.cell?, h1, h2 i hi]
theorem BlB.fz {w : World} {g n : Nat} {f : Nat → Bool} (h : BlB w g n f) (i : Nat) : w.frozen? ⟨g, i, none⟩ = false := by obtain ⟨cs, h1, _⟩ := h; simp [World.frozen?, h1]
theorem BlB.congr {w : World} {g n : Nat} {f f' : Nat → Bool} (h : BlB w g n f) (e : ∀ i, i < n → f i = f' i) : BlB w g n f' := by obtain ⟨cs, h1, h2⟩ := h; exact ⟨cs, h1, fun i hi => by rw [← e i hi]; exact h2 i hi⟩
theorem BlB.set {w : World} {g n j : Nat} {f : Nat → Bool} (h : BlB w g n f) (hj : j < n) (x : Bool) : BlB (w.setCell ⟨g, j, none⟩ (.bool x)) g n (fun i => if i = j then x else f i) := by
  obtain ⟨cs, h1, h2⟩ := h
  have hjs : j < cs.size := by have := h2 j hj; exact (Array.getElem?_eq_some_iff.1 this).1
  refine ⟨cs.setIfInBounds j (.bool x), by simp [World.setCell, Array.getElem?_modify, h1], fun i hi => ?_⟩
  rw [Array.getElem?_setIfInBounds]
  by_cases e : i = j
  · subst e
    simp [hjs]
  · have e2 : ¬ j = i := fun h => e h.symm
    simp [e, e2, h2 i hi]
theorem info4 : (Try.prog.info? 4).map (fun i => (i.zero, i.size, i.bytes)) = some (some (.bool false), 1, 1) := by kernel_rfl
/-- The memory that make lays. -/
def mkB (w : World) (n : Nat) : World := w.alloc (.cells (madeCells #[.bool false] n) 4)
theorem mkB_below (w : World) (n : Nat) : Below w.heap.size w (mkB w n) := ba1 _ _
theorem mkB_blk (w : World) (n : Nat) : BlB (mkB w n) w.heap.size n (fun _ => false) :=
  ⟨madeCells #[.bool false] n, heap_alloc_new w _, fun i hi => by unfold madeCells; simp [hi, Nat.mod_one]⟩
theorem mkB_size (w : World) (n : Nat) : (mkB w n).heap.size = w.heap.size + 1 := by simp [mkB]
theorem run_mkB (w : World) (n : Nat) (hn : n ≤ 1000000) : (Instr.makeSlice 76 (.int .i64 n) (.int .i64 n)).run Try.prog w = .ok (.slice (some ⟨w.heap.size, 0, none⟩) n n) (mkB w n) := by
  have hi := info4
  cases h : Try.prog.info? 4 with
  | none => rw [h] at hi; cases hi
  | some i =>
    rw [h] at hi
    simp only [Option.map_some, Option.some.injEq, Prod.mk.injEq] at hi
    obtain ⟨h1, h2, h3⟩ := hi
    have := run_make (P := Try.prog) w 76 4 i (.bool false) Try.underlying76 h h1 .i64 .i64 (n : Int) (n : Int) (by omega) (Int.le_refl _) (by rw [h3]; omega) (by omega)
    rw [this, h2]
    simp [mkB, Value.cells]

/-! ### hours modulo a period -/
theorem emod_two (h n : Int) (hn : 1 ≤ n) : (h.tmod n + n) % n = h % n := by
  rw [Int.add_emod_right, Int.tmod_eq_emod]
  split
  · simp
  · have : (n.natAbs : Int) = n := by omega
    rw [this, Int.sub_emod, Int.emod_self, Int.sub_zero, Int.emod_emod_of_dvd _ (Int.dvd_refl n), Int.emod_emod_of_dvd _ (Int.dvd_refl n)]
set_option maxHeartbeats 1000000 in
theorem modulo_any (h n : Int) (w : World) (hn : 1 ≤ n ∧ n ≤ 1000000) (hh : -9223372036854775808 ≤ h ∧ h ≤ 9223372036854775807) : Calls Try.prog 99 #[.int .i64 h, .int .i64 n] w fun e w' => e = .returned (.int .i64 (h % n)) ∧ w' = w := by
  have h1 := Int.lt_tmod_of_pos h (show 0 < n by omega)
  have h2 := Int.tmod_lt_of_pos h (show 0 < n by omega)
  have he := Lib.hid (emod_two h n hn.1)
  have hn0 : ¬ (n = 0) := by omega
  have hn1 := hn.1
  have hn2 := hn.2
  clear hn
  go_enter Try.func99, Try.ntmps99
  go_wp2
  go_ret
  exact ⟨ret_int he.out, rfl⟩
set_option maxHeartbeats 1000000 in
theorem modulo_ref (h n : Int) (w : World) (hn : 1 ≤ n ∧ n ≤ 1000000) (hh : -9223372036854775808 ≤ h ∧ h ≤ 9223372036854775807) : Calls Try.prog 80 #[.int .i64 h, .int .i64 n] w fun e w' => e = .returned (.int .i64 (h % n)) ∧ w' = w := by
  have h1 := Int.lt_tmod_of_pos h (show 0 < n by omega)
  have h2 := Int.tmod_lt_of_pos h (show 0 < n by omega)
  have he := Lib.hid (emod_two h n hn.1)
  have hn0 : ¬ (n = 0) := by omega
  have hn1 := hn.1
  have hn2 := hn.2
  clear hn
  go_enter Try.func80, Try.ntmps80
  go_wp2
  go_ret
  exact ⟨ret_int he.out, rfl⟩

/-! ### openings -/
/-- An opening's function value, told by what it says of each hour. -/
def Opn (w : World) (B : Nat) (F : Value) (f : Int → Bool) : Prop :=
  ∃ g caps, F = .func (Fn.func g) #[] caps ∧ (∀ (args : Array Value) (w : World), (callFunc g args).run Try.prog w = .ok (.enter g args) w) ∧
    ∀ X, Below B w X → B ≤ X.heap.size → ∀ h : Int, (-4000000000000000000 ≤ h ∧ h ≤ 4000000000000000000) → Calls Try.prog g (#[.int .i64 h] ++ caps) X fun e X' => e = .returned (.bool (f h)) ∧ Below X.heap.size X X'
theorem Opn.up {w w' : World} {B : Nat} {F : Value} {f : Int → Bool} (h : Opn w B F f) (hb : Below B w w') (hB : B ≤ w.heap.size) : Opn w' B F f := by
  obtain ⟨g, caps, h1, h2, h3⟩ := h
  exact ⟨g, caps, h1, h2, fun X hX hBX => h3 X (hb.trans hX) hBX⟩
theorem enter_of {P : Program} {f : FuncId} {fn : Func} {c : Code} (hf : P.funcs[f]? = some fn) (hname : (fn.name == "runtime.NumGoroutine") = false) (hb : fn.body = some c) (args : Array Value) (w : World) :
    (callFunc f args).run P w = .ok (.enter f args) w := by
  have h1 : fn.name ≠ "runtime.NumGoroutine" := by simpa using hname
  simp [callFunc, hf, h1, hb]
theorem enter98 (args : Array Value) (w : World) : (callFunc 98 args).run Try.prog w = .ok (.enter 98 args) w := enter_of Try.func98 (by kernel_rfl) rfl args w

namespace M
/-- Is a window open at an hour? -/
def opB (x : Wn) (h : Int) : Bool := decide (∃ i, i < x.hs.length ∧ el x.hs i = h % x.p)
/-- The same, of an hour within the period. -/
def opN (x : Wn) (k : Nat) (j : Nat) : Bool := decide (∃ i, i < k ∧ el x.hs i = (j : Int))
theorem opN_zero (x : Wn) (j : Nat) : opN x 0 j = false := by unfold opN; rw [decide_eq_false]; rintro ⟨i, hi, _⟩; omega
theorem opN_succ {x : Wn} {k : Nat} {q : Nat} (hq : el x.hs k = (q : Int)) (j : Nat) : opN x (k + 1) j = if j = q then true else opN x k j := by
  unfold opN
  by_cases e : j = q
  · subst e
    rw [if_pos rfl, decide_eq_true_iff]
    exact ⟨k, by omega, hq⟩
  · rw [if_neg e, Bool.eq_iff_iff, decide_eq_true_iff, decide_eq_true_iff]
    constructor
    · rintro ⟨i, hi, h2⟩
      refine ⟨i, ?_, h2⟩
      rcases Nat.lt_succ_iff_lt_or_eq.1 hi with h3 | rfl
      · exact h3
      · rw [hq] at h2; omega
    · rintro ⟨i, hi, h2⟩
      exact ⟨i, by omega, h2⟩
theorem opB_eq {x : Wn} {h : Int} {j : Nat} (hj : h % x.p = (j : Int)) : opB x h = opN x x.hs.length j := by unfold opB opN; rw [hj]
end M

set_option maxHeartbeats 2000000 in
/-- The closure of the opening of a window. -/
theorem open1_any (bo g p : Nat) (f : Nat → Bool) (h : Int) (w : World) (hc : w.cell? ⟨bo, 0, none⟩ = some (.slice (some ⟨g, 0, none⟩) p p)) (hblk : BlB w g p f) (hp : 1 ≤ p ∧ p ≤ 1000000) (hh : -9223372036854775808 ≤ h ∧ h ≤ 9223372036854775807) :
    Calls Try.prog 98 #[.int .i64 h, .pointer (some ⟨bo, 0, none⟩)] w fun e w' => e = .returned (.bool (f (h % (p : Int)).toNat)) ∧ Below w.heap.size w w' := by
  have h1 := Int.emod_nonneg h (show (p : Int) ≠ 0 by omega)
  have h2 := Int.emod_lt_of_pos h (show (0 : Int) < p by omega)
  obtain ⟨j, hj⟩ := Int.eq_ofNat_of_zero_le h1
  rw [hj] at h2
  rw [hj, Int.toNat_natCast]
  have hjp : j < p := by omega
  have hcell := hblk.cell hjp
  have cm : ∀ W, _ := fun W => modulo_any h p W (by omega) hh
  rw [hj] at cm
  clear hj h1
  generalize f j = R at *
  replace cm := Lib.hid cm
  replace hblk := Lib.hid hblk
  go_enter Try.func98, Try.ntmps98
  go_wp2_with fail
  go_quiet ((go_at_call 99; exact Calls.quiet_of_same (cm.out _)))
  go_wp2
  go_ret
  exact ⟨rfl, below_drewN (Below.refl _ _) nq⟩
end Go.Proofs.Ytlnpnfjdcnijhaa
