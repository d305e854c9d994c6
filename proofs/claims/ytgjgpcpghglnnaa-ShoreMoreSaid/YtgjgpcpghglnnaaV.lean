/-
  slices.Clone, and two numbers of a list exchanged: the program's function.
-/
import Derived.Test.YtgjgpcpghglnnaaD
namespace Go.Proofs.Ytgjgpcpghglnnaa
open Go.RowKit Go.Deep M
set_option linter.unusedVariables false
set_option linter.unusedSimpArgs false

theorem news_get {l : List Int} {j : Nat} {u : Value} (h : (vals l)[j]? = some u) : j < l.length ∧ u = .int .i64 (el l j) := by
  have hj : j < l.length := by
    have := (List.getElem?_eq_some_iff.1 h).1
    rwa [vals_len] at this
  refine ⟨hj, ?_⟩
  simp [vals, hj] at h
  rw [el_eq l j hj]; exact h.symm
theorem empty_own (w : World) (t : TypeId) : (w.alloc (.cells #[] t)).ownsRow w.heap.size t 1 (.slice (some ⟨w.heap.size, 0, none⟩) 0 0) 0 [] :=
  ⟨rfl, .inr ⟨w.heap.size, 0, #[], rfl, Nat.le_refl _, heap_alloc_new w _, Nat.le_refl _, by unfold maxLen; omega, rfl, rfl⟩⟩
/-- What is owned and not empty, as a block. -/
theorem own_blk {w : World} {base : Nat} {v : Value} {l : List Int} (h : w.ownsRow base 3 1 v l.length (vals l)) (hp : 0 < l.length) :
    ∃ g cap, v = .slice (some ⟨g, 0, none⟩) l.length cap ∧ l.length ≤ cap ∧ base ≤ g ∧ BlI w g l.length (el l) := by
  rcases h.2 with ⟨hv, h0⟩ | ⟨g, cap, cur, hv, hge, hh, hcap, hmax, hsz, htake⟩
  · omega
  · refine ⟨g, cap, hv, hcap, hge, cur, hh, fun i hi => ?_⟩
    have h1 : (cur.toList.take (l.length * 1))[i]? = (vals l)[i]? := by rw [htake]
    rw [Nat.mul_one, List.getElem?_take, if_pos hi] at h1
    rw [Array.getElem?_toList] at h1
    rw [h1]
    exact vals_get l i hi

set_option maxHeartbeats 2000000 in
set_option maxRecDepth 100000 in
theorem Clone_any (B : Nat) (A : Option Addr) (c : Nat) (l : List Int) (w : World) (h : Row w B A l) (hB : B ≤ w.heap.size) (hl : l.length ≤ 1000) :
    Calls Try.prog 88 #[.slice A l.length c] w fun e w' => ∃ v, e = .returned v ∧ Below w.heap.size w w' ∧ w'.ownsRow w.heap.size 3 1 v l.length (vals l) := by
  obtain ⟨i3, ji, jz0, jz1, jz2⟩ := info_parts info3
  replace ji := Lib.hid ji
  replace jz0 := Lib.hid jz0
  replace jz1 := Lib.hid jz1
  replace jz2 := Lib.hid jz2
  have hnil := fun w => Lib.run_eql_slice_nil (P := Try.prog) w 23 3 A l.length c 0 0 Try.underlying23
  cases A with
  | none =>
    have h0 : l = [] := by
      cases l with
      | nil => rfl
      | cons x l => obtain ⟨_, _, e, _⟩ := h.2 (by simp); cases e
    subst h0
    have hnil0 := fun w => Lib.run_eql_slice_nil (P := Try.prog) w 23 3 none 0 c 0 0 Try.underlying23
    go_enter Try.func88, Try.ntmps88
    go_wp2
    go_ret
    exact ⟨_, rfl, Below.refl _ _, World.ownsRow_nil _ _ _ _⟩
  | some a =>
    have ho := empty_own w 3
    have hb0 : Below w.heap.size w (w.alloc (.cells #[] 3)) := (Below.refl _ _).alloc (Nat.le_refl _) _
    have hnews : ∀ j u, (vals l)[j]? = some u → (w.alloc (.cells #[] 3)).cell? (a.add j) = some u := fun j u hu => by
      obtain ⟨hj, rfl⟩ := news_get hu
      obtain ⟨b, o, e, hb, hc⟩ := (h.below (hb0.mono hB)).at_ j hj
      cases e
      rw [add_pl]; exact hc
    replace hnews := Lib.hid hnews
    replace ho := Lib.hid ho
    go_enter Try.func88, Try.ntmps88
    go_wp2_with (at_builtin; refine wpList_append_own _ rfl (.tmp 5) (.tmp 6) 23 rfl w.heap.size 3 i3 (.int .i64 0) 1 8 Try.underlying23 ji.out jz0.out jz1.out jz2.out rfl (by decide) _ _ _ rfl ho.out a l.length c (vals l) rfl (by rw [vals_len, Nat.mul_one]) hnews.out (fun u hu => by obtain ⟨_, _, rfl⟩ := List.mem_map.1 hu; rfl) (by unfold maxLen; omega) (by omega) (by simp) ?_; intro v' w1 hown' hgrow _)
    have hbb := below_grown hgrow (B := w.heap.size) (by simp) (fun k e => by cases e; exact Nat.le_refl _)
    have hown2 : w1.ownsRow w.heap.size 3 1 v' l.length (vals l) := by simpa using hown'
    clear hown' hgrow
    go_wp2
    go_ret
    exact ⟨_, rfl, hb0.trans hbb, hown2⟩

namespace M
/-- Two numbers of a list exchanged. -/
def xch (l : List Int) (i k q : Nat) : Int := if q = k then el l i else if q = i then el l k else el l q
end M
theorem BlI.drew {w : World} {g n : Nat} {f : Nat → Int} (h : BlI w g n f) : BlI w.drew g n f := h.to rfl
theorem xch_done {w X : World} {g n i k : Nat} {l : List Int} (hb : Below w.heap.size w X) (hg : w.heap.size ≤ g) (h : BlI X g n (el l)) (hi : i < n) (hk : k < n) :
    Below w.heap.size w ((X.setCell ⟨g, i, none⟩ (.int .i64 (el l k))).setCell ⟨g, k, none⟩ (.int .i64 (el l i))) ∧ BlI ((X.setCell ⟨g, i, none⟩ (.int .i64 (el l k))).setCell ⟨g, k, none⟩ (.int .i64 (el l i))) g n (xch l i k) :=
  ⟨(hb.setCell hg _).setCell hg _, ((h.set hi (el l k)).set hk (el l i)).congr fun q _ => rfl⟩

set_option maxRecDepth 100000 in
set_option maxHeartbeats 4000000 in
theorem exchanged_any (B : Nat) (A : Option Addr) (c : Nat) (l : List Int) (i k : Nat) (w : World) (h : Row w B A l) (hB : B ≤ w.heap.size) (hl : l.length ≤ 1000) (hi : i < l.length) (hk : k < l.length) (hik : i < k) :
    Calls Try.prog 72 #[.slice A l.length c, .int .i64 i, .int .i64 k] w fun e w' => ∃ g cap, e = .returned (.slice (some ⟨g, 0, none⟩) l.length cap) ∧ l.length ≤ cap ∧ w.heap.size ≤ g ∧ Below w.heap.size w w' ∧ BlI w' g l.length (xch l i k) := by
  have c88 := Lib.hid (Clone_any B A c l w h hB hl)
  have hsp := fun v (X : World) (ho : X.ownsRow w.heap.size 3 1 v l.length (vals l)) => own_blk ho (by omega)
  obtain ⟨n, hn⟩ : ∃ n, n = l.length := ⟨_, rfl⟩
  rw [← hn] at c88 hi hk hl hsp ⊢
  replace hn := Lib.hid hn
  replace hsp := Lib.hid hsp
  replace h := Lib.hid h
  go_enter Try.func72, Try.ntmps72
  go_wp2_with fail
  refine c88.out.mono ?_
  rintro e X ⟨v, rfl, hb, hown⟩
  obtain ⟨g, cap, rfl, hcap, hg, hbl⟩ := hsp.out v X hown
  replace hown := Lib.hid hown
  have u1 := hbl.cell hi
  have u2 := hbl.cell hk
  have f1 := hbl.fz i
  have f2 := hbl.fz k
  have u3 := hbl.lt
  have hik' : ¬ i = k := by omega
  have hki' : ¬ k = i := by omega
  have hin : (i : Int) < (n : Int) := by omega
  have hkn : (k : Int) < (n : Int) := by omega
  have hdone := Lib.hid (xch_done (X := X.drew) (below_drewN hb 1) hg hbl.drew hi hk)
  obtain ⟨x, hx⟩ : ∃ x, x = el l i := ⟨_, rfl⟩
  obtain ⟨y, hy⟩ : ∃ x, x = el l k := ⟨_, rfl⟩
  rw [← hx] at u1
  rw [← hy] at u2
  rw [← hx, ← hy] at hdone
  replace hx := Lib.hid hx
  replace hy := Lib.hid hy
  replace hb := Lib.hid hb
  replace hbl := Lib.hid hbl
  go_wp2_with fail
  go_region
  all_goals
    go_wp2
    go_ret
    exact ⟨g, cap, rfl, hcap, hg, hdone.out.1, hdone.out.2⟩
end Go.Proofs.Ytgjgpcpghglnnaa
