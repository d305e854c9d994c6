/-
  A list of windows of one hour each, as the law makes it.
-/
import Derived.Test.YtlnpnfjdcnijhaaMathF
import Derived.Test.YtlnpnfjdcnijhaaK
namespace Go.Proofs.Ytlnpnfjdcnijhaa
open Go.RowKit Go.Deep M
set_option linter.unusedVariables false
set_option linter.unusedSimpArgs false

theorem info24 : (Try.prog.info? 24).map (fun i => (i.zero, i.size, i.bytes)) = some (some (.agg #[.int .i64 0, .slice none 0 0]), 2, 32) := by kernel_rfl
def wcc (a : Wc) : List Value := [.int .i64 a.x.p, .slice a.A a.x.hs.length a.c]
def wvals (D : List Wc) : List Value := D.flatMap wcc
theorem wvals_app (D E : List Wc) : wvals (D ++ E) = wvals D ++ wvals E := by simp [wvals]
theorem wvals_one (x : Wc) : wvals [x] = wcc x := by simp [wvals]
theorem wvals_at (D : List Wc) (i : Nat) (h : i < D.length) : (wvals D)[i * 2]? = some (.int .i64 (wc D i).x.p) ∧ (wvals D)[i * 2 + 1]? = some (.slice (wc D i).A (wc D i).x.hs.length (wc D i).c) := by
  induction D generalizing i with
  | nil => exact absurd h (Nat.not_lt_zero _)
  | cons x D ih =>
    have e : wvals (x :: D) = wcc x ++ wvals D := rfl
    cases i with
    | zero => rw [e]; exact ⟨rfl, rfl⟩
    | succ i =>
      have h' : i < D.length := by simpa using h
      have e2 : wc (x :: D) (i + 1) = wc D i := rfl
      have e3 : (wcc x).length = 2 := rfl
      rw [e, e2]
      obtain ⟨h1, h2⟩ := ih i h'
      refine ⟨?_, ?_⟩
      · rw [List.getElem?_append_right (by rw [e3]; omega), e3, show (i + 1) * 2 - 2 = i * 2 by omega]; exact h1
      · rw [List.getElem?_append_right (by rw [e3]; omega), e3, show (i + 1) * 2 + 1 - 2 = i * 2 + 1 by omega]; exact h2
theorem wcc_cell {x : Wc} : ∀ u ∈ wcc x, u.oneCell' = true := fun u hu => by
  simp [wcc] at hu
  rcases hu with rfl | rfl <;> rfl
theorem wc_app1 (D : List Wc) (a : Wc) (i : Nat) (h : i < D.length) : wc (D ++ [a]) i = wc D i := by
  unfold wc List.getD
  rw [List.getElem?_append_left h]
theorem wc_app2 (D : List Wc) (a : Wc) : wc (D ++ [a]) D.length = a := by simp [wc, List.getD]
/-- The list of windows, behind k rounds. -/
structure TpW (w : World) (l : List Rd) (k : Nat) (v : Value) (D : List Wc) (X : World) : Prop where
  below : Below w.heap.size w X
  len : D.length = k
  is_ : WinOf l D k
  own : X.ownsRow w.heap.size 24 2 v k (wvals D)
  hrs : ∀ i, i < k → ∃ g, w.heap.size ≤ g ∧ (wc D i).A = some ⟨g, 0, none⟩ ∧ X.heap[g]? = some (.cells #[.int .i64 (rd l i).a] 3 (0, 0))
theorem own_blk {X : World} {base : Nat} {v : Value} {n : Nat} {xs : List Value} (h : X.ownsRow base 24 2 v n xs) {g : Nat} (hg : v.ownBlock = some g) : base ≤ g ∧ ∃ cur, X.heap[g]? = some (.cells cur 24 (0, 0)) := by
  rcases h.2 with ⟨rfl, _⟩ | ⟨g', cap, cur, rfl, h1, h2, _⟩
  · cases hg
  · injection hg with hg
    subst hg
    exact ⟨h1, cur, h2⟩
theorem TpW.up {w X Y : World} {l : List Rd} {k : Nat} {v : Value} {D : List Wc} (h : TpW w l k v D X) (hb : Below X.heap.size X Y) : TpW w l k v D Y :=
  ⟨bel_trans h.below hb, h.len, h.is_, own_to h.own fun b hb' => by
      obtain ⟨_, cur, hc⟩ := own_blk h.own hb'
      exact hb.block b (blk_lt hc), fun i hi => by
    obtain ⟨g, h0, h1, h2⟩ := h.hrs i hi
    exact ⟨g, h0, h1, (hb.block g (blk_lt h2)).trans h2⟩⟩
/-- One window more. -/
theorem TpW.app {w X Y : World} {l : List Rd} {k g : Nat} {v v' : Value} {D : List Wc} (h : TpW w l k v D X) (hg0 : w.heap.size ≤ g) (hg : X.heap[g]? = some (.cells #[.int .i64 (rd l k).a] 3 (0, 0)))
    (hown : Y.ownsRow w.heap.size 24 2 v' (k + 1) (wvals D ++ wcc ⟨⟨(rd l k).e, [(rd l k).a]⟩, some ⟨g, 0, none⟩, 1⟩)) (hgrow : X.grownBy Y v.ownBlock) :
    TpW w l (k + 1) v' (D ++ [⟨⟨(rd l k).e, [(rd l k).a]⟩, some ⟨g, 0, none⟩, 1⟩]) Y := by
  have hne : ∀ b (z : Array Value), X.heap[b]? = some (Obj.cells z 3 (0, 0)) → some b ≠ v.ownBlock := fun b z hb e => by
    obtain ⟨_, cur, hc⟩ := own_blk h.own e.symm
    rw [hb] at hc
    injection hc with hc
    injection hc with _ e2 _
    cases e2
  have hkeep : ∀ b (z : Array Value), X.heap[b]? = some (Obj.cells z 3 (0, 0)) → Y.heap[b]? = some (Obj.cells z 3 (0, 0)) := fun b z hb => (hgrow.block b (blk_lt hb) (hne b z hb)).trans hb
  refine ⟨h.below.trans (below_grown hgrow h.below.size fun b hb => (own_blk h.own hb).1), by simp [h.len], fun i hi => ?_, by rw [wvals_app, wvals_one]; exact hown, fun i hi => ?_⟩
  · rcases Nat.lt_succ_iff_lt_or_eq.1 hi with h1 | rfl
    · rw [wc_app1 _ _ _ (by rw [h.len]; exact h1)]; exact h.is_ i h1
    · have := wc_app2 D ⟨⟨(rd l i).e, [(rd l i).a]⟩, some ⟨g, 0, none⟩, 1⟩
      rw [h.len] at this
      rw [this]
  · rcases Nat.lt_succ_iff_lt_or_eq.1 hi with h1 | rfl
    · rw [wc_app1 _ _ _ (by rw [h.len]; exact h1)]
      obtain ⟨g', e0, e1, e2⟩ := h.hrs i h1
      exact ⟨g', e0, e1, hkeep _ _ e2⟩
    · have := wc_app2 D ⟨⟨(rd l i).e, [(rd l i).a]⟩, some ⟨g, 0, none⟩, 1⟩
      rw [h.len] at this
      rw [this]
      exact ⟨g, hg0, rfl, hkeep _ _ hg⟩
/-- The list, as windows. -/
theorem TpW.wds {w X : World} {l : List Rd} {k : Nat} {v : Value} {D : List Wc} (h : TpW w l k v D X) (hm : k ≤ 9223372036854775807) : ∃ A c, v = .slice A D.length c ∧ Wds X X.heap.size A D := by
  have hrow : ∀ i, i < D.length → Row X X.heap.size (wc D i).A (wc D i).x.hs := fun i hi => by
    rw [h.len] at hi
    obtain ⟨g, e0, e1, e2⟩ := h.hrs i hi
    rw [e1, h.is_ i hi]
    refine ⟨by simp, fun _ => ⟨g, 0, rfl, blk_lt e2, fun j hj => ?_⟩⟩
    have : j = 0 := by simpa using hj
    subst this
    simp [World.cell?, e2, el]
  rcases h.own.2 with ⟨hv, h0⟩ | ⟨g, cap, cur, hv, hge, hh, hcap, hmax, hsz, htake⟩
  · have hD : D = [] := List.length_eq_zero_iff.1 (by rw [h.len]; exact h0)
    subst hD
    exact ⟨none, 0, hv, wds_nil _ _ _⟩
  · refine ⟨some ⟨g, 0, none⟩, cap, by rw [h.len]; exact hv, by rw [h.len]; exact hm, fun _ => ⟨g, 0, rfl, blk_lt hh, fun i hi => ?_⟩⟩
    obtain ⟨h1, h2⟩ := wvals_at D i hi
    have key : ∀ j u, j < k * 2 → (wvals D)[j]? = some u → X.cell? ⟨g, j, none⟩ = some u := fun j u hj hu => by
      rw [← htake, List.getElem?_take_of_lt hj] at hu
      simp [World.cell?, hh]; rw [← hu]; simp
    have hl := h.len
    refine ⟨?_, ?_, hrow i hi⟩
    · rw [Nat.zero_add]; exact key _ _ (by omega) h1
    · rw [Nat.zero_add]; exact key _ _ (by omega) h2
theorem tpW_zero (w X : World) (l : List Rd) (hb : Below w.heap.size w X) : TpW w l 0 (.slice none 0 0) [] X :=
  ⟨hb, rfl, fun i hi => absurd hi (Nat.not_lt_zero _), ⟨rfl, .inl ⟨rfl, rfl⟩⟩, fun i hi => absurd hi (Nat.not_lt_zero _)⟩
theorem wcc_news (w : World) (e : Int) (g : Nat) (a : Int) : ∀ j u, (wcc ⟨⟨e, [a]⟩, some ⟨g, 0, none⟩, 1⟩)[j]? = some u → (w.alloc (.cells #[.int .i64 e, .slice (some ⟨g, 0, none⟩) 1 1] 24)).cell? ((⟨w.heap.size, 0, none⟩ : Addr).add j) = some u := by
  intro j u hj
  match j, hj with
  | 0, hj => simp [wcc] at hj; subst hj; simp [Addr.add]
  | 1, hj => simp [wcc] at hj; subst hj; simp [Addr.add]
  | j + 2, hj => simp [wcc] at hj
end Go.Proofs.Ytlnpnfjdcnijhaa
