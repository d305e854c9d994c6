/-
  Lists that a call makes: 'BRow', 'NewRow'; the contracts of slices.Clone and of amounts.
-/
import Derived.Test.YtnbgjgiknfcdkaaDoorC
import Derived.Deep.AppendLies
import Derived.Deep.RegionHeldLaw
import Derived.Maps.AppendAt
namespace Go.Proofs.YtnbgjgiknfcdkaaDoor
open Go.RowKit Go.Deep M
set_option linter.unusedVariables false
set_option linter.unusedSimpArgs false

theorem info3 : (Tryd.prog.info? 3).map (fun i => (i.zero, i.size, i.bytes)) = some (some (.int .i64 0), 1, 8) := by kernel_rfl

/-- A list of integers in a block of its own, from block lo on. -/
def BRow (w : World) (lo : Nat) (A : Option Addr) (l : List Int) : Prop :=
  l.length ≤ 9223372036854775807 ∧ ∃ (b : Nat) (cs : Array Value), A = some ⟨b, 0, none⟩ ∧ lo ≤ b ∧ w.heap[b]? = some (.cells cs 3 (0, 0)) ∧ ∀ i, i < l.length → cs[i]? = some (.int .i64 (el l i))
theorem BRow.row {w : World} {lo : Nat} {A : Option Addr} {l : List Int} (h : BRow w lo A l) : Row w w.heap.size A l := by
  obtain ⟨h1, b, cs, rfl, h2, h3, h4⟩ := h
  exact ⟨h1, fun _ => ⟨b, 0, rfl, blk_lt h3, fun i hi => by rw [Nat.zero_add]; simp [World.cell?, h3, h4 i hi]⟩⟩
theorem BRow.below {w w' : World} {lo B : Nat} {A : Option Addr} {l : List Int} (h : BRow w lo A l) (hb : Below B w w') (hB : w.heap.size ≤ B) : BRow w' lo A l := by
  obtain ⟨h1, b, cs, rfl, h2, h3, h4⟩ := h
  exact ⟨h1, b, cs, rfl, h2, (hb.block b (by have := blk_lt h3; omega)).trans h3, h4⟩
theorem BRow.more {w : World} {lo lo' : Nat} {A : Option Addr} {l : List Int} (h : BRow w lo A l) (hl : lo' ≤ lo) : BRow w lo' A l := by
  obtain ⟨h1, b, cs, rfl, h2, h3⟩ := h
  exact ⟨h1, b, cs, rfl, by omega, h3⟩
/-- The values of a list. -/
def vals (l : List Int) : List Value := l.map (Value.int .i64)
theorem vals_len (l : List Int) : (vals l).length = l.length := by simp [vals]
/-- What a call says that hands back a new list, nil maybe, to which may be appended. -/
def NewOwn (w : World) (l : List Int) (e : Ending) (w' : World) : Prop := ∃ v, e = .returned v ∧ Below w.heap.size w w' ∧ w'.ownsRow w.heap.size 3 1 v l.length (vals l)
/-- .. or a list that is read alone. -/
def NewRow (w : World) (l : List Int) (e : Ending) (w' : World) : Prop := ∃ A c, e = .returned (.slice A l.length c) ∧ Below w.heap.size w w' ∧ Row w' w'.heap.size A l

theorem add_pl (b o j : Nat) : (⟨b, o, none⟩ : Addr).add j = ⟨b, o + j, none⟩ := by unfold Addr.add; split <;> simp_all
theorem news_get {l : List Int} {j : Nat} {u : Value} (h : (vals l)[j]? = some u) : j < l.length ∧ u = .int .i64 (el l j) := by
  have hj : j < l.length := by
    have := (List.getElem?_eq_some_iff.1 h).1
    rwa [vals_len] at this
  refine ⟨hj, ?_⟩
  simp [vals, hj] at h
  rw [el_eq l j hj]; exact h.symm
theorem vals_get (l : List Int) (j : Nat) (hj : j < l.length) : (vals l)[j]? = some (.int .i64 (el l j)) := by simp [vals, hj, el_eq l j hj]
/-- What is owned, read. -/
theorem own_row {w : World} {base : Nat} {v : Value} {l : List Int} (h : w.ownsRow base 3 1 v l.length (vals l)) (hm : l.length ≤ 9223372036854775807) :
    ∃ A c, v = .slice A l.length c ∧ Row w w.heap.size A l := by
  rcases h.2 with ⟨hv, h0⟩ | ⟨g, cap, cur, hv, hge, hh, hcap, hmax, hsz, htake⟩
  · exact ⟨none, 0, by rw [hv, h0], hm, fun hn => by omega⟩
  · refine ⟨some ⟨g, 0, none⟩, cap, hv, BRow.row (lo := base) ⟨hm, g, cur, rfl, hge, hh, fun i hi => ?_⟩⟩
    have h1 : (cur.toList.take (l.length * 1))[i]? = (vals l)[i]? := by rw [htake]
    rw [Nat.mul_one, List.getElem?_take, if_pos hi] at h1
    rw [Array.getElem?_toList] at h1
    rw [h1]
    exact vals_get l i hi
theorem own_brow {w : World} {base : Nat} {v : Value} {l : List Int} (h : w.ownsRow base 3 1 v l.length (vals l)) (hm : l.length ≤ 9223372036854775807) (hp : 0 < l.length) :
    ∃ A c, v = .slice A l.length c ∧ BRow w base A l := by
  rcases h.2 with ⟨hv, h0⟩ | ⟨g, cap, cur, hv, hge, hh, hcap, hmax, hsz, htake⟩
  · omega
  · refine ⟨some ⟨g, 0, none⟩, cap, hv, ⟨hm, g, cur, rfl, hge, hh, fun i hi => ?_⟩⟩
    have h1 : (cur.toList.take (l.length * 1))[i]? = (vals l)[i]? := by rw [htake]
    rw [Nat.mul_one, List.getElem?_take, if_pos hi] at h1
    rw [Array.getElem?_toList] at h1
    rw [h1]
    exact vals_get l i hi
theorem NewOwn.row {w : World} {l : List Int} {e : Ending} {w' : World} (h : NewOwn w l e w') (hm : l.length ≤ 9223372036854775807) : NewRow w l e w' := by
  obtain ⟨v, he, hb, ho⟩ := h
  obtain ⟨A, c, rfl, hr⟩ := own_row ho hm
  exact ⟨A, c, he, hb, hr⟩
theorem empty_own (w : World) (t : TypeId) : (w.alloc (.cells #[] t)).ownsRow w.heap.size t 1 (.slice (some ⟨w.heap.size, 0, none⟩) 0 0) 0 [] :=
  ⟨rfl, .inr ⟨w.heap.size, 0, #[], rfl, Nat.le_refl _, heap_alloc_new w _, Nat.le_refl _, by unfold maxLen; omega, rfl, rfl⟩⟩
theorem own_mono {w : World} {base base' : Nat} {v : Value} {n : Nat} {xs : List Value} (h : w.ownsRow base 3 1 v n xs) (hb : base' ≤ base) : w.ownsRow base' 3 1 v n xs := by
  rcases h with ⟨h1, h2 | ⟨g, cap, cur, hv, hge, h3⟩⟩
  · exact ⟨h1, .inl h2⟩
  · exact ⟨h1, .inr ⟨g, cap, cur, hv, by omega, h3⟩⟩
theorem below_grown {w w' : World} {B : Nat} {row : Option Nat} (hg : w.grownBy w' row) (hB : B ≤ w.heap.size) (h : ∀ k, row = some k → B ≤ k) : Below B w w' := by
  have := (Below.refl B w).grown hg hB h
  exact this

set_option maxHeartbeats 2000000 in
set_option maxRecDepth 100000 in
theorem Clone_any (B : Nat) (A : Option Addr) (c : Nat) (l : List Int) (w : World) (h : Row w B A l) (hB : B ≤ w.heap.size) (hl : l.length ≤ 1000) :
    Calls Tryd.prog 84 #[.slice A l.length c] w (NewOwn w l) := by
  obtain ⟨i3, ji, jz0, jz1, jz2⟩ := info_parts info3
  replace ji := Lib.hid ji
  replace jz0 := Lib.hid jz0
  replace jz1 := Lib.hid jz1
  replace jz2 := Lib.hid jz2
  have hnil := fun w => Lib.run_eql_slice_nil (P := Tryd.prog) w 26 3 A l.length c 0 0 Tryd.underlying26
  cases A with
  | none =>
    have h0 : l = [] := by
      cases l with
      | nil => rfl
      | cons x l => obtain ⟨_, _, e, _⟩ := h.2 (by simp); cases e
    subst h0
    have hnil0 := fun w => Lib.run_eql_slice_nil (P := Tryd.prog) w 26 3 none 0 c 0 0 Tryd.underlying26
    go_enter Tryd.func84, Tryd.ntmps84
    go_wp2
    go_ret
    exact ⟨_, rfl, Below.refl _ _, World.ownsRow_nil _ _ _ _⟩
  | some a =>
    have ho := empty_own w 3
    have hb0 : Below w.heap.size w (w.alloc (.cells #[] 3)) := (Below.refl _ _).alloc (Nat.le_refl _) _
    have hnews : ∀ j u, (vals l)[j]? = some u → (w.alloc (.cells #[] 3)).cell? (a.add j) = some u := fun j u hu => by
      obtain ⟨hj, rfl⟩ := news_get hu
      obtain ⟨b, o, e, hb, hc⟩ := (h.below (hb0.mono hB)).at_ j hj
      cases e
      rw [add_pl]; exact hc
    replace hnews := Lib.hid hnews
    replace ho := Lib.hid ho
    go_enter Tryd.func84, Tryd.ntmps84
    go_wp2_with (at_builtin; refine wpList_append_own _ rfl (.tmp 5) (.tmp 6) 26 rfl w.heap.size 3 i3 (.int .i64 0) 1 8 Tryd.underlying26 ji.out jz0.out jz1.out jz2.out rfl (by decide) _ _ _ rfl ho.out a l.length c (vals l) rfl (by rw [vals_len, Nat.mul_one]) hnews.out (fun u hu => by obtain ⟨_, _, rfl⟩ := List.mem_map.1 hu; rfl) (by unfold maxLen; omega) (by omega) (by simp) ?_; intro v' w1 hown' hgrow _)
    have hbb := below_grown hgrow (B := w.heap.size) (by simp) (fun k e => by cases e; exact Nat.le_refl _)
    have hown2 : w1.ownsRow w.heap.size 3 1 v' l.length (vals l) := by simpa using hown'
    clear hown' hgrow
    go_wp2
    go_ret
    exact ⟨_, rfl, hb0.trans hbb, hown2⟩

theorem Clone_row {B : Nat} {A : Option Addr} {c : Nat} {l : List Int} {w : World} (h : Row w B A l) (hB : B ≤ w.heap.size) (hl : l.length ≤ 1000) :
    Calls Tryd.prog 84 #[.slice A l.length c] w (NewRow w l) := (Clone_any B A c l w h hB hl).mono fun e w' hn => hn.row (by omega)

/-- What the region of 'amounts' keeps: the slick in its box, the list behind it, all below. -/
def AmS (w : World) (A : Option Addr) (c : Nat) (l : List Int) (aw : Int) (W : World) : Prop :=
  W.cell? ⟨w.heap.size, 1, none⟩ = some (.slice A l.length c) ∧ W.cell? ⟨w.heap.size, 2, none⟩ = some (.int .i64 aw) ∧ Below w.heap.size w W ∧ w.heap.size < W.heap.size

theorem amS_start (w : World) (K : Int) (A : Option Addr) (c : Nat) (l : List Int) (aw : Int) : AmS w A c l aw (w.alloc (.cells #[.int .i64 K, .slice A l.length c, .int .i64 aw] 28)).drew :=
  ⟨by simp [go_sem], by simp [go_sem], below_drewN ((Below.refl _ _).alloc (Nat.le_refl _) _) 1, by simp⟩
theorem amS_call {w : World} {A : Option Addr} {c : Nat} {l : List Int} {aw : Int} {W W' : World} (h : AmS w A c l aw W) (hb : Below W.heap.size W W') : AmS w A c l aw W' :=
  ⟨(hb.cell (p := ⟨w.heap.size, 1, none⟩) h.2.2.2).trans h.1, (hb.cell (p := ⟨w.heap.size, 2, none⟩) h.2.2.2).trans h.2.1, h.2.2.1.trans (hb.mono h.2.2.1.size), Nat.lt_of_lt_of_le h.2.2.2 hb.size⟩
theorem amS_alloc {w : World} {A : Option Addr} {c : Nat} {l : List Int} {aw : Int} {W : World} (h : AmS w A c l aw W) (o : Obj) : AmS w A c l aw (W.alloc o) := amS_call h ((Below.refl _ _).alloc (Nat.le_refl _) _)
theorem amS_grown {w : World} {A : Option Addr} {c : Nat} {l : List Int} {aw : Int} {W W' : World} (h : AmS w A c l aw W) {v : Value} {n : Nat} {xs : List Value} (ho : W.ownsRow (w.heap.size + 1) 3 1 v n xs) (hg : W.grownBy W' v.ownBlock) : AmS w A c l aw W' :=
  amS_call' h (below_grown hg h.2.2.2 fun k e => (ho.lt k e).1)
where amS_call' {w : World} {A : Option Addr} {c : Nat} {l : List Int} {aw : Int} {W W' : World} (h : AmS w A c l aw W) (hb : Below (w.heap.size + 1) W W') : AmS w A c l aw W' :=
  ⟨(hb.cell (p := ⟨w.heap.size, 1, none⟩) (Nat.lt_succ_self _)).trans h.1, (hb.cell (p := ⟨w.heap.size, 2, none⟩) (Nat.lt_succ_self _)).trans h.2.1, h.2.2.1.trans (hb.mono (Nat.le_succ _)), Nat.lt_of_lt_of_le h.2.2.2 hb.size⟩

theorem news_kept {X W' : World} {v : Value} {n : Nat} (hb : Below X.heap.size X W') (hc : X.cell? ⟨n, 0, none⟩ = some v) (hn : n < X.heap.size) :
    ∀ j u, [v][j]? = some u → W'.cell? ((⟨n, 0, none⟩ : Addr).add j) = some u := fun j u hu => by
  rw [add_pl]
  have hj : j = 0 := by
    cases j with
    | zero => rfl
    | succ j => simp at hu
  subst hj
  refine (hb.cell (p := ⟨n, 0 + 0, none⟩) hn).trans ?_
  simp at hu
  subst hu
  exact hc
theorem own_end {w w' : World} {v : Value} {l : List Int} {aw : Int} (h : w'.ownsRow (w.heap.size + 1) 3 1 v (l.length + 1) (vals l ++ [Value.int .i64 aw])) : w'.ownsRow w.heap.size 3 1 v (l ++ [aw]).length (vals (l ++ [aw])) := by
  have := own_mono h (Nat.le_succ w.heap.size)
  unfold vals at *
  simpa using this

set_option maxHeartbeats 4000000 in
set_option maxRecDepth 100000 in
theorem amounts_any (B : Nat) (K : Int) (A : Option Addr) (c : Nat) (l : List Int) (aw : Int) (w : World) (h : Row w B A l) (hB : B ≤ w.heap.size) (hl : l.length ≤ 900) :
    Calls Tryd.prog 64 #[.agg #[.int .i64 K, .slice A l.length c, .int .i64 aw]] w (NewOwn w (l ++ [aw])) := by
  obtain ⟨i3, ji, jz0, jz1, jz2⟩ := info_parts info3
  replace ji := Lib.hid ji
  replace jz0 := Lib.hid jz0
  replace jz1 := Lib.hid jz1
  replace jz2 := Lib.hid jz2
  have cl : ∀ W, AmS w A c l aw W → Calls Tryd.prog 84 #[.slice A l.length c] W fun e w' => ∃ v, e = .returned v ∧ AmS w A c l aw w' ∧ w'.ownsRow (w.heap.size + 1) 3 1 v l.length (vals l) ∧ Below W.heap.size W w' := fun W hS =>
    (Clone_any B A c l W (h.below (hS.2.2.1.mono hB)) (by have := hS.2.2.1.size; omega) (by omega)).mono fun e w' ⟨v, he, hb, ho⟩ => ⟨v, he, amS_call hS hb, own_mono ho hS.2.2.2, hb⟩
  replace cl := Lib.hid cl
  go_enter Tryd.func64, Tryd.ntmps64
  go_wp2
  go_region_held3 (fun W => W.cell? ⟨w.heap.size, 1, none⟩ = some (.slice A l.length c) ∧ W.cell? ⟨w.heap.size, 2, none⟩ = some (.int .i64 aw) ∧ Below w.heap.size w W ∧ w.heap.size < W.heap.size)
    (first | exact amS_start _ _ _ _ _ _ | assumption | exact amS_alloc (by assumption) _ | exact amS_grown (by assumption) ho1 hgrow | exact amS_grown (by assumption) (World.ownsRow.alloc ho1 _) hgrow)
    (first | (go_at_call 84; refine (cl.out _ (by assumption)).mono ?_; rintro e w1 ⟨v1, rfl, hS1, ho1, hb1⟩) | (refine step_append_lies _ rfl (.tmp 5) (.tmp 8) 26 rfl (w.heap.size + 1) 3 i3 (.int .i64 0) 1 8 Tryd.underlying26 ji.out jz0.out jz1.out jz2.out rfl (by decide) _ _ _ rfl (by first | exact ho1 | exact World.ownsRow.alloc ho1 _) _ 1 1 [.int .i64 aw] rfl rfl (by first | exact cell_one_new _ _ _ | exact news_kept hb1 (by simp [go_sem]) (by simp)) (fun u hu => by simp at hu; subst hu; rfl) (by decide) (by unfold maxLen; omega) (by omega) (by have hq : AmS w A c l aw _ := (by assumption); exact hq.2.2.2) _ rfl ?_; intro g cap w2 hown hgrow hat hlt))
  all_goals
    have hq : AmS w A c l aw w2 := (by assumption)
    have hbb := hq.2.2.1
    have ho := own_end hown
    clear hgrow hat hlt hb1 hown
    go_wp2
    go_ret
    exact ⟨_, rfl, hbb, ho⟩
theorem amounts_row {B : Nat} {K : Int} {A : Option Addr} {c : Nat} {l : List Int} {aw : Int} {w : World} (h : Row w B A l) (hB : B ≤ w.heap.size) (hl : l.length ≤ 900) :
    Calls Tryd.prog 64 #[.agg #[.int .i64 K, .slice A l.length c, .int .i64 aw]] w (NewRow w (l ++ [aw])) := (amounts_any B K A c l aw w h hB hl).mono fun e w' hn => hn.row (by simp; omega)
end Go.Proofs.YtnbgjgiknfcdkaaDoor
