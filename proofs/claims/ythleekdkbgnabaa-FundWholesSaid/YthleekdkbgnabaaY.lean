/-
  slices.AppendSeq and slices.Collect of slices.Values of integers.
-/
import Derived.Test.YthleekdkbgnabaaX
namespace Go.Proofs.Ythleekdkbgnabaa
open Go.RowKit Go.Deep M
set_option linter.unusedVariables false
set_option linter.unusedSimpArgs false
attribute [local go_sem] Oper.semAt_some

theorem values_stops (n : Nat) (Bv : Nat) (A : Option Addr) (c : Nat) (zs : List Int) (w : World) (n₀ : Nat) (hn : n₀ ≤ w.heap.size) (hBv : Bv < w.heap.size) (hv : w.cell? ⟨Bv, 0, none⟩ = some (.slice A zs.length c)) (hr : Row w n₀ A zs) :
    SeqStopsK Fence.wide n Try.prog 119 #[.pointer (some ⟨Bv, 0, none⟩)] enc1 (Below n₀) (fun ys => ys = zs) (fun _ => True) zs.length w := fun l J Jx W hW _ _ hY h0 =>
  values1_in n l Bv n₀ A c zs J Jx hY W ((hW.cell (p := ⟨Bv, 0, none⟩) hBv).trans hv) (hr.below (hW.mono hn)) h0

theorem own_cells {w : World} {base n : Nat} {v : Value} {xs : List Value} {g : Nat} (h : w.ownsRow base 3 1 v n xs) (hg : v.ownBlock = some g) : ∃ cur, w.heap[g]? = some (.cells cur 3 (0, 0)) := by
  rcases h.2 with ⟨rfl, _⟩ | ⟨g', cap, cur, rfl, _, hh, _⟩
  · cases hg
  · cases hg; exact ⟨cur, hh⟩
theorem own_slice {w : World} {base n : Nat} {v : Value} {xs : List Value} (h : w.ownsRow base 3 1 v n xs) : ∃ A c, v = .slice A n c := by
  rcases h.2 with ⟨rfl, rfl⟩ | ⟨g', cap, cur, rfl, _⟩
  · exact ⟨none, 0, rfl⟩
  · exact ⟨_, _, rfl⟩
/-- What has been collected so far: the box of the list. -/
structure ApI (w : World) (zs : List Int) (v : Value) (X : World) : Prop where
  below : Below w.heap.size w X
  box : X.heap[w.heap.size]? = some (.cells #[v] 22 (0, 0))
  own : X.ownsRow (w.heap.size + 1) 3 1 v zs.length (vals zs)
theorem ApI.grown {w X Y : World} {zs : List Int} {v : Value} {row : Option Nat} (h : ApI w zs v X) (hg : X.grownBy Y row) (hr : ∀ r, row = some r → w.heap.size ≤ r ∧ ∃ o : Obj, X.heap[r]? = some o ∧ o.isCells = false) : ApI w zs v Y := by
  have ne : ∀ k cur t, X.heap[k]? = some (.cells cur t (0, 0)) → some k ≠ row := fun k cur t hk e => by
    obtain ⟨_, o, ho, hc⟩ := hr k e.symm
    rw [hk] at ho
    cases ho
    cases hc
  refine ⟨h.below.grown hg h.below.size (fun k e => (hr k e).1), (hg.block _ (blk_lt h.box) (ne _ _ _ h.box)).trans h.box, own_to h.own fun g hgv => ?_⟩
  obtain ⟨cur, hh⟩ := own_cells h.own hgv
  exact hg.block g (blk_lt hh) (ne _ _ _ hh)
theorem ApI.start (w : World) : ApI w [] (.slice none 0 0) (w.alloc (.cells #[.slice none 0 0] 22)) := ⟨ba1 w _, heap_alloc_new w _, ⟨rfl, .inl ⟨rfl, rfl⟩⟩⟩
theorem below_put {n₀ : Nat} (W : World) (l : Nat) (o o' : Obj) (hl : n₀ ≤ l) (h : W.heap[l]? = some o) : Below n₀ W (W.putObj l o') :=
  (Below.refl n₀ W).grown (grownBy_putObj' W l o') (Nat.le_trans hl (Nat.le_of_lt (blk_lt h))) (fun k e => by cases e; exact hl)
theorem setBox {X : World} {b : Nat} {v : Value} (h : X.heap[b]? = some (.cells #[v] 22 (0, 0))) (v' : Value) : (X.setCell ⟨b, 0, none⟩ v').heap[b]? = some (.cells #[v'] 22 (0, 0)) := by
  simp [World.setCell, Array.getElem?_modify, h]

set_option maxRecDepth 100000 in
set_option maxHeartbeats 4000000 in
theorem AppendSeq_in (n : Nat) (hn1 : 1 ≤ n) (Bv : Nat) (A : Option Addr) (c : Nat) (zs : List Int) (w : World) (hBv : Bv < w.heap.size) (hv : w.cell? ⟨Bv, 0, none⟩ = some (.slice A zs.length c)) (hr : Row w w.heap.size A zs) (h12 : zs.length ≤ 1000) :
    CallsIn Fence.wide n Try.prog 129 #[.slice none 0 0, .func (.func 119) #[] #[.pointer (some ⟨Bv, 0, none⟩)]] w fun e w' => ∃ v, e = .returned v ∧ Below w.heap.size w w' ∧ w'.ownsRow (w.heap.size + 1) 3 1 v zs.length (vals zs) := by
  obtain ⟨i3, ji, jz0, jz1, jz2⟩ := info_parts info3
  replace ji := Lib.hid ji
  replace jz0 := Lib.hid jz0
  replace jz1 := Lib.hid jz1
  replace jz2 := Lib.hid jz2
  have hmx : Try.prog.follows .mixedOrders = true := by kernel_rfl
  have hS := ApI.start w
  have hsz : (w.alloc (.cells #[.slice none 0 0] 22)).heap.size = w.heap.size + 1 := by simp
  have hv0 := ((ba1 w (.cells #[.slice none 0 0] 22)).cell (p := ⟨Bv, 0, none⟩) hBv).trans hv
  have hr0 := hr.below (ba1 w (.cells #[.slice none 0 0] 22))
  refine callsIn_of_wp_marks Try.func129 rfl trivial ?_ rfl
  simp only [Try.ntmps129, List.size_toArray, List.length_cons, List.length_nil, Nat.reduceAdd, Nat.reduceSub, Array.replicate_succ, Array.replicate_zero, List.push_toArray, List.append_toArray, List.nil_append, List.cons_append]
  gi_wp2
  obtain ⟨W0, hW0⟩ : ∃ W, W = w.alloc (.cells #[.slice none 0 0] 22) := ⟨_, rfl⟩
  rw [← hW0] at hS hsz hv0 hr0 ⊢
  refine wpIn_rangeFunc_ownG_of_H rfl hn1 (gf := 119) (lb := #[.pointer (some ⟨Bv, 0, none⟩)]) rfl trivial (enters_of Try.func119 (by kernel_rfl) rfl)
    (values_stops (n - 1) Bv A c zs W0 w.heap.size (by omega) (by omega) hv0 hr0)
    (fun h k => h.trans k) (fun W l o o' hl h _ _ => below_put W l o o' (by omega) h) (Below.refl _ _) (fun _ => rfl)
    (fun pre X => ∃ v, ApI w pre v X)
    (fun _ _ _ => False)
    (fun s X Y row ⟨v, h⟩ hg hr => ⟨v, h.grown hg fun r e => ⟨by have := (hr r e).1; omega, (hr r e).2⟩⟩)
    (fun _ _ _ _ _ hs _ _ => hs)
    ⟨_, hS⟩
    (fun y => { tmps := #[.slice none 0 0, .func (.func 119) #[] #[.pointer (some ⟨Bv, 0, none⟩)], .pointer (some ⟨w.heap.size, 0, none⟩), undef, .slice none 0 0, .int .i64 y, .func (.func 119) #[] #[.pointer (some ⟨Bv, 0, none⟩)], .int .i64 y, undef, undef, undef, undef, undef], defers := [] })
    ?assign ?body ?done ?stop (fun X => Below.refl _ _)
  case assign =>
    intro l y X K hK
    gi_wp2
    exact hK
  case body =>
    rintro l pre y X ⟨v, hX⟩ hpl
    have hb0 := hX.box
    have hbl := blk_lt hb0
    have hXs := hX.below.size
    have q0 : X.cell? ⟨w.heap.size, 0, none⟩ = some v := by simp [World.cell?, hb0]
    have hne := one_new X y
    have hown := own_up hX.own (ba1 X (.cells #[.int .i64 y] 3))
    have hfin : ∀ v' w3, w3.ownsRow (w.heap.size + 1) 3 1 v' (pre.length + 1) (vals pre ++ [.int .i64 y]) → (X.alloc (.cells #[.int .i64 y] 3)).grownBy w3 v.ownBlock →
        (w3.frozen? ⟨w.heap.size, 0, none⟩ = false ∧ w3.cell? ⟨w.heap.size, 0, none⟩ = some v) ∧ ∀ a', ownPostG W0.heap.size (Below w.heap.size) (fun pre X => ∃ v, ApI w pre v X) (fun _ _ _ => False) (pre ++ [y]) X .normal a' (w3.setCell ⟨w.heap.size, 0, none⟩ v') := by
      intro v' w3 ho hg
      have hge : ∀ k, v.ownBlock = some k → w.heap.size + 1 ≤ k := fun k e => (hX.own.lt k e).1
      have hbx : w3.heap[w.heap.size]? = some (.cells #[v] 22 (0, 0)) := (hg.block _ (by simp; omega) (fun e => by have := hge _ e.symm; omega)).trans ((Below.heap_alloc _ _ _ hbl).trans hb0)
      have hbw : Below w.heap.size X w3 := ((Below.refl _ X).alloc (by omega) _).grown hg (by simp; omega) (fun k e => by have := hge k e; omega)
      have hko : KeepsOthers X (w3.setCell ⟨w.heap.size, 0, none⟩ v') := ((KeepsOthers.alloc X _).trans (KeepsOthers.of_grownBy hg fun j o e ho => by
        obtain ⟨cur, hh⟩ := own_cells hown e
        rw [hh] at ho; cases ho; rfl)).trans (KeepsOthers.setCell _ _ _)
      refine ⟨⟨by simp [World.frozen?, hbx], by simp [World.cell?, hbx]⟩, fun a' => ⟨hko.from _, hbw.setCell (Nat.le_refl _) _, v', (hX.below.trans hbw).setCell (Nat.le_refl _) _, setBox hbx v', ?_⟩⟩
      rw [List.length_append, vals_app]
      exact own_to ho fun g hgv => setCell_far (by have := (ho.lt g hgv).1; omega)
    revert hfin
    generalize ownPostG _ _ _ _ _ _ = Q
    intro hfin
    replace hfin := Lib.hid hfin
    replace hown := Lib.hid hown
    replace hne := Lib.hid hne
    generalize Value.func (.func 119) #[] _ = vf
    have hpl' : pre.length + 1 ≤ 1000 := by omega
    clear hX hS hv0 hr0 hr hv
    gi_wp2_with (gi_at_builtin; refine wpListIn_append_own _ rfl (.tmp 8) (.tmp 10) 22 rfl (w.heap.size + 1) 3 i3 (.int .i64 0) 1 8 Try.underlying22 ji.out jz0.out jz1.out jz2.out rfl (by decide) _ _ _ rfl hown.out ⟨X.heap.size, 0, none⟩ 1 1 [.int .i64 y] rfl rfl hne.out (fun u hu => by cases List.mem_singleton.1 hu; rfl) (by unfold maxLen; omega) (by omega) (by simp; omega) ?_; intro v' w3 hown' hg3 _; obtain ⟨⟨f3, c3⟩, hQ⟩ := hfin.out v' w3 hown' hg3; replace hQ := Lib.hid hQ; obtain ⟨A', c', rfl⟩ := own_slice hown'; clear hown' hg3)
    exact hQ.out _
  case stop =>
    rintro D c pre X _ _ h _
    exact h.elim
  case done =>
    rintro D ys X hD rfl ⟨v, hX⟩ hK
    have q0 : X.cell? ⟨w.heap.size, 0, none⟩ = some v := by simp [World.cell?, hX.box]
    gi_wp2
    refine ⟨by simp, .inl ⟨_, _, rfl, run_takeDeferred hK, ?_⟩⟩
    have hp := hX.grown (grownBy_putObj' X D (.deferred none)) (fun r e => by cases e; exact ⟨by omega, _, hK, rfl⟩)
    exact ⟨_, results_tmp rfl _ _ _, v, rfl, hp.below, hp.own⟩
end Go.Proofs.Ythleekdkbgnabaa
