/-
  slices.Sorted of slices.Values of a plain list of integers: what it hands back owns the numbers in their order.
-/
import Derived.Test.YthleekdkbgnabaaYa
namespace Go.Proofs.Ythleekdkbgnabaa
open Go.RowKit Go.Deep M
set_option linter.unusedVariables false
set_option linter.unusedSimpArgs false
attribute [local go_sem] Oper.semAt_some

theorem ValuesI_any (A : Option Addr) (n c : Nat) (w : World) :
    Calls Try.prog 105 #[.slice A n c] w fun e w' => e = .returned (.func (.func 123) #[] #[.pointer (some ⟨w.heap.size, 0, none⟩)]) ∧ w' = w.alloc (.cells #[.slice A n c] 22) := by
  go_enter Try.func105, Try.ntmps105
  go_wp2
  go_ret
  exact ⟨rfl, rfl⟩

set_option maxRecDepth 100000 in
set_option maxHeartbeats 2000000 in
theorem valuesI1_in (n : Nat) (l Bs n₀ : Nat) (A : Option Addr) (c : Nat) (zs : List Int) (J Jx : List Int → World → Prop)
    (hY : ∀ pre x W, J pre W → pre.length < zs.length → YieldAt Fence.wide (n - 1) Try.prog l (enc1 x) W fun e W' =>
      (e = .returned (.bool true) ∧ J (pre ++ [x]) W' ∧ Below n₀ W W') ∨ (e = .returned (.bool false) ∧ Jx (pre ++ [x]) W'))
    (W : World) (hBs : W.cell? ⟨Bs, 0, none⟩ = some (.slice A zs.length c)) (hr : Row W n₀ A zs) (h0 : J [] W) :
    CallsIn Fence.wide n Try.prog 123 #[.func (.yield l) #[] #[], .pointer (some ⟨Bs, 0, none⟩)] W fun e W' => (∃ v, e = .returned v) ∧
      ((∃ ys, ys = zs ∧ J ys W') ∨ (∃ pre, True ∧ Jx pre W')) := by
  have h63 := hr.1
  have hat := fun X (hX : Below n₀ W X) k (hk : k < zs.length) => (hr.below hX).at_ k hk
  have htk : ∀ k, k < zs.length → zs.take k ++ [el zs k] = zs.take (k + 1) := fun k hk => by rw [el_eq zs k hk, List.take_append_getElem hk]
  replace hat := Lib.hid hat
  replace htk := Lib.hid htk
  replace hr := Lib.hid hr
  refine callsIn_of_wp Try.func123 rfl trivial ?_ rfl
  simp only [Try.ntmps123, List.size_toArray, List.length_cons, List.length_nil, Nat.reduceAdd, Nat.reduceSub, Array.replicate_succ, Array.replicate_zero, List.push_toArray, List.append_toArray, List.nil_append, List.cons_append]
  gi_wp2
  gi_loopw [7] (fun i wr => ∃ k : Nat, k ≤ zs.length ∧ i = .int .i64 k ∧ J (zs.take k) wr ∧ Below n₀ W wr) (fun i _ => zs.length - (intOf i).toNat)
  case atStart => exact ⟨0, Nat.zero_le _, rfl, h0, Below.refl _ _⟩
  case round =>
    obtain ⟨k, hk, rfl, hJs, hnx⟩ := hrel
    by_cases hlt : k < zs.length
    · obtain ⟨b, o, rfl, hb, e0⟩ := hat.out wr hnx k hlt
      obtain ⟨fn, tmps, assign, body, hy, hR⟩ := hY _ (el zs k) wr hJs (by rw [List.length_take]; omega)
      rw [htk.out k hlt] at hR
      dsimp only [enc1] at hy
      gi_wp2
      refine ⟨fun hd => (by cases hd), ?_⟩
      refine hR.mono ?_
      rintro e W3 (⟨rfl, hJ3, hk3⟩ | ⟨rfl, hJx3⟩)
      · gi_wp2
        go_roundw
        case rel => exact ⟨k + 1, by omega, by simp, hJ3, hnx.trans hk3⟩
        case measure => simp [intOf]; omega
      · gi_wp2
        refine bodyPost_ret (results_none rfl _ _ _) rfl ?_
        exact ⟨⟨_, rfl⟩, .inr ⟨_, trivial, hJx3⟩⟩
    · obtain rfl : k = zs.length := by omega
      rw [List.take_length] at hJs
      gi_wp2
      go_end0
      exact ⟨⟨_, rfl⟩, .inl ⟨_, rfl, hJs⟩⟩
theorem valuesI_stops (n : Nat) (Bv : Nat) (A : Option Addr) (c : Nat) (zs : List Int) (w : World) (n₀ : Nat) (hn : n₀ ≤ w.heap.size) (hBv : Bv < w.heap.size) (hv : w.cell? ⟨Bv, 0, none⟩ = some (.slice A zs.length c)) (hr : Row w n₀ A zs) :
    SeqStopsK Fence.wide n Try.prog 123 #[.pointer (some ⟨Bv, 0, none⟩)] enc1 (Below n₀) (fun ys => ys = zs) (fun _ => True) zs.length w := fun l J Jx W hW _ _ hY h0 =>
  valuesI1_in n l Bv n₀ A c zs J Jx hY W ((hW.cell (p := ⟨Bv, 0, none⟩) hBv).trans hv) (hr.below (hW.mono hn)) h0

set_option maxRecDepth 100000 in
set_option maxHeartbeats 4000000 in
theorem AppendSeqI_in (n : Nat) (hn1 : 1 ≤ n) (Bv : Nat) (A : Option Addr) (c : Nat) (zs : List Int) (w : World) (hBv : Bv < w.heap.size) (hv : w.cell? ⟨Bv, 0, none⟩ = some (.slice A zs.length c)) (hr : Row w w.heap.size A zs) (h12 : zs.length ≤ 1000) :
    CallsIn Fence.wide n Try.prog 129 #[.slice none 0 0, .func (.func 123) #[] #[.pointer (some ⟨Bv, 0, none⟩)]] w fun e w' => ∃ v, e = .returned v ∧ Below w.heap.size w w' ∧ w'.ownsRow (w.heap.size + 1) 3 1 v zs.length (vals zs) := by
  obtain ⟨i3, ji, jz0, jz1, jz2⟩ := info_parts info3
  replace ji := Lib.hid ji
  replace jz0 := Lib.hid jz0
  replace jz1 := Lib.hid jz1
  replace jz2 := Lib.hid jz2
  have hmx : Try.prog.follows .mixedOrders = true := by kernel_rfl
  have hS := ApI.start w
  have hsz : (w.alloc (.cells #[.slice none 0 0] 22)).heap.size = w.heap.size + 1 := by simp
  have hv0 := ((ba1 w (.cells #[.slice none 0 0] 22)).cell (p := ⟨Bv, 0, none⟩) hBv).trans hv
  have hr0 := hr.below (ba1 w (.cells #[.slice none 0 0] 22))
  refine callsIn_of_wp_marks Try.func129 rfl trivial ?_ rfl
  simp only [Try.ntmps129, List.size_toArray, List.length_cons, List.length_nil, Nat.reduceAdd, Nat.reduceSub, Array.replicate_succ, Array.replicate_zero, List.push_toArray, List.append_toArray, List.nil_append, List.cons_append]
  gi_wp2
  obtain ⟨W0, hW0⟩ : ∃ W, W = w.alloc (.cells #[.slice none 0 0] 22) := ⟨_, rfl⟩
  rw [← hW0] at hS hsz hv0 hr0 ⊢
  refine wpIn_rangeFunc_ownG_of_H rfl hn1 (gf := 123) (lb := #[.pointer (some ⟨Bv, 0, none⟩)]) rfl trivial (enters_of Try.func123 (by kernel_rfl) rfl)
    (valuesI_stops (n - 1) Bv A c zs W0 w.heap.size (by omega) (by omega) hv0 hr0)
    (fun h k => h.trans k) (fun W l o o' hl h _ _ => below_put W l o o' (by omega) h) (Below.refl _ _) (fun _ => rfl)
    (fun pre X => ∃ v, ApI w pre v X)
    (fun _ _ _ => False)
    (fun s X Y row ⟨v, h⟩ hg hr => ⟨v, h.grown hg fun r e => ⟨by have := (hr r e).1; omega, (hr r e).2⟩⟩)
    (fun _ _ _ _ _ hs _ _ => hs)
    ⟨_, hS⟩
    (fun y => { tmps := #[.slice none 0 0, .func (.func 123) #[] #[.pointer (some ⟨Bv, 0, none⟩)], .pointer (some ⟨w.heap.size, 0, none⟩), undef, .slice none 0 0, .int .i64 y, .func (.func 123) #[] #[.pointer (some ⟨Bv, 0, none⟩)], .int .i64 y, undef, undef, undef, undef, undef], defers := [] })
    ?assign ?body ?done ?stop (fun X => Below.refl _ _)
  case assign =>
    intro l y X K hK
    gi_wp2
    exact hK
  case body =>
    rintro l pre y X ⟨v, hX⟩ hpl
    have hb0 := hX.box
    have hbl := blk_lt hb0
    have hXs := hX.below.size
    have q0 : X.cell? ⟨w.heap.size, 0, none⟩ = some v := by simp [World.cell?, hb0]
    have hne := one_new X y
    have hown := own_up hX.own (ba1 X (.cells #[.int .i64 y] 3))
    have hfin : ∀ v' w3, w3.ownsRow (w.heap.size + 1) 3 1 v' (pre.length + 1) (vals pre ++ [.int .i64 y]) → (X.alloc (.cells #[.int .i64 y] 3)).grownBy w3 v.ownBlock →
        (w3.frozen? ⟨w.heap.size, 0, none⟩ = false ∧ w3.cell? ⟨w.heap.size, 0, none⟩ = some v) ∧ ∀ a', ownPostG W0.heap.size (Below w.heap.size) (fun pre X => ∃ v, ApI w pre v X) (fun _ _ _ => False) (pre ++ [y]) X .normal a' (w3.setCell ⟨w.heap.size, 0, none⟩ v') := by
      intro v' w3 ho hg
      have hge : ∀ k, v.ownBlock = some k → w.heap.size + 1 ≤ k := fun k e => (hX.own.lt k e).1
      have hbx : w3.heap[w.heap.size]? = some (.cells #[v] 22 (0, 0)) := (hg.block _ (by simp; omega) (fun e => by have := hge _ e.symm; omega)).trans ((Below.heap_alloc _ _ _ hbl).trans hb0)
      have hbw : Below w.heap.size X w3 := ((Below.refl _ X).alloc (by omega) _).grown hg (by simp; omega) (fun k e => by have := hge k e; omega)
      have hko : KeepsOthers X (w3.setCell ⟨w.heap.size, 0, none⟩ v') := ((KeepsOthers.alloc X _).trans (KeepsOthers.of_grownBy hg fun j o e ho => by
        obtain ⟨cur, hh⟩ := own_cells hown e
        rw [hh] at ho; cases ho; rfl)).trans (KeepsOthers.setCell _ _ _)
      refine ⟨⟨by simp [World.frozen?, hbx], by simp [World.cell?, hbx]⟩, fun a' => ⟨hko.from _, hbw.setCell (Nat.le_refl _) _, v', (hX.below.trans hbw).setCell (Nat.le_refl _) _, setBox hbx v', ?_⟩⟩
      rw [List.length_append, vals_app]
      exact own_to ho fun g hgv => setCell_far (by have := (ho.lt g hgv).1; omega)
    revert hfin
    generalize ownPostG _ _ _ _ _ _ = Q
    intro hfin
    replace hfin := Lib.hid hfin
    replace hown := Lib.hid hown
    replace hne := Lib.hid hne
    generalize Value.func (.func 123) #[] _ = vf
    have hpl' : pre.length + 1 ≤ 1000 := by omega
    clear hX hS hv0 hr0 hr hv
    gi_wp2_with (gi_at_builtin; refine wpListIn_append_own _ rfl (.tmp 8) (.tmp 10) 22 rfl (w.heap.size + 1) 3 i3 (.int .i64 0) 1 8 Try.underlying22 ji.out jz0.out jz1.out jz2.out rfl (by decide) _ _ _ rfl hown.out ⟨X.heap.size, 0, none⟩ 1 1 [.int .i64 y] rfl rfl hne.out (fun u hu => by cases List.mem_singleton.1 hu; rfl) (by unfold maxLen; omega) (by omega) (by simp; omega) ?_; intro v' w3 hown' hg3 _; obtain ⟨⟨f3, c3⟩, hQ⟩ := hfin.out v' w3 hown' hg3; replace hQ := Lib.hid hQ; obtain ⟨A', c', rfl⟩ := own_slice hown'; clear hown' hg3)
    exact hQ.out _
  case stop =>
    rintro D c pre X _ _ h _
    exact h.elim
  case done =>
    rintro D ys X hD rfl ⟨v, hX⟩ hK
    have q0 : X.cell? ⟨w.heap.size, 0, none⟩ = some v := by simp [World.cell?, hX.box]
    gi_wp2
    refine ⟨by simp, .inl ⟨_, _, rfl, run_takeDeferred hK, ?_⟩⟩
    have hp := hX.grown (grownBy_putObj' X D (.deferred none)) (fun r e => by cases e; exact ⟨by omega, _, hK, rfl⟩)
    exact ⟨_, results_tmp rfl _ _ _, v, rfl, hp.below, hp.own⟩
theorem AppendSeqI_any (Bv : Nat) (A : Option Addr) (c : Nat) (zs : List Int) (w : World) (hBv : Bv < w.heap.size) (hv : w.cell? ⟨Bv, 0, none⟩ = some (.slice A zs.length c)) (hr : Row w w.heap.size A zs) (h12 : zs.length ≤ 1000) :
    Calls Try.prog 129 #[.slice none 0 0, .func (.func 123) #[] #[.pointer (some ⟨Bv, 0, none⟩)]] w fun e w' => ∃ v, e = .returned v ∧ Below w.heap.size w w' ∧ w'.ownsRow (w.heap.size + 1) 3 1 v zs.length (vals zs) :=
  (callsIn_wide (n := 1)).1 (AppendSeqI_in 1 (Nat.le_refl _) Bv A c zs w hBv hv hr h12)

set_option maxRecDepth 100000 in
set_option maxHeartbeats 2000000 in
theorem CollectI_any (Bv : Nat) (A : Option Addr) (c : Nat) (zs : List Int) (w : World) (hBv : Bv < w.heap.size) (hv : w.cell? ⟨Bv, 0, none⟩ = some (.slice A zs.length c)) (hr : Row w w.heap.size A zs) (h12 : zs.length ≤ 1000) :
    Calls Try.prog 117 #[.func (.func 123) #[] #[.pointer (some ⟨Bv, 0, none⟩)]] w fun e w' => ∃ v, e = .returned v ∧ Below w.heap.size w w' ∧ w'.ownsRow (w.heap.size + 1) 3 1 v zs.length (vals zs) := by
  have k := Lib.hid (AppendSeqI_any Bv A c zs w hBv hv hr h12)
  replace hv := Lib.hid hv
  replace hr := Lib.hid hr
  go_enter Try.func117, Try.ntmps117
  go_wp2_with fail
  refine k.out.mono ?_
  rintro e X ⟨v, rfl, hb, ho⟩
  replace hb := Lib.hid hb
  replace ho := Lib.hid ho
  go_wp2
  go_ret
  exact ⟨v, rfl, hb.out, ho.out⟩

set_option maxRecDepth 100000 in
set_option maxHeartbeats 2000000 in
theorem SortedI_any (Bv : Nat) (A : Option Addr) (c : Nat) (zs : List Int) (w : World) (hBv : Bv < w.heap.size) (hv : w.cell? ⟨Bv, 0, none⟩ = some (.slice A zs.length c)) (hr : Row w w.heap.size A zs) (h12 : zs.length ≤ 1000) :
    Calls Try.prog 95 #[.func (.func 123) #[] #[.pointer (some ⟨Bv, 0, none⟩)]] w fun e w' => ∃ v, e = .returned v ∧ Below w.heap.size w w' ∧ w'.ownsRow (w.heap.size + 1) 3 1 v (srt zs).length (vals (srt zs)) := by
  have k := Lib.hid (CollectI_any Bv A c zs w hBv hv hr h12)
  have hso := Lib.hid (fun X (hX : Below w.heap.size w X) v (ho : X.ownsRow (w.heap.size + 1) 3 1 v zs.length (vals zs)) (hs : w.heap.size + 1 ≤ X.heap.size) => Sort_own ho hs h12)
  replace hv := Lib.hid hv
  replace hr := Lib.hid hr
  rw [srt_len]
  have hcl : ∀ (X : World) v, X.ownsRow (w.heap.size + 1) 3 1 v zs.length (vals zs) → Below w.heap.size w X → Calls Try.prog 118 #[v] X fun e w' => e = .returned (.tuple #[]) ∧ Below w.heap.size w w' ∧ w'.ownsRow (w.heap.size + 1) 3 1 v zs.length (vals (srt zs)) := by
    intro X v ho hX
    rcases ho.2 with ⟨rfl, hz⟩ | ⟨gb, cap, cur, rfl, hbase, hgb, _⟩
    · have hss : zs = [] := List.eq_nil_of_length_eq_zero hz
      subst hss
      refine (Any.slices_Sort_int_none Try.lays189 none 0 X).mono ?_
      rintro e w' ⟨rfl, rfl⟩
      exact ⟨rfl, hX, by simpa [srt, vals] using ho⟩
    · have := blk_lt hgb
      refine (hso.out X hX _ ho (by omega)).mono ?_
      rintro e w' ⟨rfl, hb, h'⟩
      exact ⟨rfl, hX.trans (hb.mono (by omega)), h'⟩
  replace hcl := Lib.hid hcl
  go_enter Try.func95, Try.ntmps95
  go_wp2_with fail
  refine k.out.mono ?_
  rintro e X ⟨v, rfl, hb, ho⟩
  have k94 := Lib.hid (hcl.out X v ho hb)
  replace hb := Lib.hid hb
  replace ho := Lib.hid ho
  go_wp2_with fail
  refine k94.out.mono ?_
  rintro e X2 ⟨rfl, hb2, ho2⟩
  replace hb2 := Lib.hid hb2
  replace ho2 := Lib.hid ho2
  go_wp2
  go_ret
  exact ⟨v, rfl, hb2.out, ho2.out⟩
end Go.Proofs.Ythleekdkbgnabaa
