/-
  'priced': the prices before one move.
-/
import Derived.Test.YtnbgjgiknfcdkaaDoorZi
import Derived.Test.YtnbgjgiknfcdkaaDoorYb
namespace Go.Proofs.YtnbgjgiknfcdkaaDoor
open Go.RowKit Go.Deep M
set_option linter.unusedVariables false
set_option linter.unusedSimpArgs false
attribute [local go_sem] Oper.semAt_some

/-! ### mathematics -/
theorem gd_sum (c : List Int) (N : Nat) : ∀ l : List (Nat × Int), (∀ x, x ∈ l → x.1 ≤ N) → gd c l = sm (fun j => gs l j * el c j) (N + 1)
  | [], _ => by
    show (0 : Int) = _
    exact (sm_zero_of (N + 1) (fun j _ => by simp [gs])).symm
  | x :: l, h => by
    have h1 := gd_sum c N l (fun y hy => h y (List.mem_cons_of_mem _ hy))
    have h2 : x.1 ≤ N := h x (List.mem_cons_self ..)
    show el c x.1 * x.2 + gd c l = sm (fun j => ((if x.1 = j then x.2 else 0) + gs l j) * el c j) (N + 1)
    have e : sm (fun j => ((if x.1 = j then x.2 else 0) + gs l j) * el c j) (N + 1) = sm (fun j => (if x.1 = j then x.2 * el c j else 0) + gs l j * el c j) (N + 1) := sm_congr _ (fun j _ => by
      rw [Int.add_mul]
      split <;> simp)
    rw [e, sm_add, ← h1]
    have e2 : sm (fun j => if x.1 = j then x.2 * el c j else 0) (N + 1) = x.2 * el c x.1 := by
      rw [sm_one (N + 1) x.1 (by omega) (fun j _ hne => by rw [if_neg (fun e => hne e.symm)]), if_pos rfl]
    rw [e2, Int.mul_comm]
theorem gd_bound (c : List Int) (N : Nat) (hc : ∀ i, i ≤ N → 0 ≤ el c i ∧ el c i ≤ 1000000000000) : ∀ l : List (Nat × Int), (∀ x, x ∈ l → x.1 ≤ N ∧ 0 ≤ x.2 ∧ x.2 ≤ 16) → 0 ≤ gd c l ∧ gd c l ≤ 16000000000000 * (l.length : Int)
  | [], _ => by simp [gd]
  | x :: l, h => by
    have h1 := gd_bound c N hc l (fun y hy => h y (List.mem_cons_of_mem _ hy))
    have h2 := h x (List.mem_cons_self ..)
    have h3 := mul16 h2.2 (hc x.1 h2.1)
    rw [Int.mul_comm] at h3
    show 0 ≤ el c x.1 * x.2 + gd c l ∧ el c x.1 * x.2 + gd c l ≤ 16000000000000 * ((l.length + 1 : Nat) : Int)
    omega
/-- The prices of the places so far: k of them done, part of the next. -/
def fP (w h : Nat) (L : List Bool) (S a : List Int) (k : Nat) (part : Int) (j : Nat) : Int := if j < k then prF w h L S a j else if j = k then part else 0
theorem fP_set (w h : Nat) (L : List Bool) (S a : List Int) (k : Nat) (p q : Int) (j : Nat) : (if j = k then q else fP w h L S a k p j) = fP w h L S a k q j := by
  unfold fP
  by_cases e : j = k
  · rw [if_pos e, if_neg (by omega), if_pos e]
  · rw [if_neg e, if_neg e, if_neg e]
theorem fP_succ (w h : Nat) (L : List Bool) (S a : List Int) (k : Nat) (j : Nat) : fP w h L S a k (prF w h L S a k) j = fP w h L S a (k + 1) 0 j := by
  unfold fP
  by_cases e : j < k
  · rw [if_pos e, if_pos (by omega)]
  · rw [if_neg e]
    by_cases e2 : j = k
    · rw [if_pos e2, if_pos (by omega), e2]
    · rw [if_neg e2, if_neg (by omega)]
      split <;> rfl

/-! ### the world under way -/
/-- The bay's box, the prices' box, the new row and its box, the marks. -/
structure AccP (W : World) (bc : Array Value) (sv : Value) (n : Nat) (f : Nat → Int) (Ds : List Nat) (wr : World) : Prop where
  below : Below W.heap.size W wr
  size : W.heap.size + 4 ≤ wr.heap.size
  box : wr.heap[W.heap.size]? = some (.cells bc 82 (0, 0))
  src : Boxed wr (W.heap.size + 1) 26 sv
  lat : Boxed wr (W.heap.size + 1 + 1 + 1) 26 (.slice (some ⟨W.heap.size + 1 + 1, 0, none⟩) n n)
  row : wr.rowIs (W.heap.size + 1 + 1) 3 n (fun j => .int .i64 (f j))
  marks : Marks (W.heap.size + 4) Ds wr
theorem AccP.grown {W : World} {bc : Array Value} {sv : Value} {n : Nat} {f : Nat → Int} {Ds : List Nat} {X Y : World} {row : Option Nat} (h : AccP W bc sv n f Ds X) (hg : X.grownBy Y row) (hr : ∀ r, row = some r → W.heap.size + 4 ≤ r ∧ r ∉ Ds) : AccP W bc sv n f Ds Y := by
  have hs := h.size
  refine ⟨h.below.grown hg h.below.size (fun k e => by have := (hr k e).1; omega), Nat.le_trans hs hg.size, ?_, ?_, ?_, ?_, ⟨fun D hD => ?_, h.marks.apart⟩⟩
  · exact (hg.block _ (blk_lt h.box) (fun e => by have := (hr _ e.symm).1; omega)).trans h.box
  · exact (hg.block _ h.src.lt (fun e => by have := (hr _ e.symm).1; omega)).trans h.src
  · exact (hg.block _ h.lat.lt (fun e => by have := (hr _ e.symm).1; omega)).trans h.lat
  · exact h.row.of_block (hg.block _ h.row.lt (fun e => by have := (hr _ e.symm).1; omega))
  · obtain ⟨h1, h2⟩ := h.marks.lies D hD
    exact ⟨h1, (hg.block _ (blk_lt h2) (fun e => (hr _ e.symm).2 hD)).trans h2⟩
theorem AccP.alloc {W : World} {bc : Array Value} {sv : Value} {n : Nat} {f : Nat → Int} {Ds : List Nat} {X : World} (h : AccP W bc sv n f Ds X) (o : Obj) : AccP W bc sv n f Ds (X.alloc o) := h.grown (World.grownBy_alloc X o none) (fun r e => by cases e)
theorem AccP.drewN {W : World} {bc : Array Value} {sv : Value} {n : Nat} {f : Nat → Int} {Ds : List Nat} {X : World} (h : AccP W bc sv n f Ds X) (m : Nat) : AccP W bc sv n f Ds (X.drewN m) := ⟨below_drewN h.below m, h.size, h.box, h.src, h.lat, h.row, ⟨h.marks.lies, h.marks.apart⟩⟩
theorem AccP.congr {W : World} {bc : Array Value} {sv : Value} {n : Nat} {f g : Nat → Int} {Ds : List Nat} {X : World} (h : AccP W bc sv n f Ds X) (e : ∀ j, j < n → f j = g j) : AccP W bc sv n g Ds X := ⟨h.below, h.size, h.box, h.src, h.lat, h.row.congr (fun j hj => by rw [e j hj]), h.marks⟩
theorem AccP.own {β : Type} {W : World} {bc : Array Value} {sv : Value} {n : Nat} {Ds : List Nat} {B : Nat} (f : β → Nat → Int) (hB : W.heap.size + 4 ≤ B) (hDs : ∀ D, D ∈ Ds → D < B) : OwnFrom B (fun s X => AccP W bc sv n (f s) Ds X) := fun s X Y row h hg hr =>
  h.grown hg fun r e => ⟨by have := (hr r e).1; omega, fun hD => by have := (hr r e).1; have := hDs r hD; omega⟩
theorem AccP.set {W : World} {bc : Array Value} {sv : Value} {n : Nat} {f : Nat → Int} {Ds : List Nat} {X : World} (h : AccP W bc sv n f Ds X) (i : Nat) (v : Int) : AccP W bc sv n (fun j => if j = i then v else f j) Ds (X.setCell ⟨W.heap.size + 1 + 1, i, none⟩ (.int .i64 v)) := by
  refine ⟨h.below.setCell (p := ⟨W.heap.size + 1 + 1, i, none⟩) (by show W.heap.size ≤ W.heap.size + 1 + 1; omega) _, by simpa [World.setCell] using h.size, ?_, ?_, ?_, ?_, ⟨fun D hD => ?_, h.marks.apart⟩⟩
  · exact (setCell_block X _ i _ _ (by omega)).trans h.box
  · exact (setCell_block X _ i _ _ (by omega)).trans h.src
  · exact (setCell_block X _ i _ _ (by omega)).trans h.lat
  · exact (h.row.set i (.int .i64 v)).congr (fun j _ => by split <;> rfl)
  · obtain ⟨h1, h2⟩ := h.marks.lies D hD
    exact ⟨h1, (setCell_block X _ i _ _ (by omega)).trans h2⟩

set_option maxRecDepth 100000 in
set_option maxHeartbeats 4000000 in
theorem priced_any (B : Nat) (w h : Nat) (aL aS A : Option Addr) (cL cS c : Nat) (L : List Bool) (S a : List Int) (W : World) (hBay : Bay w h L S) (hm : BayIn W B aL L aS (w * h) S) (ha : Row W B A a) (hB : B ≤ W.heap.size) (hB1 : 1 ≤ B) (hd : Dirs W)
    (hlen : a.length = w * h + 1) (hnn : ∀ i, i ≤ w * h → 0 ≤ el a i ∧ el a i ≤ 1000000000000) :
    Calls Tryd.prog 89 #[.agg #[.int .i64 w, .int .i64 h, .slice aL L.length cL, .slice aS (w * h) cS], .slice A a.length c] W (NewCap W (pr w h L S a)) := by
  have hc36 := hBay.cells
  have ha36 : 1 ≤ a.length ∧ a.length ≤ 37 := by omega
  have hmx : Tryd.prog.follows .mixedOrders = true := by kernel_rfl
  replace hlen := Lib.hid hlen
  have hmk := run_make_row' (P := Tryd.prog) 26 3 (.int .i64 0) 8 Tryd.underlying26 info3 rfl .i64 .i64 a.length (by omega) (by omega)
  refine (callsIn_wide (n := 5)).1 ?_
  refine callsIn_of_wp_marks Tryd.func89 rfl trivial ?_ rfl
  simp only [Tryd.ntmps89, List.size_toArray, List.length_cons, List.length_nil, Nat.reduceAdd, Nat.reduceSub, Array.replicate_succ, Array.replicate_zero, List.push_toArray, List.append_toArray, List.nil_append, List.cons_append]
  gi_wp2
  clear hmk
  have hstart : AccP W #[.int .i64 w, .int .i64 h, .slice aL L.length cL, .slice aS (w * h) cS] (.slice A a.length c) a.length (fP w h L S a 0 (0)) [] ((((W.alloc (.cells #[.int .i64 w, .int .i64 h, .slice aL L.length cL, .slice aS (w * h) cS] 82)).alloc (.cells #[.slice A a.length c] 26)).alloc (.cells (madeCells #[.int .i64 0] a.length) 3)).alloc
      (.cells #[.slice (some ⟨W.heap.size + 1 + 1, 0, none⟩) a.length a.length] 26)) := by
    refine ⟨ba4 _ _ _ _ _, by simp, ?_, ?_, ?_, ?_, Marks.nil _ _⟩
    · exact (((Below.heap_alloc _ _ _ (by simp; omega)).trans (Below.heap_alloc _ _ _ (by simp; omega))).trans (Below.heap_alloc _ _ _ (by simp))).trans (World.alloc_heap_new W _)
    · have := ((Boxed.new (W.alloc (.cells #[.int .i64 w, .int .i64 h, .slice aL L.length cL, .slice aS (w * h) cS] 82)) 26 (.slice A a.length c)).alloc (.cells (madeCells #[.int .i64 0] a.length) 3)).alloc (.cells #[.slice (some ⟨W.heap.size + 1 + 1, 0, none⟩) a.length a.length] 26)
      simpa using this
    · have := Boxed.new (((W.alloc (.cells #[.int .i64 w, .int .i64 h, .slice aL L.length cL, .slice aS (w * h) cS] 82)).alloc (.cells #[.slice A a.length c] 26)).alloc (.cells (madeCells #[.int .i64 0] a.length) 3)) 26 (.slice (some ⟨W.heap.size + 1 + 1, 0, none⟩) a.length a.length)
      simpa using this
    · have := World.rowIs_made ((W.alloc (.cells #[.int .i64 w, .int .i64 h, .slice aL L.length cL, .slice aS (w * h) cS] 82)).alloc (.cells #[.slice A a.length c] 26)) (.int .i64 0) a.length 3
      rw [World.size_alloc, World.size_alloc] at this
      exact (this.alloc _).congr (fun j _ => by show _ = Value.int .i64 (fP w h L S a 0 0 j); unfold fP; rw [if_neg (by omega)]; split <;> rfl)
  refine wpIn_loop (fun a' wr => ∃ (k : Nat) (Ds : List Nat) (u6 u15 u16 u17 u18 u19 u34 : Value), k ≤ a.length ∧ a' = { tmps := #[.agg #[.int .i64 w, .int .i64 h, .slice aL L.length cL, .slice aS (w * h) cS], .slice A a.length c, .pointer (some ⟨W.heap.size, 0, none⟩), .pointer (some ⟨W.heap.size + 1, 0, none⟩), .slice none 0 0, .pointer (some ⟨W.heap.size + 1 + 1 + 1, 0, none⟩), u6, undef, undef, .slice A a.length c, .int .i64 (a.length : Nat), .slice (some ⟨W.heap.size + 1 + 1, 0, none⟩) a.length a.length, .slice A a.length c, .int .i64 (a.length : Nat), .int .i64 (k : Nat), u15, u16, u17, u18, u19, undef, undef, undef, undef, undef, undef, undef, undef, undef, undef, undef, undef, undef, undef, u34, undef], defers := Ds.map mark } ∧
      AccP W #[.int .i64 w, .int .i64 h, .slice aL L.length cL, .slice aS (w * h) cS] (.slice A a.length c) a.length (fP w h L S a k (0)) Ds wr)
    (fun a' wr => a.length - (intOf (a'.tmps.getD 14 undef)).toNat) ?start ?round
  case start => exact ⟨0, [], undef, undef, undef, undef, undef, undef, undef, Nat.zero_le _, rfl, hstart⟩
  case round =>
    clear hstart
    rintro a' wr ⟨k, Ds, u6, u15, u16, u17, u18, u19, u34, hk, rfl, hI⟩
    by_cases hlt : k < a.length
    · have hkI : (k : Int) < (a.length : Nat) := by omega
      have hsz := hI.size
      have hbx := hI.box
      have g0 : wr.cell? ⟨W.heap.size, 0, none⟩ = some (.int .i64 w) := by simp [World.cell?, hbx]
      have g1 : wr.cell? ⟨W.heap.size, 1, none⟩ = some (.int .i64 h) := by simp [World.cell?, hbx]
      have g2 : wr.cell? ⟨W.heap.size, 2, none⟩ = some (.slice aL L.length cL) := by simp [World.cell?, hbx]
      have g3 : wr.cell? ⟨W.heap.size, 3, none⟩ = some (.slice aS (w * h) cS) := by simp [World.cell?, hbx]
      have q0 : W.heap.size < wr.heap.size := by omega
      have q1 : W.heap.size ≠ wr.heap.size := by omega
      gi_wp2_with fail
      refine ⟨trivial, ?_⟩
      refine CallsIn.mono (callsIn_wide.2 (gives_any w h aL aS cL (w * h) cS L.length k _)) ?_
      rintro e W3 ⟨rfl, hW3⟩
      have hI1 : AccP W #[.int .i64 w, .int .i64 h, .slice aL L.length cL, .slice aS (w * h) cS] (.slice A a.length c) a.length (fP w h L S a k (0)) Ds W3 := by rw [hW3]; exact ((hI.alloc _).alloc _).alloc _
      have hA1 : Boxed W3 wr.heap.size 3 (.int .i64 (k : Nat)) := by rw [hW3]; exact ((Boxed.new wr 3 (.int .i64 (k : Nat))).alloc _).alloc _
      have hs3 : W3.heap.size = wr.heap.size + 3 := by rw [hW3]; simp
      rw [World.size_alloc]
      have e0 : W3.cell? ⟨wr.heap.size + 1, 0, none⟩ = some (.int .i64 w) := by rw [hW3]; simp [go_sem]
      have e1 : W3.cell? ⟨wr.heap.size + 1, 1, none⟩ = some (.int .i64 h) := by rw [hW3]; simp [go_sem]
      have e2 : W3.cell? ⟨wr.heap.size + 1, 2, none⟩ = some (.slice aL L.length cL) := by rw [hW3]; simp [go_sem]
      have e3 : W3.cell? ⟨wr.heap.size + 1, 3, none⟩ = some (.slice aS (w * h) cS) := by rw [hW3]; simp [go_sem]
      have e4 : W3.cell? ⟨wr.heap.size + 1 + 1, 0, none⟩ = some (.int .i64 k) := by rw [hW3]; simp [go_sem]
      clear hW3 g0 g1 g2 g3 hbx
      have hDs : ∀ D, D ∈ Ds → D < W3.heap.size := fun D hD => blk_lt (hI1.marks.lies D hD).2
      gi_wp2
      refine wpIn_rangeFunc_ownG_of_H rfl (by omega) (gf := 98) (lb := #[.pointer (some ⟨wr.heap.size + 1, 0, none⟩), .pointer (some ⟨wr.heap.size + 1 + 1, 0, none⟩)]) rfl trivial (enters_of Tryd.func98 (by kernel_rfl) rfl)
        (gives_stops 4 (wr.heap.size + 1) (wr.heap.size + 1 + 1) W3.heap.size B (W.heap.size + 1 + 1) w h aL aS cL cS L S k hBay (by have := hlen.out; omega) W3 (Nat.le_refl _) (by omega) (by omega) (by omega) (by omega) (by omega) (by omega) (by omega) e0 e1 e2 e3 e4 (hm.below (hI1.below.mono hB)) (hd.below (hI1.below.mono hB) hB1))
        Bx.trans (bx_put (Nat.le_refl _)) (Below.refl _ _) (fun _ => rfl)
        (fun pre X => AccP W #[.int .i64 w, .int .i64 h, .slice aL L.length cL, .slice aS (w * h) cS] (.slice A a.length c) a.length (fP w h L S a k (gd a (pre.map (·.1)))) Ds X ∧ Boxed X wr.heap.size 3 (.int .i64 (k : Nat)))
        (fun _ _ _ => False)
        (OwnFrom.and (AccP.own (fun (pre : List (Pr (w * h))) j => fP w h L S a k (gd a (pre.map (·.1))) j) (by omega) hDs) (Own.from (boxed_own wr.heap.size 3 (fun (_ : List (Pr (w * h))) => Value.int .i64 (k : Nat))) _))
        (fun _ _ _ _ _ hs _ _ => hs)
        ⟨hI1.congr (fun j _ => by simp [gd]), hA1⟩
        (fun y => { tmps := #[.agg #[.int .i64 w, .int .i64 h, .slice aL L.length cL, .slice aS (w * h) cS], .slice A a.length c, .pointer (some ⟨W.heap.size, 0, none⟩), .pointer (some ⟨W.heap.size + 1, 0, none⟩), .slice none 0 0, .pointer (some ⟨W.heap.size + 1 + 1 + 1, 0, none⟩), .pointer (some ⟨wr.heap.size, 0, none⟩), .int .i64 (y.1.1 : Nat), .int .i64 y.1.2, .slice A a.length c, .int .i64 (a.length : Nat), .slice (some ⟨W.heap.size + 1 + 1, 0, none⟩) a.length a.length, .slice A a.length c, .int .i64 (a.length : Nat), .int .i64 (k : Nat), .bool true, .int .i64 (k : Nat), .agg #[.int .i64 w, .int .i64 h, .slice aL L.length cL, .slice aS (w * h) cS], .int .i64 (k : Nat), .func (.func 98) #[] #[.pointer (some ⟨wr.heap.size + 1, 0, none⟩), .pointer (some ⟨wr.heap.size + 1 + 1, 0, none⟩)], .int .i64 (y.1.1 : Nat), .int .i64 y.1.2, undef, undef, undef, undef, undef, undef, undef, undef, undef, undef, undef, undef, u34, undef], defers := [] })
        ?assign ?body ?done ?stop (fun X => Bx.refl _ _ X)
      case assign =>
        intro l y X K hK
        gi_wp2
        exact hK
      case body =>
        rintro l pre y X ⟨hX, hXb⟩ hpl
        obtain ⟨⟨tq, sx⟩, y1, y2, y3⟩ := y
        dsimp only at y1 y2 y3
        have hto : tq < a.length := by have := hlen.out; omega
        have htoI : (tq : Int) < (a.length : Nat) := by omega
        obtain ⟨b, o, rfl, hb, hc⟩ := (ha.below (hX.below.mono hB)).at_ tq hto
        have hXd := hX.drewN 1
        have cv := hX.row.cell hlt
        have fv := hX.row.frozen k
        have cl := hX.lat.cell
        have cs := hX.src.cell
        have cx := hXb.cell
        have hnb : b ≠ W.heap.size + 1 + 1 := by omega
        have e5 : fP w h L S a k (gd a (pre.map (·.1))) k = gd a (pre.map (·.1)) := by unfold fP; rw [if_neg (by omega), if_pos rfl]
        rw [e5] at cv
        have b2 := gd_bound a (w * h) hnn (pre.map (·.1)) (fun x hx => by obtain ⟨z, _, rfl⟩ := List.mem_map.1 hx; exact z.2)
        rw [List.length_map] at b2
        have b5 := mul16 (x := sx) ⟨y2, y3⟩ (hnn tq y1)
        rw [Int.mul_comm] at b5
        have hgd : gd a ((pre ++ [(⟨(tq, sx), y1, y2, y3⟩ : Pr (w * h))]).map (·.1)) = gd a (pre.map (·.1)) + el a tq * sx := by rw [List.map_append]; exact gd_snoc _ _ _
        have hnext : ∀ X' : World, AccP W #[.int .i64 w, .int .i64 h, .slice aL L.length cL, .slice aS (w * h) cS] (.slice (some ⟨b, o, none⟩) a.length c) a.length (fP w h L S a k (gd a (pre.map (·.1)))) Ds X' →
            AccP W #[.int .i64 w, .int .i64 h, .slice aL L.length cL, .slice aS (w * h) cS] (.slice (some ⟨b, o, none⟩) a.length c) a.length (fP w h L S a k (gd a ((pre ++ [(⟨(tq, sx), y1, y2, y3⟩ : Pr (w * h))]).map (·.1)))) Ds (X'.setCell ⟨W.heap.size + 1 + 1, k, none⟩ (.int .i64 (gd a (pre.map (·.1)) + el a tq * sx))) := fun X' h' => (h'.set k _).congr (fun j _ => by rw [hgd]; exact fP_set w h L S a k _ _ j)
        have hboxed : ∀ (v : Value), Boxed (X.drew.setCell ⟨W.heap.size + 1 + 1, k, none⟩ v) wr.heap.size 3 (.int .i64 (k : Nat)) := fun v => (setCell_block _ _ _ _ _ (by omega)).trans hXb
        have hkeep : ∀ (v : Value), KeepsFrom W3.heap.size X (X.drew.setCell ⟨W.heap.size + 1 + 1, k, none⟩ v) := fun v => (KeepsOthers.drew X |>.from _).trans (set_keeps (by omega))
        have hbx : ∀ (v : Value), Bx W3.heap.size (W.heap.size + 1 + 1) X (X.drew.setCell ⟨W.heap.size + 1 + 1, k, none⟩ v) := fun v => (bx_drewN (Bx.refl _ _ X) 1).trans (set_bx _ _ _)
        have hnx := hnext X.drew hXd
        have hpost : ∀ a', ownPostG W3.heap.size (Bx W3.heap.size (W.heap.size + 1 + 1)) (fun (pre : List (Pr (w * h))) X => AccP W #[.int .i64 w, .int .i64 h, .slice aL L.length cL, .slice aS (w * h) cS] (.slice (some ⟨b, o, none⟩) a.length c) a.length (fP w h L S a k (gd a (pre.map (·.1)))) Ds X ∧ Boxed X wr.heap.size 3 (.int .i64 (k : Nat))) (fun _ _ _ => False) (pre ++ [⟨(tq, sx), y1, y2, y3⟩]) X .normal a'
            (X.drew.setCell ⟨W.heap.size + 1 + 1, k, none⟩ (.int .i64 (gd a (pre.map (·.1)) + el a tq * sx))) := fun a' => ⟨hkeep _, hbx _, hnx, hboxed _⟩
        have hlp : (pre.length : Int) ≤ 4 := by omega
        generalize hv0 : gd a (pre.map (·.1)) = v0 at *
        have hv0b : 0 ≤ v0 ∧ v0 ≤ 80000000000000 := by omega
        clear hnext hgd hnx hboxed hkeep hbx hv0 b2 hX hXb
        revert hpost
        generalize ownPostG _ _ _ _ _ _ = Q
        intro hpost
        replace hpost := Lib.hid hpost
        dsimp only
        generalize Value.agg #[.int .i64 w, .int .i64 h, .slice aL L.length cL, .slice aS (w * h) cS] = vb
        generalize Value.func (.func 98) #[] _ = vf
        clear hBay hm ha hB hB1 hd hnn hc36 hlen hk hI hI1 hA1 e0 e1 e2 e3 e4 hDs hpl q0 e5 hXd
        generalize hx0 : el a tq = x0 at *
        generalize hn0 : a.length = n0 at *
        have hm0 : IntKind.i64.wrap (x0 * sx) = x0 * sx := IntWalk.i64_in _ (by omega)
        generalize hmq : x0 * sx = m0 at *
        have hs0 : IntKind.i64.wrap (v0 + m0) = v0 + m0 := IntWalk.i64_in _ (by omega)
        gi_wp2
        obtain ⟨Q0, hQ0⟩ : ∃ Q0 : Exit → Act → World → Prop, Q0 = fun e a w => e = .normal ∧ Q e a w := ⟨_, rfl⟩
        have hno : ¬ LetsOut Q0 := fun ⟨a, w, h⟩ => by rw [hQ0] at h; cases h.1
        have hfin : ∀ a', Q0 .normal a' (X.drew.setCell ⟨W.heap.size + 1 + 1, k, none⟩ (.int .i64 (v0 + m0))) := fun a' => by rw [hQ0]; exact ⟨rfl, hpost.out a'⟩
        replace hfin := Lib.hid hfin
        refine wpIn_region_tail 12 hmx (by kernel_rfl) (by kernel_rfl) hno (fun e a w h => by rw [hQ0] at h; obtain ⟨rfl, h2⟩ := h; exact h2) ?_
        clear hno hQ0 hpost hmx
        simp only [List.take_succ_cons, List.take_zero, List.drop_succ_cons, List.drop_zero]
        repeat still_step
        try refine wpStill_nil ?_
        change wpList _ _ _ _ _ X.drew
        go_wp2
        try go_bits
        exact hfin.out _
      case done =>
        rintro D ys X hD hS ⟨hX, hXb⟩ hK
        have hDn : D ∉ Ds := fun h => by have := hDs D h; omega
        have hgg : gd a (ys.map (·.1)) = prF w h L S a k := by
          rw [gd_sum a (w * h) _ (fun x hx => by obtain ⟨z, _, rfl⟩ := List.mem_map.1 hx; exact z.2.1)]
          unfold prF
          exact sm_congr _ (fun j _ => by rw [hS, gs_gv hBay k j (by have := hlen.out; omega)])
        have hI2 : AccP W #[.int .i64 w, .int .i64 h, .slice aL L.length cL, .slice aS (w * h) cS] (.slice A a.length c) a.length (fP w h L S a (k + 1) 0) (D :: Ds) X := by
          have := hX.congr (g := fP w h L S a (k + 1) 0) (fun j hj => by rw [hgg]; exact fP_succ w h L S a k j)
          refine ⟨this.below, this.size, this.box, this.src, this.lat, this.row, ⟨fun D' hD' => ?_, List.nodup_cons.2 ⟨hDn, this.marks.apart⟩⟩⟩
          rcases List.mem_cons.1 hD' with rfl | h
          · exact ⟨by omega, hK⟩
          · exact this.marks.lies D' h
        replace hI2 := Lib.hid hI2
        clear hX hXb hI1 hI
        gi_wp2
        refine ⟨⟨k + 1, D :: Ds, _, _, _, _, _, _, _, by omega, by go_num, hI2.out⟩, ?_⟩
        simp [intOf]; omega
      case stop =>
        rintro D c pre X _ _ h _
        exact h.elim
    · have hk' : k = a.length := by omega
      subst hk'
      have cl := hI.lat.cell
      have hend : ∀ W', Below (W.heap.size + 4) wr W' → NewCap W (pr w h L S a) (.returned (.slice (some ⟨W.heap.size + 1 + 1, 0, none⟩) a.length a.length)) W' := fun W' hW' => by
        refine ⟨some ⟨W.heap.size + 1 + 1, 0, none⟩, a.length, by rw [pr_len, hlen.out], by rw [pr_len]; have := hlen.out; omega, hI.below.trans (hW'.mono (by omega)), ?_⟩
        have hr := hI.row.of_block (hW'.block (W.heap.size + 1 + 1) (by omega))
        refine ⟨by rw [pr_len]; omega, fun _ => ⟨W.heap.size + 1 + 1, 0, rfl, hr.lt, fun i hi => ?_⟩⟩
        rw [pr_len] at hi
        have hi2 : i < a.length := by have := hlen.out; omega
        rw [Nat.zero_add, hr.cell hi2, pr_el (by omega)]
        show some (Value.int .i64 (fP w h L S a a.length 0 i)) = _
        unfold fP
        rw [if_pos hi2]
      gi_wp2
      refine leave_marks Ds wr hI.size hI.marks fun W' hW' => ?_
      refine ⟨_, results_tmp rfl _ _ _, ?_⟩
      exact hend W' hW'
end Go.Proofs.YtnbgjgiknfcdkaaDoor
