/-
  'Mirror' of the specification.
-/
import Derived.Test.YtnbgjgiknfcdkaaDoorZd
import Derived.Test.YtnbgjgiknfcdkaaDoorZe
import Derived.Test.YtnbgjgiknfcdkaaDoorZb
import Derived.Deep.AppendLies
import Derived.Deep.RegionLaw
namespace Go.Proofs.YtnbgjgiknfcdkaaDoor
open Go.RowKit Go.Deep M
set_option linter.unusedVariables false
set_option linter.unusedSimpArgs false

theorem own_keep {w w' : World} {base : Nat} {e : TypeId} {size : Nat} {v : Value} {n : Nat} {xs : List Value} (h : w.ownsRow base e size v n xs) (hb : ∀ g, v.ownBlock = some g → w'.heap[g]? = w.heap[g]?) : w'.ownsRow base e size v n xs := by
  obtain ⟨h1, h2 | ⟨g, cap, cur, hv, hge, hh, h3⟩⟩ := h
  · exact ⟨h1, .inl h2⟩
  · exact ⟨h1, .inr ⟨g, cap, cur, hv, hge, (hb g (by rw [hv]; rfl)).trans hh, h3⟩⟩
theorem own_at {w : World} {base : Nat} {e : TypeId} {size : Nat} {v : Value} {n : Nat} {xs : List Value} (h : w.ownsRow base e size v n xs) (hn : 0 < n) :
    ∃ g cap, v = .slice (some ⟨g, 0, none⟩) n cap ∧ base ≤ g ∧ g < w.heap.size ∧ ∀ i, i < n * size → w.cell? ⟨g, i, none⟩ = xs[i]? := by
  obtain ⟨h1, h2 | ⟨g, cap, cur, hv, hge, hh, hcap, hmax, hsz, htake⟩⟩ := h
  · omega
  · refine ⟨g, cap, hv, hge, blk_lt hh, fun i hi => ?_⟩
    have h1 : (cur.toList.take (n * size))[i]? = xs[i]? := by rw [htake]
    rw [List.getElem?_take, if_pos hi, Array.getElem?_toList] at h1
    rw [← h1]
    simp [World.cell?, hh]

/-- What has been appended. -/
def vB (w k : Nat) (L : List Bool) : List Value := (mL w k L).map Value.bool
def vS (w k : Nat) (S : List Int) : List Value := (mS w k S).map (Value.int .i64)
theorem vB_len (w k : Nat) (L : List Bool) : (vB w k L).length = k := by simp [vB, mL_len]
theorem vS_len (w k : Nat) (S : List Int) : (vS w k S).length = k * 5 := by simp [vS, mS_len]
theorem vB_snoc (w k : Nat) (L : List Bool) : vB w (k + 1) L = vB w k L ++ [.bool (bl L (mi w k))] := by simp [vB, mL, mkB, List.range_succ]
theorem vS_snoc (w k : Nat) (S : List Int) : vS w (k + 1) S = vS w k S ++ [.int .i64 (sh S (mi w k) 0), .int .i64 (sh S (mi w k) 1), .int .i64 (sh S (mi w k) 4), .int .i64 (sh S (mi w k) 3), .int .i64 (sh S (mi w k) 2)] := by
  have e : (k + 1) * 5 = k * 5 + 1 + 1 + 1 + 1 + 1 := by omega
  unfold vS mS mk
  rw [e, List.range_succ, List.range_succ, List.range_succ, List.range_succ, List.range_succ]
  simp only [List.map_append, List.map_cons, List.map_nil, List.append_assoc, List.cons_append, List.nil_append]
  congr 1
  have g : ∀ i, i < 5 → (k * 5 + i) / 5 = k ∧ (k * 5 + i) % 5 = i := fun i hi => by omega
  have g0 := g 0 (by omega)
  rw [Nat.add_zero] at g0
  simp only [Nat.add_assoc, Nat.reduceAdd, g0.1, g0.2, (g 1 (by omega)).1, (g 1 (by omega)).2, (g 2 (by omega)).1, (g 2 (by omega)).2, (g 3 (by omega)).1, (g 3 (by omega)).2, (g 4 (by omega)).1, (g 4 (by omega)).2]
  rfl

/-- The world under way. -/
structure RMW (w : World) (W H l s : Value) (wn : Nat) (L : List Bool) (S : List Int) (bo kl ks : Nat) (vl vs : Value) (X : World) : Prop where
  below : Below w.heap.size w X
  bay : Quad X w.heap.size W H l s
  res : Quad X (w.heap.size + 1) (.int .i64 0) (.int .i64 0) (.slice none 0 0) (.slice none 0 0)
  out : Quad X bo W H vl vs
  ownL : X.ownsRow (w.heap.size + 2) 4 1 vl kl (vB wn kl L)
  ownS : X.ownsRow (w.heap.size + 2) 74 5 vs ks (vS wn ks S)
  lies : w.heap.size + 2 ≤ bo
  farL : vl.ownBlock ≠ some bo
  farS : vs.ownBlock ≠ some bo
  apart : ∀ g, vl.ownBlock = some g → vs.ownBlock ≠ some g
theorem RMW.call {w : World} {W H l s : Value} {wn : Nat} {L : List Bool} {S : List Int} {bo kl ks : Nat} {vl vs : Value} {X Y : World} (h : RMW w W H l s wn L S bo kl ks vl vs X) (hb : Below X.heap.size X Y) : RMW w W H l s wn L S bo kl ks vl vs Y :=
  ⟨h.below.trans (hb.mono h.below.size), h.bay.up hb, h.res.up hb, h.out.up hb, own_keep h.ownL fun g hg => hb.block g (h.ownL.lt g hg).2, own_keep h.ownS fun g hg => hb.block g (h.ownS.lt g hg).2, h.lies, h.farL, h.farS, h.apart⟩
theorem RMW.stepL {w : World} {W H l s : Value} {wn : Nat} {L : List Bool} {S : List Int} {bo kl ks : Nat} {vl vs : Value} {X w1 : World} {g cap : Nat} (h : RMW w W H l s wn L S bo kl ks vl vs X)
    (ho : w1.ownsRow (w.heap.size + 2) 4 1 (.slice (some ⟨g, 0, none⟩) (kl + 1) cap) (kl + 1) (vB wn (kl + 1) L)) (hg : X.grownBy w1 vl.ownBlock) (hat : vl.ownBlock = some g ∨ g = X.heap.size) :
    RMW w W H l s wn L S bo (kl + 1) ks (.slice (some ⟨g, 0, none⟩) (kl + 1) cap) vs (w1.setCell ⟨bo, 2, none⟩ (.slice (some ⟨g, 0, none⟩) (kl + 1) cap)) := by
  have hlo : ∀ x, vl.ownBlock = some x → w.heap.size + 2 ≤ x := fun x hx => (h.ownL.lt x hx).1
  have hbo := h.out.lt
  have hgo : g ≠ bo := by
    rcases hat with e | e
    · intro e2; exact h.farL (by rw [e, e2])
    · omega
  have hs := h.lies
  have hk : ∀ d, d < X.heap.size → vl.ownBlock ≠ some d → d ≠ bo → (w1.setCell ⟨bo, 2, none⟩ (.slice (some ⟨g, 0, none⟩) (kl + 1) cap)).heap[d]? = X.heap[d]? := fun d h1 h2 h3 =>
    (setCell_block _ _ _ _ _ h3).trans (hg.block d h1 (fun e => h2 e.symm))
  have q : Quad w1 bo W H vl vs := quad_grown h.out hg (fun x hx e => h.farL (by rw [hx, e]))
  refine ⟨(h.below.grown hg h.below.size (fun x hx => by have := hlo x hx; omega)).setCell (p := ⟨bo, 2, none⟩) (by show w.heap.size ≤ bo; omega) _, ?_, ?_, ?_, ?_, ?_, hs, ?_, h.farS, ?_⟩
  · exact (hk _ h.bay.lt (fun e => by have := hlo _ e; omega) (by omega)).trans h.bay
  · exact (hk _ h.res.lt (fun e => by have := hlo _ e; omega) (by omega)).trans h.res
  · unfold Quad at *
    simp [World.setCell, Array.getElem?_modify, q]
  · exact own_keep ho fun x hx => setCell_block _ _ _ _ _ (by cases hx; exact hgo)
  · refine own_keep h.ownS fun x hx => hk x (h.ownS.lt x hx).2 (fun e => h.apart x e hx) (fun e => h.farS (by rw [hx, e]))
  · intro e; injection e with e; exact hgo e
  · intro x hx e
    injection hx with hx
    have hx : g = x := hx
    rcases hat with e2 | e2
    · exact h.apart g e2 (by rw [hx]; exact e)
    · have := (h.ownS.lt x e).2; omega
theorem RMW.stepS {w : World} {W H l s : Value} {wn : Nat} {L : List Bool} {S : List Int} {bo kl ks : Nat} {vl vs : Value} {X w1 : World} {g cap : Nat} (h : RMW w W H l s wn L S bo kl ks vl vs X)
    (ho : w1.ownsRow (w.heap.size + 2) 74 5 (.slice (some ⟨g, 0, none⟩) (ks + 1) cap) (ks + 1) (vS wn (ks + 1) S)) (hg : X.grownBy w1 vs.ownBlock) (hat : vs.ownBlock = some g ∨ g = X.heap.size) :
    RMW w W H l s wn L S bo kl (ks + 1) vl (.slice (some ⟨g, 0, none⟩) (ks + 1) cap) (w1.setCell ⟨bo, 3, none⟩ (.slice (some ⟨g, 0, none⟩) (ks + 1) cap)) := by
  have hlo : ∀ x, vs.ownBlock = some x → w.heap.size + 2 ≤ x := fun x hx => (h.ownS.lt x hx).1
  have hbo := h.out.lt
  have hgo : g ≠ bo := by
    rcases hat with e | e
    · intro e2; exact h.farS (by rw [e, e2])
    · omega
  have hs := h.lies
  have hk : ∀ d, d < X.heap.size → vs.ownBlock ≠ some d → d ≠ bo → (w1.setCell ⟨bo, 3, none⟩ (.slice (some ⟨g, 0, none⟩) (ks + 1) cap)).heap[d]? = X.heap[d]? := fun d h1 h2 h3 =>
    (setCell_block _ _ _ _ _ h3).trans (hg.block d h1 (fun e => h2 e.symm))
  have q : Quad w1 bo W H vl vs := quad_grown h.out hg (fun x hx e => h.farS (by rw [hx, e]))
  refine ⟨(h.below.grown hg h.below.size (fun x hx => by have := hlo x hx; omega)).setCell (p := ⟨bo, 3, none⟩) (by show w.heap.size ≤ bo; omega) _, ?_, ?_, ?_, ?_, ?_, hs, h.farL, ?_, ?_⟩
  · exact (hk _ h.bay.lt (fun e => by have := hlo _ e; omega) (by omega)).trans h.bay
  · exact (hk _ h.res.lt (fun e => by have := hlo _ e; omega) (by omega)).trans h.res
  · unfold Quad at *
    simp [World.setCell, Array.getElem?_modify, q]
  · refine own_keep h.ownL fun x hx => hk x (h.ownL.lt x hx).2 (fun e => h.apart x hx e) (fun e => h.farL (by rw [hx, e]))
  · exact own_keep ho fun x hx => setCell_block _ _ _ _ _ (by cases hx; exact hgo)
  · intro e; injection e with e; exact hgo e
  · intro x hx e
    injection e with e
    have e : g = x := e
    rcases hat with e2 | e2
    · exact h.apart x hx (by rw [e2, e])
    · have := (h.ownL.lt x hx).2; omega
theorem RMW.bayIn {w : World} {W H l s : Value} {wn : Nat} {L : List Bool} {S : List Int} {bo n : Nat} {vl vs : Value} {X : World} (h : RMW w W H l s wn L S bo n n vl vs X) (hn : 0 < n) (h63 : n ≤ 36) :
    ∃ g g' c c', vl = .slice (some ⟨g, 0, none⟩) n c ∧ vs = .slice (some ⟨g', 0, none⟩) n c' ∧ BayIn X X.heap.size (some ⟨g, 0, none⟩) (mL wn n L) (some ⟨g', 0, none⟩) n (mS wn n S) ∧ w.heap.size + 2 ≤ g ∧ w.heap.size + 2 ≤ g' := by
  obtain ⟨g, c, e1, h1, h2, h3⟩ := own_at h.ownL hn
  obtain ⟨g', c', e1', h1', h2', h3'⟩ := own_at h.ownS hn
  refine ⟨g, g', c, c', e1, e1', ⟨⟨by rw [mL_len]; omega, fun _ => ⟨g, 0, rfl, h2, fun i hi => ?_⟩⟩, ⟨by omega, mS_len _ _ _, fun _ => ⟨g', 0, rfl, h2', fun i k hi hk => ?_⟩⟩⟩, h1, h1'⟩
  · rw [mL_len] at hi
    rw [Nat.zero_add, h3 i (by omega)]
    unfold vB
    rw [List.getElem?_map, List.getElem?_eq_getElem (by rw [mL_len]; exact hi), ← bl_eq]
    rfl
  · rw [Nat.zero_add, h3' _ (by omega)]
    unfold vS
    rw [List.getElem?_map, List.getElem?_eq_getElem (by rw [mS_len]; omega), ← el_eq]
    rfl
/-- Five numbers in a box. -/
def Five (w : World) (b : Nat) (x0 x1 x2 x3 x4 : Int) : Prop := w.heap[b]? = some (.cells #[.int .i64 x0, .int .i64 x1, .int .i64 x2, .int .i64 x3, .int .i64 x4] 74 (0, 0))
theorem Five.new (w : World) (x0 x1 x2 x3 x4 : Int) : Five (w.alloc (.cells #[.int .i64 x0, .int .i64 x1, .int .i64 x2, .int .i64 x3, .int .i64 x4] 74)) w.heap.size x0 x1 x2 x3 x4 := World.alloc_heap_new w _
theorem Five.lt {w : World} {b : Nat} {x0 x1 x2 x3 x4 : Int} (h : Five w b x0 x1 x2 x3 x4) : b < w.heap.size := blk_lt h
theorem Five.cells {w : World} {b : Nat} {x0 x1 x2 x3 x4 : Int} (h : Five w b x0 x1 x2 x3 x4) : w.cell? ⟨b, 0, none⟩ = some (.int .i64 x0) ∧ w.cell? ⟨b, 1, none⟩ = some (.int .i64 x1) ∧ w.cell? ⟨b, 2, none⟩ = some (.int .i64 x2) ∧ w.cell? ⟨b, 3, none⟩ = some (.int .i64 x3) ∧ w.cell? ⟨b, 4, none⟩ = some (.int .i64 x4) := by
  have h' : w.heap[b]? = _ := h
  exact ⟨by simp [World.cell?, h'], by simp [World.cell?, h'], by simp [World.cell?, h'], by simp [World.cell?, h'], by simp [World.cell?, h']⟩

set_option maxRecDepth 100000 in
set_option maxHeartbeats 4000000 in
theorem MirrorRef_bad (B : Nat) (W H : Int) (aL aS : Option Addr) (cL cS : Nat) (L : List Bool) (n : Nat) (S : List Int) (w : World) (h : BayIn w B aL L aS n S) (hB : B ≤ w.heap.size) (hv : validB W H L n S = false) :
    Calls Tryd.prog 49 #[.agg #[.int .i64 W, .int .i64 H, .slice aL L.length cL, .slice aS n cS]] w fun e w' => e = .returned (.tuple #[.agg #[.int .i64 0, .int .i64 0, .slice none 0 0, .slice none 0 0], .int .i64 20]) ∧ Below w.heap.size w w' := by
  have hst := miW_start w (.int .i64 W) (.int .i64 H) (.slice aL L.length cL) (.slice aS n cS)
  have c21 := Valid_ref B W H aL aS cL cS L n S _ (h.below (hst.below.mono hB)) (Nat.le_trans hB hst.below.size)
  rw [hv] at c21
  replace c21 := Lib.hid c21
  replace hst := Lib.hid hst
  go_enter Tryd.func49, Tryd.ntmps49
  go_wp2_with fail
  refine c21.out.mono ?_
  rintro e w1 ⟨rfl, hb1⟩
  have hw1 := hst.out.call hb1
  have t := hw1.res
  have j0 := t.c0
  have j1 := t.c1
  have j2 := t.c2
  have j3 := t.c3
  have f0 := t.fz 0
  have f1 := t.fz 1
  have f2 := t.fz 2
  have f3 := t.fz 3
  have ts := t.set (.int .i64 0) (.int .i64 0) (.slice none 0 0) (.slice none 0 0)
  have j4 := ts.c0
  have j5 := ts.c1
  have j6 := ts.c2
  have j7 := ts.c3
  have hbs := quad_set_below (x := .int .i64 0) (y := .int .i64 0) (z := .slice none 0 0) (u := .slice none 0 0) hw1.below (show w.heap.size ≤ w.heap.size + 1 by omega)
  clear hb1 hw1
  go_wp2
  exact bodyPost_ret (v := .tuple #[.agg #[.int .i64 0, .int .i64 0, .slice none 0 0, .slice none 0 0], .int .i64 20]) (by simp [results, Tryd.results49, go_sem, j4, j5, j6, j7]) rfl ⟨rfl, hbs⟩

set_option maxRecDepth 100000 in
set_option maxHeartbeats 8000000 in
theorem MirrorRef_ok (B : Nat) (wn hn : Nat) (aL aS : Option Addr) (cL cS : Nat) (L : List Bool) (S : List Int) (w : World) (h : BayIn w B aL L aS (wn * hn) S) (hB : B ≤ w.heap.size) (hv : validB wn hn L (wn * hn) S = true) (hBay : Bay wn hn L S) :
    Calls Tryd.prog 49 #[.agg #[.int .i64 (wn : Nat), .int .i64 (hn : Nat), .slice aL L.length cL, .slice aS (wn * hn) cS]] w (MirRes w wn hn L S) := by
  obtain ⟨i4, ji, jz0, jz1, jz2⟩ := info_parts info4
  obtain ⟨i7, ki, kz0, kz1, kz2⟩ := info_parts info74
  replace ji := Lib.hid ji
  replace jz0 := Lib.hid jz0
  replace jz1 := Lib.hid jz1
  replace jz2 := Lib.hid jz2
  replace ki := Lib.hid ki
  replace kz0 := Lib.hid kz0
  replace kz1 := Lib.hid kz1
  replace kz2 := Lib.hid kz2
  have hst := miW_start w (.int .i64 (wn : Nat)) (.int .i64 (hn : Nat)) (.slice aL L.length cL) (.slice aS (wn * hn) cS)
  have c21 := Valid_ref B wn hn aL aS cL cS L (wn * hn) S _ (h.below (hst.below.mono hB)) (Nat.le_trans hB hst.below.size)
  rw [hv] at c21
  have h36 := hBay.cells
  have hLN := hBay.2.1.1
  have hw6 := hBay.1.1
  have hmi : ∀ k, k < wn * hn → mi wn k < wn * hn := fun k hk => mi_lt hw6.1 hk
  unfold MirRes
  rw [hLN] at c21 hst ⊢
  generalize hn0 : wn * hn = n at *
  replace c21 := Lib.hid c21
  replace hst := Lib.hid hst
  replace hn0 := Lib.hid hn0
  replace hmi := Lib.hid hmi
  have hlen := hLN
  replace hLN := Lib.hid hLN
  go_enter Tryd.func49, Tryd.ntmps49
  clear hlen
  go_wp2_with fail
  refine c21.out.mono ?_
  rintro e w1 ⟨rfl, hb1⟩
  have hw1 := hst.out.call hb1
  have q0 := hw1.bay.c0
  have q1 := hw1.bay.c1
  have hstart : RMW w (.int .i64 (wn : Nat)) (.int .i64 (hn : Nat)) (.slice aL n cL) (.slice aS n cS) wn L S w1.heap.size 0 0 (.slice none 0 0) (.slice none 0 0) (w1.alloc (.cells #[.int .i64 (wn : Nat), .int .i64 (hn : Nat), .slice none 0 0, .slice none 0 0] 25)) := by
    have z := hw1.res.lt
    exact ⟨hw1.below.alloc hw1.below.size _, hw1.bay.up (ba1 _ _), hw1.res.up (ba1 _ _), Quad.new _ _ _ _ _, World.ownsRow_nil _ _ _ _, World.ownsRow_nil _ _ _ _, by omega, (by intro e; cases e), (by intro e; cases e), (by intro g e; cases e)⟩
  clear hb1 hw1
  replace hstart := Lib.hid hstart
  go_wp2
  go_loopw [5] (fun i X => ∃ (k : Nat) (vl vs : Value), k ≤ n ∧ i = .int .i64 k ∧ RMW w (.int .i64 (wn : Nat)) (.int .i64 (hn : Nat)) (.slice aL n cL) (.slice aS n cS) wn L S w1.heap.size k k vl vs X) (fun i _ => n - (intOf i).toNat)
  case atStart => exact ⟨0, _, _, Nat.zero_le _, rfl, hstart.out⟩
  case round =>
    clear hstart q0 q1
    obtain ⟨k, vl, vs, hk, rfl, hX⟩ := hrel
    have p0 := hX.bay.c0
    have p1 := hX.bay.c1
    have p2 := hX.bay.c2
    have p3 := hX.bay.c3
    by_cases hlt : k < n
    · have hq : mi wn k < n := hmi.out k hlt
      have hkI : (k : Int) < (n : Nat) := by omega
      obtain ⟨m, hm⟩ : ∃ m, m = k % wn := ⟨_, rfl⟩
      have hm1 : m < wn := by rw [hm]; exact Nat.mod_lt _ (by omega)
      have hm2 : m ≤ k := by rw [hm]; exact Nat.mod_le _ _
      have hmt : (k : Int).tmod (wn : Nat) = (m : Nat) := by rw [hm, Int.tmod_eq_emod_of_nonneg (by omega), Int.natCast_emod]
      have hmk : k - m + wn - 1 - m = mi wn k := by
        have e := Nat.div_add_mod k wn
        unfold mi
        rw [Nat.mul_comm] at e
        rw [hm] at hm1 ⊢
        generalize k / wn * wn = q at *
        omega
      obtain ⟨r1, hr1⟩ : ∃ r : Nat, r = k - m := ⟨_, rfl⟩
      obtain ⟨r2, hr2⟩ : ∃ r : Nat, r = r1 + wn := ⟨_, rfl⟩
      obtain ⟨r3, hr3⟩ : ∃ r : Nat, r = r2 - 1 := ⟨_, rfl⟩
      have e1 : IntKind.i64.wrap ((k : Int) - (m : Nat)) = (r1 : Nat) := by rw [IntWalk.i64_in _ (by omega)]; omega
      have e2 : IntKind.i64.wrap ((r1 : Int) + (wn : Nat)) = (r2 : Nat) := by rw [IntWalk.i64_in _ (by omega)]; omega
      have e3 : IntKind.i64.wrap ((r2 : Int) - 1) = (r3 : Nat) := by rw [IntWalk.i64_in _ (by omega)]; omega
      have e4 : IntKind.i64.wrap ((r3 : Int) - (m : Nat)) = (mi wn k : Nat) := by rw [IntWalk.i64_in _ (by omega)]; omega
      have hsB := vB_snoc wn k L
      have hsS := vS_snoc wn k S
      generalize hmi0 : mi wn k = q at *
      have hqI : (q : Int) < (n : Nat) := by omega
      have hwn0 : ¬ wn = 0 := by omega
      have hwn1 : (1 : Int) ≤ (wn : Nat) := by omega
      replace hsS := Lib.hid hsS
      replace hm := Lib.hid hm
      replace hmk := Lib.hid hmk
      replace hr1 := Lib.hid hr1
      replace hr2 := Lib.hid hr2
      replace hr3 := Lib.hid hr3
      replace hmi0 := Lib.hid hmi0
      have hz := hX.below.size
      have hX1 := fun N => (hX.call (below_drewN (Below.refl _ _) N))
      replace hX := Lib.hid hX
      replace hX1 := Lib.hid hX1
      go_wp2
      go_quiet (fail)
      obtain ⟨N1, rfl⟩ : ∃ N1, N1 = nq := ⟨_, rfl⟩
      have hY := hX1.out N1
      clear p0 p1 p2 p3 hX hX1
      generalize wr.drewN N1 = Y at hY ⊢
      have p2 := hY.bay.c2
      have p3 := hY.bay.c3
      obtain ⟨b, o, rfl, hb, hc⟩ := (h.land.below (hY.below.mono hB)).at_ q (by rw [hLN.out]; exact hq)
      obtain ⟨b', o', rfl, hb', s0, s1, s2, s3, s4⟩ := (h.share.below (hY.below.mono hB)).at_ q hq
      have hbz : w.heap.size < Y.heap.size := hY.bay.lt
      have hb0 : b < Y.heap.size := by omega
      have hb2 : b' < Y.heap.size := by omega
      have hvl : ∀ x, vl.ownBlock = some x → x < Y.heap.size := fun x hx => (hY.ownL.lt x hx).2
      have hvs : ∀ x, vs.ownBlock = some x → x < Y.heap.size := fun x hx => (hY.ownS.lt x hx).2
      have hbo : w1.heap.size < Y.heap.size := hY.out.lt
      replace hvl := Lib.hid hvl
      replace hvs := Lib.hid hvs
      have hZ := hY.call (ba1 Y (.cells #[.int .i64 (sh S q 0), .int .i64 (sh S q 1), .int .i64 (sh S q 2), .int .i64 (sh S q 3), .int .i64 (sh S q 4)] 74))
      have t7 := Five.new Y (sh S q 0) (sh S q 1) (sh S q 2) (sh S q 3) (sh S q 4)
      have hc2 : (Y.alloc (.cells #[.int .i64 (sh S q 0), .int .i64 (sh S q 1), .int .i64 (sh S q 2), .int .i64 (sh S q 3), .int .i64 (sh S q 4)] 74)).cell? ⟨b, o + q, none⟩ = some (.bool (bl L q)) := ((ba1 Y _).cell (p := ⟨b, o + q, none⟩) hb0).trans hc
      replace hY := Lib.hid hY
      replace hZ := Lib.hid hZ
      replace t7 := Lib.hid t7
      replace hc2 := Lib.hid hc2
      go_wp2
      have hZ' := hZ.out
      have t7' := t7.out
      have hc2' := hc2.out
      have hbt : Y.heap.size < (Y.alloc (.cells #[.int .i64 (sh S q 0), .int .i64 (sh S q 1), .int .i64 (sh S q 2), .int .i64 (sh S q 3), .int .i64 (sh S q 4)] 74)).heap.size := by simp
      clear hY hZ t7 hc2 p2 p3 hc s0 s1 s2 s3 s4 hb0 hb2 hbz
      generalize Y.alloc (.cells #[.int .i64 (sh S q 0), .int .i64 (sh S q 1), .int .i64 (sh S q 2), .int .i64 (sh S q 3), .int .i64 (sh S q 4)] 74) = Z at hZ' t7' hc2' hbt ⊢
      generalize Y.heap.size = bt at t7' hbt hvl hvs hbo ⊢
      have hZs : w.heap.size + 2 ≤ Z.heap.size := hZ'.res.lt
      have p2 := hZ'.bay.c2
      have o2 := hZ'.out.c2
      generalize hv0 : bl L q = v0 at hsB hc2'
      replace hv0 := Lib.hid hv0
      have hW1 : RMW w (.int .i64 (wn : Nat)) (.int .i64 (hn : Nat)) (.slice (some ⟨b, o, none⟩) n cL) (.slice (some ⟨b', o', none⟩) n cS) wn L S w1.heap.size k k vl vs ((Z.alloc (.cells #[.bool v0] 4)).drew) := hZ'.call (below_drewN (ba1 Z (.cells #[.bool v0] 4)) 1)
      have hboZ : w1.heap.size < Z.heap.size := Nat.lt_trans hbo hbt
      have hboZ' : w1.heap.size ≠ Z.heap.size := by omega
      have own1 : ((Z.alloc (.cells #[.bool v0] 4)).drew).ownsRow (w.heap.size + 2) 4 1 vl k (vB wn k L) := hW1.ownL
      have news1 : ∀ j u, [Value.bool v0][j]? = some u → ((Z.alloc (.cells #[.bool v0] 4)).drew).cell? ((⟨Z.heap.size, 0, none⟩ : Addr).add j) = some u :=
        World.news_of_block (w := (Z.alloc (.cells #[.bool v0] 4)).drew) (World.alloc_heap_new Z (.cells #[.bool v0] 4))
      have t1 : Five ((Z.alloc (.cells #[.bool v0] 4)).drew) bt (sh S q 0) (sh S q 1) (sh S q 2) (sh S q 3) (sh S q 4) := ((ba1 Z (.cells #[.bool v0] 4)).block bt hbt).trans t7'
      have rest1 : ∀ g cap w2, w2.ownsRow (w.heap.size + 2) 4 1 (.slice (some ⟨g, 0, none⟩) (k + 1) cap) (k + 1) (vB wn k L ++ [.bool v0]) → ((Z.alloc (.cells #[.bool v0] 4)).drew).grownBy w2 vl.ownBlock → (vl.ownBlock = some g ∨ g = ((Z.alloc (.cells #[.bool v0] 4)).drew).heap.size) →
          w2.cell? ⟨w1.heap.size, 2, none⟩ = some vl ∧ w2.frozen? ⟨w1.heap.size, 2, none⟩ = false ∧ RMW w (.int .i64 (wn : Nat)) (.int .i64 (hn : Nat)) (.slice (some ⟨b, o, none⟩) n cL) (.slice (some ⟨b', o', none⟩) n cS) wn L S w1.heap.size (k + 1) k (.slice (some ⟨g, 0, none⟩) (k + 1) cap) vs (w2.setCell ⟨w1.heap.size, 2, none⟩ (.slice (some ⟨g, 0, none⟩) (k + 1) cap)) ∧ Five (w2.setCell ⟨w1.heap.size, 2, none⟩ (.slice (some ⟨g, 0, none⟩) (k + 1) cap)) bt (sh S q 0) (sh S q 1) (sh S q 2) (sh S q 3) (sh S q 4) := fun g cap w2 ho hg hat => by
        have hq2 := quad_grown hW1.out hg (fun x hx e => hW1.farL (by rw [hx, e]))
        refine ⟨hq2.c2, hq2.fz 2, hW1.stepL (by rw [hsB]; exact ho) hg hat, ?_⟩
        have hbt2 : bt < ((Z.alloc (.cells #[.bool v0] 4)).drew).heap.size := Nat.lt_trans hbt (by simp)
        exact (setCell_block _ _ _ _ _ (by omega)).trans ((hg.block bt hbt2 (fun e => by have := hvl.out bt e.symm; omega)).trans t1)
      replace own1 := Lib.hid own1
      replace news1 := Lib.hid news1
      replace rest1 := Lib.hid rest1
      replace hsB := Lib.hid hsB
      clear hW1
      replace hZ' := Lib.hid hZ'
      replace t7' := Lib.hid t7'
      go_region_law (first | (refine step_append_lies _ rfl (.tmp 45) (.tmp 51) 22 rfl (w.heap.size + 2) 4 i4 (.bool false) 1 1 Tryd.underlying22 ji.out jz0.out jz1.out jz2.out rfl (by decide) _ k _ rfl own1.out ⟨Z.heap.size, 0, none⟩ 1 1 [.bool v0] rfl rfl news1.out (fun u hu => by cases List.mem_singleton.1 hu; rfl) (by omega) (by unfold maxLen; omega) (by omega) (by simp; omega) _ rfl ?_; intro g cap w2 hown1 hgrow hat hlt1; obtain ⟨c2, f2, m2, u2⟩ := rest1.out g cap w2 hown1 hgrow hat; clear hown1 hgrow hat hlt1))
      all_goals
        clear own1 news1 rest1 c2 f2 p2 o2 hc2' hboZ hboZ' hZ' t7'
        generalize w2.setCell ⟨w1.heap.size, 2, none⟩ (.slice (some ⟨g, 0, none⟩) (k + 1) cap) = w3 at m2 u2 ⊢
        generalize (Value.slice (some ⟨g, 0, none⟩) (k + 1) cap) = vl' at m2 ⊢
        have p3 := m2.out.c3
        obtain ⟨y0, y1, y2, y3, y4⟩ := u2.cells
        generalize sh S q 0 = x0 at *
        generalize sh S q 1 = x1 at *
        generalize sh S q 2 = x2 at *
        generalize sh S q 3 = x3 at *
        generalize sh S q 4 = x4 at *
        have hW2 : RMW w (.int .i64 (wn : Nat)) (.int .i64 (hn : Nat)) (.slice (some ⟨b, o, none⟩) n cL) (.slice (some ⟨b', o', none⟩) n cS) wn L S w1.heap.size (k + 1) k vl' vs (w3.alloc (.cells #[.int .i64 x0, .int .i64 x1, .int .i64 x4, .int .i64 x3, .int .i64 x2] 74)) := m2.call (ba1 w3 (.cells #[.int .i64 x0, .int .i64 x1, .int .i64 x4, .int .i64 x3, .int .i64 x2] 74))
        have own2 : (w3.alloc (.cells #[.int .i64 x0, .int .i64 x1, .int .i64 x4, .int .i64 x3, .int .i64 x2] 74)).ownsRow (w.heap.size + 2) 74 5 vs k (vS wn k S) := hW2.ownS
        have news2 : ∀ j u, [Value.int .i64 x0, .int .i64 x1, .int .i64 x4, .int .i64 x3, .int .i64 x2][j]? = some u → (w3.alloc (.cells #[.int .i64 x0, .int .i64 x1, .int .i64 x4, .int .i64 x3, .int .i64 x2] 74)).cell? ((⟨w3.heap.size, 0, none⟩ : Addr).add j) = some u :=
          World.news_of_block (w := w3.alloc (.cells #[.int .i64 x0, .int .i64 x1, .int .i64 x4, .int .i64 x3, .int .i64 x2] 74)) (World.alloc_heap_new w3 (.cells #[.int .i64 x0, .int .i64 x1, .int .i64 x4, .int .i64 x3, .int .i64 x2] 74))
        have hz3 : w.heap.size + 2 ≤ w3.heap.size := m2.res.lt
        have rest2 : ∀ g cap w4, w4.ownsRow (w.heap.size + 2) 74 5 (.slice (some ⟨g, 0, none⟩) (k + 1) cap) (k + 1) (vS wn k S ++ [.int .i64 x0, .int .i64 x1, .int .i64 x4, .int .i64 x3, .int .i64 x2]) → (w3.alloc (.cells #[.int .i64 x0, .int .i64 x1, .int .i64 x4, .int .i64 x3, .int .i64 x2] 74)).grownBy w4 vs.ownBlock → (vs.ownBlock = some g ∨ g = (w3.alloc (.cells #[.int .i64 x0, .int .i64 x1, .int .i64 x4, .int .i64 x3, .int .i64 x2] 74)).heap.size) →
            w4.cell? ⟨w1.heap.size, 3, none⟩ = some vs ∧ w4.frozen? ⟨w1.heap.size, 3, none⟩ = false ∧ RMW w (.int .i64 (wn : Nat)) (.int .i64 (hn : Nat)) (.slice (some ⟨b, o, none⟩) n cL) (.slice (some ⟨b', o', none⟩) n cS) wn L S w1.heap.size (k + 1) (k + 1) vl' (.slice (some ⟨g, 0, none⟩) (k + 1) cap) (w4.setCell ⟨w1.heap.size, 3, none⟩ (.slice (some ⟨g, 0, none⟩) (k + 1) cap)) := fun g cap w4 ho hg hat => by
          have hq2 := quad_grown hW2.out hg (fun x hx e => hW2.farS (by rw [hx, e]))
          exact ⟨hq2.c3, hq2.fz 3, hW2.stepS (by rw [hsS.out]; exact ho) hg hat⟩
        replace own2 := Lib.hid own2
        replace news2 := Lib.hid news2
        replace rest2 := Lib.hid rest2
        clear hW2
        replace m2 := Lib.hid m2
        replace u2 := Lib.hid u2
        go_wp2_with (at_builtin; refine wpList_append_lies _ rfl (.tmp 55) (.tmp 67) 23 rfl (w.heap.size + 2) 74 i7 (.agg #[.int .i64 0, .int .i64 0, .int .i64 0, .int .i64 0, .int .i64 0]) 5 40 Tryd.underlying23 ki.out kz0.out kz1.out kz2.out rfl (by decide) _ k _ rfl own2.out ⟨w3.heap.size, 0, none⟩ 1 1 [.int .i64 x0, .int .i64 x1, .int .i64 x4, .int .i64 x3, .int .i64 x2] rfl rfl news2.out (fun u hu => by simp at hu; rcases hu with rfl | rfl | rfl | rfl | rfl <;> rfl) (by omega) (by unfold maxLen; omega) (by omega) (by simp; omega) _ rfl ?_; intro g4 cap4 w4 hown4 hgrow4 hat4 hlt4; obtain ⟨c4, f4, m4⟩ := rest2.out g4 cap4 w4 hown4 hgrow4 hat4; clear hown4 hgrow4 hat4 hlt4)
        replace m4 := Lib.hid m4
        go_wp2
        go_roundw
        case rel => exact ⟨k + 1, _, _, by omega, by go_num, m4.out⟩
        case measure => simp [intOf]; omega
    · have hk' : k = n := by omega
      subst hk'
      obtain ⟨gl, gs, cl, cs, rfl, rfl, hbay, hgl, hgs⟩ := hX.bayIn (by omega) (by omega)
      have j0 := hX.out.c0
      have j1 := hX.out.c1
      have j2 := hX.out.c2
      have j3 := hX.out.c3
      have r0 := hX.res.c0
      have r1 := hX.res.c1
      have r2 := hX.res.c2
      have r3 := hX.res.c3
      have f0 := hX.res.fz 0
      have f1 := hX.res.fz 1
      have f2 := hX.res.fz 2
      have f3 := hX.res.fz 3
      have ts := hX.res.set (.int .i64 (wn : Nat)) (.int .i64 (hn : Nat)) (.slice (some ⟨gl, 0, none⟩) k cl) (.slice (some ⟨gs, 0, none⟩) k cs)
      have j4 := ts.c0
      have j5 := ts.c1
      have j6 := ts.c2
      have j7 := ts.c3
      have hbs := quad_set_below (x := .int .i64 (wn : Nat)) (y := .int .i64 (hn : Nat)) (z := .slice (some ⟨gl, 0, none⟩) k cl) (u := .slice (some ⟨gs, 0, none⟩) k cs) hX.below (show w.heap.size ≤ w.heap.size + 1 by omega)
      have hbs2 := BayIn.set4 hbay (w.heap.size + 1) (fun a ha => by cases ha; show gl ≠ _; omega) (fun a ha => by cases ha; show gs ≠ _; omega) (.int .i64 (wn : Nat)) (.int .i64 (hn : Nat)) (.slice (some ⟨gl, 0, none⟩) k cl) (.slice (some ⟨gs, 0, none⟩) k cs)
      replace hbs2 := Lib.hid hbs2
      clear hX hbay ts
      go_wp2
      exact bodyPost_ret (v := .tuple #[.agg #[.int .i64 (wn : Nat), .int .i64 (hn : Nat), .slice (some ⟨gl, 0, none⟩) k cl, .slice (some ⟨gs, 0, none⟩) k cs], .int .i64 0]) (by simp [results, Tryd.results49, go_sem, j4, j5, j6, j7]) rfl ⟨_, _, _, _, rfl, hbs, hbs2.out⟩
end Go.Proofs.YtnbgjgiknfcdkaaDoor
