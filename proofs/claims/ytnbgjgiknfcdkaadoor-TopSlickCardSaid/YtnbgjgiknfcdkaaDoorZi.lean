/-
  'move' of the specification.
-/
import Derived.Test.YtnbgjgiknfcdkaaDoorZh
import Derived.Test.YtnbgjgiknfcdkaaDoorZc
import Derived.StillTailTactics
namespace Go.Proofs.YtnbgjgiknfcdkaaDoor
open Go.RowKit Go.Deep M
set_option linter.unusedVariables false
set_option linter.unusedSimpArgs false

/-! ### bounds -/
theorem shP_cell {w h : Nat} {L : List Bool} {S : List Int} (hB : Bay w h L S) (x y : Int) (k : Nat) (hk : k < 5) : ∃ (v : Int) (n : Nat), shP w h S x y k = (v, (n : Int)) ∧ (0 ≤ v ∧ v ≤ 16) ∧ n < w * h := by
  have hw := hB.1.1.1
  have hh := hB.1.2.1
  have hp : 0 < w * h := Nat.mul_pos hw hh
  by_cases e : x < 0 ∨ (w : Int) ≤ x ∨ y < 0 ∨ (h : Int) ≤ y
  · refine ⟨0, 0, ?_, by omega, hp⟩
    unfold shP
    rw [if_pos e]
    rfl
  · obtain ⟨x', rfl⟩ : ∃ x' : Nat, x = x' := ⟨x.toNat, by omega⟩
    obtain ⟨y', rfl⟩ : ∃ y' : Nat, y = y' := ⟨y.toNat, by omega⟩
    have hx : x' < w := by omega
    have hy : y' < h := by omega
    exact ⟨_, _, shP_in hx hy, (hB.2.2 _ (cell_lt hx hy)).1 k hk, cell_lt hx hy⟩
theorem mul16 {x y : Int} (hx : 0 ≤ x ∧ x ≤ 16) (hy : 0 ≤ y ∧ y ≤ 1000000000000) : 0 ≤ x * y ∧ x * y ≤ 16000000000000 := by
  refine ⟨Int.mul_nonneg hx.1 hy.1, ?_⟩
  have := Int.mul_le_mul hx.2 hy.2 hy.1 (by omega)
  omega
theorem tm_bound {w h : Nat} {L : List Bool} {S O : List Int} (hB : Bay w h L S) (hO : ∀ i, i < w * h → 0 ≤ el O i ∧ el O i ≤ 1000000000000) (x y : Int) (k : Nat) (hk : k < 5) : 0 ≤ tm w h S O x y k ∧ tm w h S O x y k ≤ 16000000000000 := by
  obtain ⟨v, n, e, hv, hn⟩ := shP_cell hB x y k hk
  unfold tm
  rw [e, Int.toNat_natCast]
  exact mul16 hv (hO n hn)
theorem mvF_bound {w h : Nat} {L : List Bool} {S O : List Int} {aw : Int} (hB : Bay w h L S) (hl : O.length = w * h) (hO : ∀ i, i < w * h → 0 ≤ el O i ∧ el O i ≤ 1000000000000) (i : Nat) (hi : i < w * h) : 0 ≤ mvF w h L S (amt O aw) i ∧ mvF w h L S (amt O aw) i ≤ 96000000000000 := by
  obtain ⟨e, hx⟩ := xy w i hB.1.1.1
  have hy := row_lt hi
  have h1 := pull_mv (aw := aw) hB hl hx hy
  rw [← e] at h1
  have h2 : mvF w h L S (amt O aw) i = pull w h L S O (i % w) (i / w) := h1.symm
  rw [h2]
  unfold pull
  rw [← e]
  have b0 := hO i hi
  have b1 := tm_bound hB hO (i % w : Nat) ((i / w : Nat) + 1) 1 (by omega)
  have b2 := tm_bound hB hO ((i % w : Nat) - 1) (i / w : Nat) 2 (by omega)
  have b3 := tm_bound hB hO (i % w : Nat) ((i / w : Nat) - 1) 3 (by omega)
  have b4 := tm_bound hB hO ((i % w : Nat) + 1) (i / w : Nat) 4 (by omega)
  obtain ⟨v, n, ev, hv, hn⟩ := shP_cell hB (i % w : Nat) (i / w : Nat) 0 (by omega)
  rw [ev]
  have b5 := mul16 hv b0
  dsimp only
  generalize v * el O i = m at *
  generalize tm w h S O (i % w : Nat) ((i / w : Nat) + 1) 1 = t1 at *
  generalize tm w h S O ((i % w : Nat) - 1) (i / w : Nat) 2 = t2 at *
  generalize tm w h S O (i % w : Nat) ((i / w : Nat) - 1) 3 = t3 at *
  generalize tm w h S O ((i % w : Nat) + 1) (i / w : Nat) 4 = t4 at *
  generalize el O i = q at *
  split <;> omega
theorem smF_bound {f : Nat → Int} (n : Nat) (hn : n ≤ 36) (h : ∀ i, i < n → -100000000000000 ≤ f i ∧ f i ≤ 100000000000000) : -3600000000000000 ≤ sm f n ∧ sm f n ≤ 3600000000000000 := by
  have : ∀ m, m ≤ n → -100000000000000 * (m : Int) ≤ sm f m ∧ sm f m ≤ 100000000000000 * (m : Int) := by
    intro m
    induction m with
    | zero => intro _; exact ⟨by simp [sm_zero], by simp [sm_zero]⟩
    | succ m ih =>
      intro hm
      have h1 := ih (by omega)
      have h2 := h m (by omega)
      rw [sm_succ]
      omega
  have := this n (Nat.le_refl _)
  omega

/-! ### the world -/
structure RmW (w : World) (W H l s K o aw K1 aw1 : Value) (n bs bo : Nat) (f : Nat → Int) (X : World) : Prop where
  below : Below w.heap.size w X
  bay : Quad X w.heap.size W H l s
  slk : Tri X (w.heap.size + 1) K o aw
  res : Tri X (w.heap.size + 1 + 1) (.int .i64 0) (.slice none 0 0) (.int .i64 0)
  row : X.rowIs bs 3 n (fun j => .int .i64 (f j))
  out : Tri X bo K1 (.slice (some ⟨bs, 0, none⟩) n n) aw1
  lies : w.heap.size + 3 ≤ bs ∧ w.heap.size + 3 ≤ bo ∧ bs ≠ bo
theorem RmW.up {w : World} {W H l s K o aw K1 aw1 : Value} {n bs bo : Nat} {f : Nat → Int} {X Y : World} (h : RmW w W H l s K o aw K1 aw1 n bs bo f X) (hb : Below X.heap.size X Y) : RmW w W H l s K o aw K1 aw1 n bs bo f Y :=
  ⟨h.below.trans (hb.mono h.below.size), h.bay.up hb, h.slk.up hb, h.res.up hb, h.row.of_block (hb.block _ h.row.lt), h.out.up hb, h.lies⟩
theorem RmW.drewN {w : World} {W H l s K o aw K1 aw1 : Value} {n bs bo : Nat} {f : Nat → Int} {X : World} (h : RmW w W H l s K o aw K1 aw1 n bs bo f X) (m : Nat) : RmW w W H l s K o aw K1 aw1 n bs bo f (X.drewN m) :=
  ⟨below_drewN h.below m, h.bay, h.slk, h.res, h.row, h.out, h.lies⟩
theorem RmW.congr {w : World} {W H l s K o aw K1 aw1 : Value} {n bs bo : Nat} {f g : Nat → Int} {X : World} (h : RmW w W H l s K o aw K1 aw1 n bs bo f X) (e : ∀ j, j < n → f j = g j) : RmW w W H l s K o aw K1 aw1 n bs bo g X :=
  ⟨h.below, h.bay, h.slk, h.res, h.row.congr (fun j hj => by rw [e j hj]), h.out, h.lies⟩
theorem RmW.set {w : World} {W H l s K o aw K1 aw1 : Value} {n bs bo : Nat} {f : Nat → Int} {X : World} (h : RmW w W H l s K o aw K1 aw1 n bs bo f X) (i : Nat) (v : Int) : RmW w W H l s K o aw K1 aw1 n bs bo (fun j => if j = i then v else f j) (X.setCell ⟨bs, i, none⟩ (.int .i64 v)) := by
  have hl := h.lies
  refine ⟨h.below.setCell (p := ⟨bs, i, none⟩) (by show w.heap.size ≤ bs; omega) _, (setCell_block X _ i _ _ (by omega)).trans h.bay, (setCell_block X _ i _ _ (by omega)).trans h.slk, (setCell_block X _ i _ _ (by omega)).trans h.res, ?_, (setCell_block X _ i _ _ (by omega)).trans h.out, hl⟩
  exact (h.row.set i (.int .i64 v)).congr (fun j _ => by split <;> rfl)
theorem Tri.set2 {w : World} {b : Nat} {x y z : Value} (h : Tri w b x y z) (z' : Value) : Tri (w.setCell ⟨b, 2, none⟩ z') b x y z' := by
  unfold Tri at *
  simp [World.setCell, Array.getElem?_modify, h]
theorem rowIs_heap3 {X : World} {b n : Nat} (h : X.heap[b]? = some (.cells (madeCells #[.int .i64 0] n) 3 (0, 0))) : X.rowIs b 3 n (fun _ => .int .i64 0) :=
  ⟨_, h, size_madeCells _ _, fun i hi => by simp [madeCells, hi, Nat.mod_one]⟩
theorem rmW_sb (w : World) (W H l s K o aw K1 aw1 : Value) (n : Nat) : RmW w W H l s K o aw K1 aw1 n (w.heap.size + 1 + 1 + 1) (w.heap.size + 1 + 1 + 1 + 1) (fun _ => 0)
    ((((((w.alloc (.cells #[W, H, l, s] 25)).alloc (.cells #[K, o, aw] 28)).alloc (.cells #[.int .i64 0, .slice none 0 0, .int .i64 0] 28)).alloc (.cells (madeCells #[.int .i64 0] n) 3)).alloc (.cells #[K1, .slice (some ⟨w.heap.size + 1 + 1 + 1, 0, none⟩) n n, aw1] 28)).drew) := by
  obtain ⟨e0, e1, e2, e3, e4⟩ := h5 w (.cells #[W, H, l, s] 25) (.cells #[K, o, aw] 28) (.cells #[.int .i64 0, .slice none 0 0, .int .i64 0] 28) (.cells (madeCells #[.int .i64 0] n) 3) (.cells #[K1, .slice (some ⟨w.heap.size + 1 + 1 + 1, 0, none⟩) n n, aw1] 28)
  exact ⟨ba5 _ _ _ _ _ _, e0, e1, e2, rowIs_heap3 e3, e4, by omega⟩
theorem rmW_bs (w : World) (W H l s K o aw K1 aw1 : Value) (n : Nat) : RmW w W H l s K o aw K1 aw1 n (w.heap.size + 1 + 1 + 1 + 1) (w.heap.size + 1 + 1 + 1) (fun _ => 0)
    ((((((w.alloc (.cells #[W, H, l, s] 25)).alloc (.cells #[K, o, aw] 28)).alloc (.cells #[.int .i64 0, .slice none 0 0, .int .i64 0] 28)).alloc (.cells #[K1, .slice (some ⟨w.heap.size + 1 + 1 + 1 + 1, 0, none⟩) n n, aw1] 28)).alloc (.cells (madeCells #[.int .i64 0] n) 3)).drew) := by
  obtain ⟨e0, e1, e2, e3, e4⟩ := h5 w (.cells #[W, H, l, s] 25) (.cells #[K, o, aw] 28) (.cells #[.int .i64 0, .slice none 0 0, .int .i64 0] 28) (.cells #[K1, .slice (some ⟨w.heap.size + 1 + 1 + 1 + 1, 0, none⟩) n n, aw1] 28) (.cells (madeCells #[.int .i64 0] n) 3)
  exact ⟨ba5 _ _ _ _ _ _, e0, e1, e2, rowIs_heap3 e4, e3, by omega⟩

set_option maxRecDepth 100000 in
set_option maxHeartbeats 2000000 in
theorem move_ref (B wn hn : Nat) (aL aS aO : Option Addr) (cL cS cO : Nat) (L : List Bool) (S : List Int) (K : Int) (O : List Int) (aw : Int) (w : World) (h : BayIn w B aL L aS (wn * hn) S) (hO : Row w B aO O) (hB : B ≤ w.heap.size) (hBay : Bay wn hn L S) (hl : O.length = wn * hn) (hK : 0 ≤ K ∧ K ≤ 5)
    (hnn : ∀ i, i < wn * hn → 0 ≤ el O i ∧ el O i ≤ 1000000000000) (haw : 0 ≤ aw ∧ aw ≤ 1000000000000) :
    Calls Tryd.prog 86 #[.agg #[.int .i64 (wn : Nat), .int .i64 (hn : Nat), .slice aL (wn * hn) cL, .slice aS (wn * hn) cS], .agg #[.int .i64 K, .slice aO (wn * hn) cO, .int .i64 aw]] w fun e w' => ∃ A c, e = .returned (.agg #[.int .i64 (K + 1), .slice A (wn * hn) c, .int .i64 (mvF wn hn L S (amt O aw) (wn * hn))]) ∧ Below w.heap.size w w' ∧ Row w' w'.heap.size A (pre (wn * hn) (mv wn hn L S (amt O aw))) ∧ Fresh w.heap.size A := by
  have h36 := hBay.cells
  have hLN := hBay.2.1.1
  have hw6 := hBay.1.1
  have hh6 := hBay.1.2
  have hmvb := mvF_bound (aw := aw) hBay hl hnn
  have hpull : ∀ x y, x < wn → y < hn → pull wn hn L S O x y = mvF wn hn L S (amt O aw) (y * wn + x) := fun x y hx hy => pull_mv hBay hl hx hy
  have haway : 16 * aw + sm (fun i => 16 * el O i - mvF wn hn L S (amt O aw) i) (wn * hn) = mvF wn hn L S (amt O aw) (wn * hn) := away_mv hBay hl
  have hsm : ∀ i, i ≤ wn * hn → -3600000000000000 ≤ sm (fun i => 16 * el O i - mvF wn hn L S (amt O aw) i) i ∧ sm (fun i => 16 * el O i - mvF wn hn L S (amt O aw) i) i ≤ 3600000000000000 := fun i hi => smF_bound i (by omega) fun j hj => by
    have := hnn j (by omega)
    have := hmvb j (by omega)
    omega
  have c96 : ∀ (x y : Int) (k : Nat) X, (-7 ≤ x ∧ x ≤ 7) → (-7 ≤ y ∧ y ≤ 7) → k < 5 → Below w.heap.size w X → Calls Tryd.prog 96 #[.agg #[.int .i64 (wn : Nat), .int .i64 (hn : Nat), .slice aL (wn * hn) cL, .slice aS (wn * hn) cS], .int .i64 x, .int .i64 y, .int .i64 (k : Nat)] X fun e X' => e = .returned (.tuple #[.int .i64 (shP wn hn S x y k).1, .int .i64 (shP wn hn S x y k).2]) ∧ Below X.heap.size X X' := fun x y k X hx hy hk hX =>
    Share_any B wn hn aL aS cL cS L S x y k X (h.below (hX.mono hB)) (Nat.le_trans hB hX.size) (by omega) (by omega) hx hy hk
  have hmvl : ∀ i, i < wn * hn → el (pre (wn * hn) (mv wn hn L S (amt O aw))) i = mvF wn hn L S (amt O aw) i := fun i hi => by
    have : el (pre (wn * hn) (mv wn hn L S (amt O aw))) i = el (mv wn hn L S (amt O aw)) i := mk_el _ _ _ hi
    rw [this, mv_el (by omega)]
  have hcell : ∀ x y : Nat, x < wn → y < hn → y * wn + x < wn * hn := fun x y hx hy => cell_lt hx hy
  have hrow : ∀ y : Nat, y ≤ hn → y * wn ≤ 36 := fun y hy => Nat.le_trans (Nat.mul_le_mul hy hw6.2) (by omega)
  have hall : hn * wn = wn * hn := Nat.mul_comm _ _
  generalize hF : mvF wn hn L S (amt O aw) = F at *
  generalize hn0 : wn * hn = n at *
  have hends : ∀ X bs bo, RmW w (.int .i64 (wn : Nat)) (.int .i64 (hn : Nat)) (.slice aL n cL) (.slice aS n cS) (.int .i64 K) (.slice aO n cO) (.int .i64 aw) (.int .i64 (K + 1)) (.int .i64 (16 * aw)) n bs bo (fun j => if j < n then F j else 0) X → ∀ Y, Below w.heap.size w Y → Y.heap[bs]? = X.heap[bs]? →
      ∃ A c, Ending.returned (.agg #[.int .i64 (K + 1), .slice (some ⟨bs, 0, none⟩) n n, .int .i64 (F n)]) = .returned (.agg #[.int .i64 (K + 1), .slice A n c, .int .i64 (F n)]) ∧ Below w.heap.size w Y ∧ Row Y Y.heap.size A (pre n (mv wn hn L S (amt O aw))) ∧ Fresh w.heap.size A := fun X bs bo hX Y hY e1 => by
    refine ⟨_, _, rfl, hY, ⟨by rw [pre_len]; omega, fun _ => ⟨bs, 0, rfl, (hX.row.of_block e1).lt, fun i hi => ?_⟩⟩, fun a ha => by cases ha; have := hX.lies; show w.heap.size ≤ bs; omega⟩
    rw [pre_len] at hi
    rw [Nat.zero_add, (hX.row.of_block e1).cell hi, hmvl i hi, if_pos hi]
  have hmk := run_make_row' (P := Tryd.prog) 26 3 (.int .i64 0) 8 Tryd.underlying26 info3 rfl .i64 .i64 n (by omega) (by omega)
  have hK1 : IntKind.i64.wrap (K + 1) = K + 1 := IntWalk.i64_in _ (by omega)
  obtain ⟨a16, ha0⟩ : ∃ t, t = 16 * aw := ⟨_, rfl⟩
  rw [← ha0] at haway hends
  have ha1 : IntKind.i64.wrap (16 * aw) = a16 := by rw [ha0]; exact IntWalk.i64_in _ (by omega)
  have ha2 : 0 ≤ a16 ∧ a16 ≤ 16000000000000 := by omega
  replace hends := Lib.hid hends
  replace hmvb := Lib.hid hmvb
  replace hpull := Lib.hid hpull
  replace haway := Lib.hid haway
  replace hsm := Lib.hid hsm
  replace c96 := Lib.hid c96
  replace hmvl := Lib.hid hmvl
  replace hcell := Lib.hid hcell
  replace hrow := Lib.hid hrow
  replace hall := Lib.hid hall
  replace hn0 := Lib.hid hn0
  replace hF := Lib.hid hF
  replace ha0 := Lib.hid ha0
  replace hLN := Lib.hid hLN
  replace hl := Lib.hid hl
  replace hnn := Lib.hid hnn
  go_enter Tryd.func86, Tryd.ntmps86
  go_upto_region 1 with fail
  go_cut [5] from 20 to 31 (fun p wx => ∃ bs bo : Nat, p = .pointer (some ⟨bo, 0, none⟩) ∧ RmW w (.int .i64 (wn : Nat)) (.int .i64 (hn : Nat)) (.slice aL n cL) (.slice aS n cS) (.int .i64 K) (.slice aO n cO) (.int .i64 aw) (.int .i64 (K + 1)) (.int .i64 a16) n bs bo (fun _ => 0) wx)
  case first =>
    go_region
    all_goals (go_wp2_with fail)
    all_goals go_meet
    all_goals first | exact ⟨_, _, rfl, rmW_sb _ _ _ _ _ _ _ _ _ _ _⟩ | exact ⟨_, _, rfl, rmW_bs _ _ _ _ _ _ _ _ _ _ _⟩
  case rest =>
  obtain ⟨bs, bo, rfl, h0⟩ := hcut
  clear hmk hK1 ha1
  have h1 : RmW w (.int .i64 (wn : Nat)) (.int .i64 (hn : Nat)) (.slice aL n cL) (.slice aS n cS) (.int .i64 K) (.slice aO n cO) (.int .i64 aw) (.int .i64 (K + 1)) (.int .i64 a16) n bs bo (fun j => if j < 0 * wn then F j else 0) _ := h0.congr (fun j _ => by rw [if_neg (by omega)])
  have g1 := h1.bay.c1
  clear h0
  replace h1 := Lib.hid h1
  go_wp2
  go_loopw [6, 7] (fun a i X => ∃ y : Nat, y ≤ hn ∧ i = .int .i64 y ∧ a = .int .i64 (sm (fun i => 16 * el O i - F i) (y * wn)) ∧ RmW w (.int .i64 (wn : Nat)) (.int .i64 (hn : Nat)) (.slice aL n cL) (.slice aS n cS) (.int .i64 K) (.slice aO n cO) (.int .i64 aw) (.int .i64 (K + 1)) (.int .i64 a16) n bs bo (fun j => if j < y * wn then F j else 0) X) (fun _ i _ => hn - (intOf i).toNat)
  case atStart => exact ⟨0, Nat.zero_le _, rfl, by simp [sm_zero], h1.out⟩
  case round =>
    clear h1 g1
    obtain ⟨y, hy, rfl, rfl, hX⟩ := hrel
    have g0 := hX.bay.c0
    have g1 := hX.bay.c1
    by_cases hlt : y < hn
    · have hyI : (y : Int) < (hn : Nat) := by omega
      replace hX := Lib.hid hX
      go_wp2
      go_loopw [6, 8] (fun a i X => ∃ x : Nat, x ≤ wn ∧ i = .int .i64 x ∧ a = .int .i64 (sm (fun i => 16 * el O i - F i) (y * wn + x)) ∧ RmW w (.int .i64 (wn : Nat)) (.int .i64 (hn : Nat)) (.slice aL n cL) (.slice aS n cS) (.int .i64 K) (.slice aO n cO) (.int .i64 aw) (.int .i64 (K + 1)) (.int .i64 a16) n bs bo (fun j => if j < y * wn + x then F j else 0) X) (fun _ i _ => wn - (intOf i).toNat)
      case atStart => exact ⟨0, Nat.zero_le _, rfl, rfl, hX.out⟩
      case round =>
        clear hX g0 g1
        obtain ⟨x, hx, rfl, rfl, hX⟩ := hrel
        have g0 := hX.bay.c0
        have g2 := hX.bay.c2
        by_cases hxt : x < wn
        · have hxI : (x : Int) < (wn : Nat) := by omega
          have hin := hcell.out x y hxt hlt
          have hr36 := hrow.out y hy
          have e1 : IntKind.i64.wrap ((y : Int) * wn) = ((y * wn : Nat) : Int) := by
            rw [← Int.natCast_mul]
            exact IntWalk.i64_in _ (by omega)
          obtain ⟨v0, n0, ev0, hv0, hn0'⟩ := shP_cell hBay (x : Int) (y : Int) 0 (by omega)
          obtain ⟨v1, n1, ev1, hv1, hn1⟩ := shP_cell hBay (x : Int) ((y : Int) + 1) 1 (by omega)
          obtain ⟨v2, n2, ev2, hv2, hn2⟩ := shP_cell hBay ((x : Int) - 1) (y : Int) 2 (by omega)
          obtain ⟨v3, n3, ev3, hv3, hn3⟩ := shP_cell hBay (x : Int) ((y : Int) - 1) 3 (by omega)
          obtain ⟨v4, n4, ev4, hv4, hn4⟩ := shP_cell hBay ((x : Int) + 1) (y : Int) 4 (by omega)
          rw [hn0.out] at hn0' hn1 hn2 hn3 hn4
          have hp := hpull.out x y hxt hlt
          have hFb := hmvb.out _ hin
          unfold pull tm at hp
          rw [ev0, ev1, ev2, ev3, ev4] at hp
          dsimp only at hp
          simp only [Int.toNat_natCast] at hp
          have d0 : ∀ X, Below w.heap.size w X → Calls Tryd.prog 96 #[.agg #[.int .i64 (wn : Nat), .int .i64 (hn : Nat), .slice aL n cL, .slice aS n cS], .int .i64 (x : Nat), .int .i64 (y : Nat), .int .i64 0] X fun e X' => e = .returned (.tuple #[.int .i64 v0, .int .i64 (n0 : Nat)]) ∧ Below X.heap.size X X' := fun X hX => by
            have := c96.out x y 0 X (by omega) (by omega) (by omega) hX
            rw [ev0] at this
            exact this
          have d1 : ∀ X, Below w.heap.size w X → Calls Tryd.prog 96 #[.agg #[.int .i64 (wn : Nat), .int .i64 (hn : Nat), .slice aL n cL, .slice aS n cS], .int .i64 (x : Nat), .int .i64 ((y : Nat) + 1), .int .i64 1] X fun e X' => e = .returned (.tuple #[.int .i64 v1, .int .i64 (n1 : Nat)]) ∧ Below X.heap.size X X' := fun X hX => by
            have := c96.out x (y + 1) 1 X (by omega) (by omega) (by omega) hX
            rw [ev1] at this
            exact this
          have d2 : ∀ X, Below w.heap.size w X → Calls Tryd.prog 96 #[.agg #[.int .i64 (wn : Nat), .int .i64 (hn : Nat), .slice aL n cL, .slice aS n cS], .int .i64 ((x : Nat) - 1), .int .i64 (y : Nat), .int .i64 2] X fun e X' => e = .returned (.tuple #[.int .i64 v2, .int .i64 (n2 : Nat)]) ∧ Below X.heap.size X X' := fun X hX => by
            have := c96.out (x - 1) y 2 X (by omega) (by omega) (by omega) hX
            rw [ev2] at this
            exact this
          have d3 : ∀ X, Below w.heap.size w X → Calls Tryd.prog 96 #[.agg #[.int .i64 (wn : Nat), .int .i64 (hn : Nat), .slice aL n cL, .slice aS n cS], .int .i64 (x : Nat), .int .i64 ((y : Nat) - 1), .int .i64 3] X fun e X' => e = .returned (.tuple #[.int .i64 v3, .int .i64 (n3 : Nat)]) ∧ Below X.heap.size X X' := fun X hX => by
            have := c96.out x (y - 1) 3 X (by omega) (by omega) (by omega) hX
            rw [ev3] at this
            exact this
          have d4 : ∀ X, Below w.heap.size w X → Calls Tryd.prog 96 #[.agg #[.int .i64 (wn : Nat), .int .i64 (hn : Nat), .slice aL n cL, .slice aS n cS], .int .i64 ((x : Nat) + 1), .int .i64 (y : Nat), .int .i64 4] X fun e X' => e = .returned (.tuple #[.int .i64 v4, .int .i64 (n4 : Nat)]) ∧ Below X.heap.size X X' := fun X hX => by
            have := c96.out (x + 1) y 4 X (by omega) (by omega) (by omega) hX
            rw [ev4] at this
            exact this
          clear ev0 ev1 ev2 ev3 ev4 hn0'
          have hsb := hsm.out _ (Nat.le_of_lt hin)
          obtain ⟨pp, hP⟩ : ∃ pp, pp = y * wn := ⟨_, rfl⟩
          obtain ⟨ii, hI⟩ : ∃ ii, ii = pp + x := ⟨_, rfl⟩
          rw [← hP] at hin e1 hX hp hFb hsb ⊢
          rw [← hI] at hin hX hp hFb hsb ⊢
          have hcs : ∀ X, Below w.heap.size w X → ∃ b o, aO = some ⟨b, o, none⟩ ∧ b < w.heap.size ∧ X.cell? ⟨b, o + ii, none⟩ = some (.int .i64 (el O ii)) ∧ X.cell? ⟨b, o + n1, none⟩ = some (.int .i64 (el O n1)) ∧ X.cell? ⟨b, o + n2, none⟩ = some (.int .i64 (el O n2)) ∧ X.cell? ⟨b, o + n3, none⟩ = some (.int .i64 (el O n3)) ∧ X.cell? ⟨b, o + n4, none⟩ = some (.int .i64 (el O n4)) := fun X hX => by
            obtain ⟨b, o, e, hb, hc⟩ := (hO.below (hX.mono hB)).2 (by rw [hl.out]; omega)
            rw [hl.out] at hc
            exact ⟨b, o, e, by omega, hc ii hin, hc n1 hn1, hc n2 hn2, hc n3 hn3, hc n4 hn4⟩
          have bO := hnn.out ii hin
          have b1 := mul16 hv1 (hnn.out n1 hn1)
          have b2 := mul16 hv2 (hnn.out n2 hn2)
          have b3 := mul16 hv3 (hnn.out n3 hn3)
          have b4 := mul16 hv4 (hnn.out n4 hn4)
          have b0 := mul16 hv0 bO
          generalize hoi : el O ii = oi at hcs hp bO b0
          generalize el O n1 = o1 at hcs hp b1
          generalize el O n2 = o2 at hcs hp b2
          generalize el O n3 = o3 at hcs hp b3
          generalize el O n4 = o4 at hcs hp b4
          obtain ⟨p0, hp0⟩ : ∃ t, t = v0 * oi := ⟨_, rfl⟩
          obtain ⟨p1, hp1⟩ : ∃ t, t = v1 * o1 := ⟨_, rfl⟩
          obtain ⟨p2, hp2⟩ : ∃ t, t = v2 * o2 := ⟨_, rfl⟩
          obtain ⟨p3, hp3⟩ : ∃ t, t = v3 * o3 := ⟨_, rfl⟩
          obtain ⟨p4, hp4⟩ : ∃ t, t = v4 * o4 := ⟨_, rfl⟩
          rw [← hp0] at hp b0
          rw [← hp1] at hp b1
          rw [← hp2] at hp b2
          rw [← hp3] at hp b3
          rw [← hp4] at hp b4
          have m0 : IntKind.i64.wrap (v0 * oi) = p0 := by rw [hp0]; exact IntWalk.i64_in _ (by omega)
          have m1 : IntKind.i64.wrap (v1 * o1) = p1 := by rw [hp1]; exact IntWalk.i64_in _ (by omega)
          have m2 : IntKind.i64.wrap (v2 * o2) = p2 := by rw [hp2]; exact IntWalk.i64_in _ (by omega)
          have m3 : IntKind.i64.wrap (v3 * o3) = p3 := by rw [hp3]; exact IntWalk.i64_in _ (by omega)
          have m4 : IntKind.i64.wrap (v4 * o4) = p4 := by rw [hp4]; exact IntWalk.i64_in _ (by omega)
          clear hp0 hp1 hp2 hp3 hp4 hv0 hv1 hv2 hv3 hv4
          have e2 : IntKind.i64.wrap ((pp : Int) + x) = (ii : Int) := by
            rw [hI, ← Int.natCast_add]
            exact IntWalk.i64_in _ (by omega)
          obtain ⟨c16, h16⟩ : ∃ t, t = 16 * oi := ⟨_, rfl⟩
          have e3 : IntKind.i64.wrap (16 * oi) = c16 := by rw [h16]; exact IntWalk.i64_in _ (by omega)
          obtain ⟨cv, hcv⟩ : ∃ t : Int, t = if bl L ii = true then c16 else 0 := ⟨_, rfl⟩
          have hcvb : 0 ≤ cv ∧ cv ≤ 16000000000000 := by rw [hcv]; split <;> omega
          have hp' : cv + p0 + p1 + p2 + p3 + p4 = F ii := by rw [← hp, hcv, h16]
          obtain ⟨s0, hs0⟩ : ∃ t, t = cv + p0 := ⟨_, rfl⟩
          obtain ⟨s1, hs1⟩ : ∃ t, t = s0 + p1 := ⟨_, rfl⟩
          obtain ⟨s2, hs2⟩ : ∃ t, t = s1 + p2 := ⟨_, rfl⟩
          obtain ⟨s3, hs3⟩ : ∃ t, t = s2 + p3 := ⟨_, rfl⟩
          obtain ⟨s4, hs4⟩ : ∃ t, t = s3 + p4 := ⟨_, rfl⟩
          have k0 : IntKind.i64.wrap (cv + p0) = s0 := by rw [hs0]; exact IntWalk.i64_in _ (by omega)
          have k1 : IntKind.i64.wrap (s0 + p1) = s1 := by rw [hs1]; exact IntWalk.i64_in _ (by omega)
          have k2 : IntKind.i64.wrap (s1 + p2) = s2 := by rw [hs2]; exact IntWalk.i64_in _ (by omega)
          have k3 : IntKind.i64.wrap (s2 + p3) = s3 := by rw [hs3]; exact IntWalk.i64_in _ (by omega)
          have k4 : IntKind.i64.wrap (s3 + p4) = s4 := by rw [hs4]; exact IntWalk.i64_in _ (by omega)
          have hs : s4 = F ii := by omega
          have hnew : ∀ X, RmW w (.int .i64 (wn : Nat)) (.int .i64 (hn : Nat)) (.slice aL n cL) (.slice aS n cS) (.int .i64 K) (.slice aO n cO) (.int .i64 aw) (.int .i64 (K + 1)) (.int .i64 a16) n bs bo (fun j => if j = ii then cv else if j < ii then F j else 0) X → RmW w (.int .i64 (wn : Nat)) (.int .i64 (hn : Nat)) (.slice aL n cL) (.slice aS n cS) (.int .i64 K) (.slice aO n cO) (.int .i64 aw) (.int .i64 (K + 1)) (.int .i64 a16) n bs bo (fun j => if j < ii + 1 then F j else 0) (X.setCell ⟨bs, ii, none⟩ (.int .i64 s4)) := fun X hX => (hX.set ii s4).congr fun j hj => by
            by_cases e : j = ii
            · rw [if_pos e, if_pos (by omega), e, hs]
            · rw [if_neg e, if_neg e]
              by_cases e4 : j < ii
              · rw [if_pos e4, if_pos (by omega)]
              · rw [if_neg e4, if_neg (by omega)]
          generalize hsA : sm (fun i => 16 * el O i - F i) ii = al at *
          obtain ⟨a1, ha1⟩ : ∃ t, t = al + c16 := ⟨_, rfl⟩
          obtain ⟨a2, ha2'⟩ : ∃ t, t = a1 - s4 := ⟨_, rfl⟩
          have e4 : IntKind.i64.wrap (al + c16) = a1 := by rw [ha1]; exact IntWalk.i64_in _ (by omega)
          have e5 : IntKind.i64.wrap (a1 - s4) = a2 := by rw [ha2']; exact IntWalk.i64_in _ (by omega)
          have hsn : a2 = sm (fun i => 16 * el O i - F i) (ii + 1) := by
            rw [sm_succ, hsA, hoi]
            omega
          have g3 := hX.out.c1
          have g4 := hX.slk.c1
          have hY' : bl L ii = false → RmW w (.int .i64 (wn : Nat)) (.int .i64 (hn : Nat)) (.slice aL n cL) (.slice aS n cS) (.int .i64 K) (.slice aO n cO) (.int .i64 aw) (.int .i64 (K + 1)) (.int .i64 a16) n bs bo (fun j => if j = ii then cv else if j < ii then F j else 0) wr := fun e => hX.congr fun j hj => by
            by_cases e' : j = ii
            · rw [if_pos e', if_neg (by omega), hcv, e]; simp
            · rw [if_neg e']
          have hY'' : bl L ii = true → ∀ X, RmW w (.int .i64 (wn : Nat)) (.int .i64 (hn : Nat)) (.slice aL n cL) (.slice aS n cS) (.int .i64 K) (.slice aO n cO) (.int .i64 aw) (.int .i64 (K + 1)) (.int .i64 a16) n bs bo (fun j => if j < ii then F j else 0) X → RmW w (.int .i64 (wn : Nat)) (.int .i64 (hn : Nat)) (.slice aL n cL) (.slice aS n cS) (.int .i64 K) (.slice aO n cO) (.int .i64 aw) (.int .i64 (K + 1)) (.int .i64 a16) n bs bo (fun j => if j = ii then cv else if j < ii then F j else 0) (X.setCell ⟨bs, ii, none⟩ (.int .i64 c16)) := fun e X hX => (hX.set ii c16).congr fun j hj => by
            by_cases e' : j = ii
            · rw [if_pos e', if_pos e', hcv, e, if_pos rfl]
            · rw [if_neg e', if_neg e']
          have hiiI : (ii : Int) < (n : Nat) := by omega
          have n1I : (n1 : Int) < (n : Nat) := by omega
          have n2I : (n2 : Int) < (n : Nat) := by omega
          have n3I : (n3 : Int) < (n : Nat) := by omega
          have n4I : (n4 : Int) < (n : Nat) := by omega
          replace d0 := Lib.hid d0
          replace d1 := Lib.hid d1
          replace d2 := Lib.hid d2
          replace d3 := Lib.hid d3
          replace d4 := Lib.hid d4
          replace hcs := Lib.hid hcs
          replace hnew := Lib.hid hnew
          replace hsn := Lib.hid hsn
          have hsF := hs
          replace hsF := Lib.hid hsF
          replace hP := Lib.hid hP
          replace hI := Lib.hid hI
          clear hp hp' hs hs0 hs1 hs2 hs3 hs4 ha1 ha2' hoi hsA hsb b0 b1 b2 b3 b4 bO hFb h16
          obtain ⟨bl', ol, heL, hbl, hcl⟩ := (h.land.below (hX.below.mono hB)).at_ ii (by rw [hLN.out]; exact hin)
          subst heL
          generalize hbk : bl L ii = bk at *
          go_upto_if 53 with fail
          go_cut [] from 37 to 165 (fun wx => RmW w (.int .i64 (wn : Nat)) (.int .i64 (hn : Nat)) (.slice (some ⟨bl', ol, none⟩) n cL) (.slice aS n cS) (.int .i64 K) (.slice aO n cO) (.int .i64 aw) (.int .i64 (K + 1)) (.int .i64 a16) n bs bo (fun j => if j = ii then cv else if j < ii then F j else 0) wx)
          case first =>
            clear d0 d1 d2 d3 d4 hnew m0 m1 m2 m3 m4 k0 k1 k2 k3 k4 e4 e5 hsn hsF n1I n2I n3I n4I hsm hmvb hpull haway c96 hmvl
            cases bk with
            | false =>
              have hY0 := hY' rfl
              clear hY' hY'' hcv hbk g3 g4
              replace hX := Lib.hid hX
              replace hY0 := Lib.hid hY0
              go_wp2_with fail
              go_meet
              exact hY0.out
            | true =>
              obtain ⟨b0, o0, rfl, hbb, c0, _⟩ := hcs.out _ hX.below
              have cc := hX.row.cell (i := ii) hin
              have fc := hX.row.frozen ii
              have hY1 := hY'' rfl
              clear hY' hY'' hcv hbk
              replace hX := Lib.hid hX
              replace hY1 := Lib.hid hY1
              go_wp2_with fail
              go_still_tail 10, (by kernel_rfl)
              change wpList _ _ _ _ _ wr.drew
              have hZ0 : RmW _ _ _ _ _ _ _ _ _ _ _ _ _ _ wr.drew := hX.out.drewN 1
              clear g3 g4 c0 cc fc hbb hX
              generalize wr.drew = Z at hZ0 ⊢
              have fz := hZ0.row.frozen ii
              have cz := hZ0.row.cell (i := ii) hin
              have hY0 := hY1.out Z hZ0
              clear hZ0 hY1
              replace hY0 := Lib.hid hY0
              go_wp2_with fail
              go_meet
              exact hY0.out
          case rest =>
          have hY0 := hcut
          clear hcut hX hY' hY'' hcv g0 g2 g3 g4 e1 e2 hbk hcl hbl
          replace hY0 := Lib.hid hY0
          have q0 := hY0.out.bay.c0
          have q1 := hY0.out.bay.c1
          have q2 := hY0.out.bay.c2
          have q3 := hY0.out.bay.c3
          go_wp2_with fail
          refine (d0.out _ hY0.out.below).mono ?_
          rintro e Y1 ⟨rfl, hb1⟩
          have hY1 := hY0.out.up hb1
          clear hb1 hY0 q0 q1 q2 q3
          replace hY1 := Lib.hid hY1
          have q0 := hY1.out.bay.c0
          have q1 := hY1.out.bay.c1
          have q2 := hY1.out.bay.c2
          have q3 := hY1.out.bay.c3
          go_wp2_with fail
          refine (d1.out _ hY1.out.below).mono ?_
          rintro e Y2 ⟨rfl, hb2⟩
          have hY2 := hY1.out.up hb2
          clear hb2 hY1 q0 q1 q2 q3
          replace hY2 := Lib.hid hY2
          have q0 := hY2.out.bay.c0
          have q1 := hY2.out.bay.c1
          have q2 := hY2.out.bay.c2
          have q3 := hY2.out.bay.c3
          go_wp2_with fail
          refine (d2.out _ hY2.out.below).mono ?_
          rintro e Y3 ⟨rfl, hb3⟩
          have hY3 := hY2.out.up hb3
          clear hb3 hY2 q0 q1 q2 q3
          replace hY3 := Lib.hid hY3
          have q0 := hY3.out.bay.c0
          have q1 := hY3.out.bay.c1
          have q2 := hY3.out.bay.c2
          have q3 := hY3.out.bay.c3
          go_wp2_with fail
          refine (d3.out _ hY3.out.below).mono ?_
          rintro e Y4 ⟨rfl, hb4⟩
          have hY4 := hY3.out.up hb4
          clear hb4 hY3 q0 q1 q2 q3
          replace hY4 := Lib.hid hY4
          have q0 := hY4.out.bay.c0
          have q1 := hY4.out.bay.c1
          have q2 := hY4.out.bay.c2
          have q3 := hY4.out.bay.c3
          go_wp2_with fail
          refine (d4.out _ hY4.out.below).mono ?_
          rintro e Y5 ⟨rfl, hb5⟩
          have hY5 := hY4.out.up hb5
          clear hb5 hY4 q0 q1 q2 q3
          replace hY5 := Lib.hid hY5
          have cb := hY5.out.out.c1
          have cs := hY5.out.slk.c1
          have cc := hY5.out.row.cell (i := ii) hin
          have fc := hY5.out.row.frozen ii
          rw [if_pos rfl] at cc
          obtain ⟨b, o, heO, hbb, c0, c1, c2, c3, c4⟩ := hcs.out _ hY5.out.below
          subst heO
          have hnb : bs ≠ b := by have := hY5.out.lies; omega
          go_wp2_with fail
          have pk := Lib.hid (And.intro hnew (And.intro hcs (And.intro hsn (And.intro hsF (And.intro hI (And.intro hY5 (And.intro e3 (And.intro e4 (And.intro e5 (And.intro hB (And.intro hin (And.intro hxt (And.intro hxI (And.intro hx hw6))))))))))))))
          clear hnew hcs hsn hsF hI hP hY5 e3 e4 e5 hB hin hxt hxI hx hsm hmvb hpull haway c96 hmvl hends hcell hrow hall hn0 hF ha0 hLN hl hnn h hO hBay hK haw hw6 hh6 h36 ha2 hy hlt hyI hr36 d0 d1 d2 d3 d4 hn1 hn2 hn3 hn4 hcvb
          go_still_tail 49, (by kernel_rfl)
          obtain ⟨hnew, hcs, hsn, hsF, hI, hY5, e3, e4, e5, hB, hin, hxt, hxI, hx, hw6⟩ := pk.out
          change wpList _ _ _ _ _ Y5.drew
          have hZ0 : RmW _ _ _ _ _ _ _ _ _ _ _ _ _ _ Y5.drew := hY5.out.drewN 1
          clear cb cs cc fc c0 c1 c2 c3 c4 hbb hnb
          generalize Y5.drew = Z at hZ0 ⊢
          have fz := hZ0.row.frozen ii
          have cz := hZ0.row.cell (i := ii) hin
          have hN := hnew.out Z hZ0
          obtain ⟨b5, o5, e5, hb5, t0, _⟩ := hcs.out _ hN.below
          obtain ⟨rfl, rfl⟩ : b = b5 ∧ o = o5 := by simpa using e5
          have t1 := hN.slk.c1
          have t2 := hN.out.c1
          have t3 := hN.row.cell (i := ii) hin
          rw [if_pos (Nat.lt_succ_self ii), ← hsF.out] at t3
          clear hY5 hZ0
          replace hN := Lib.hid hN
          go_wp2_with fail
          go_quiet (fail)
          go_wp2
          have e6 : pp + (x + 1) = ii + 1 := by rw [hI.out]; rfl
          go_roundw
          case rel => exact ⟨x + 1, by omega, by go_num, by rw [e6, ← hsn.out], by rw [e6]; exact hN.out.drewN _⟩
          case measure => simp [intOf]; omega
        · have hx' : x = wn := by omega
          subst hx'
          replace hX := Lib.hid hX
          go_wp2
          go_roundw
          case rel => exact ⟨y + 1, by omega, by go_num, by rw [Nat.succ_mul], by rw [Nat.succ_mul]; exact hX.out⟩
          case measure => simp [intOf]; omega
    · have hy' : y = hn := by omega
      subst hy'
      have hX' : RmW _ _ _ _ _ _ _ _ _ _ _ _ _ (fun j => if j < n then F j else 0) wr := hX.congr fun j hj => by rw [hall.out]
      clear hX
      have hsn : a16 + sm (fun i => 16 * el O i - F i) (y * wn) = F n := by rw [hall.out]; exact haway.out
      have hsb := hsm.out (y * wn) (by rw [hall.out]; exact Nat.le_refl _)
      generalize sm (fun i => 16 * el O i - F i) (y * wn) = al at hsn hsb ⊢
      have k0 : IntKind.i64.wrap (a16 + al) = F n := by rw [← hsn]; exact IntWalk.i64_in _ (by omega)
      have hls := hX'.lies
      have g2 := hX'.out.c2
      have gf := hX'.out.fz 2
      have r0 := hX'.res.c0
      have f0 := hX'.res.fz 0
      have f1 := hX'.res.fz 1
      have f2 := hX'.res.fz 2
      have ts := hX'.out.set2 (.int .i64 (F n))
      have u0 := ts.c0
      have u1 := ts.c1
      have u2 := ts.c2
      have rs : Tri (wr.setCell ⟨bo, 2, none⟩ (.int .i64 (F n))) (w.heap.size + 1 + 1) (.int .i64 0) (.slice none 0 0) (.int .i64 0) := (setCell_block _ _ _ _ _ (by omega)).trans hX'.res
      have y0 := rs.c0
      have y1 := rs.c1
      have y2 := rs.c2
      have z0 := rs.fz 0
      have z1 := rs.fz 1
      have z2 := rs.fz 2
      have tr := rs.set (.int .i64 (K + 1)) (.slice (some ⟨bs, 0, none⟩) n n) (.int .i64 (F n))
      have e0 := tr.c0
      have e1 := tr.c1
      have e2 := tr.c2
      have hY : Below w.heap.size w ((((wr.setCell ⟨bo, 2, none⟩ (.int .i64 (F n))).setCell ⟨w.heap.size + 1 + 1, 0, none⟩ (.int .i64 (K + 1))).setCell ⟨w.heap.size + 1 + 1, 1, none⟩ (.slice (some ⟨bs, 0, none⟩) n n)).setCell ⟨w.heap.size + 1 + 1, 2, none⟩ (.int .i64 (F n))) :=
        (((hX'.below.setCell (p := ⟨bo, 2, none⟩) (by show w.heap.size ≤ bo; omega) _).setCell (p := ⟨w.heap.size + 1 + 1, 0, none⟩) (by show w.heap.size ≤ w.heap.size + 1 + 1; omega) _).setCell (p := ⟨w.heap.size + 1 + 1, 1, none⟩) (by show w.heap.size ≤ w.heap.size + 1 + 1; omega) _).setCell (p := ⟨w.heap.size + 1 + 1, 2, none⟩) (by show w.heap.size ≤ w.heap.size + 1 + 1; omega) _
      have hfin := hends.out wr bs bo hX' _ hY (by rw [setCell_block _ _ _ _ _ (by omega), setCell_block _ _ _ _ _ (by omega), setCell_block _ _ _ _ _ (by omega), setCell_block _ _ _ _ _ (by omega)])
      clear hY ts rs tr hX' hsn
      replace hfin := Lib.hid hfin
      replace hls := Lib.hid hls
      go_wp2
      exact bodyPost_ret (v := .agg #[.int .i64 (K + 1), .slice (some ⟨bs, 0, none⟩) n n, .int .i64 (F n)]) (by simp [results, Tryd.results86, go_sem, e0, e1, e2]) rfl hfin.out

end Go.Proofs.YtnbgjgiknfcdkaaDoor
