/-
  The law's own 'share': what a cell of water gives, each time its sixteenths.
-/
import Derived.Test.YtnbgjgiknfcdkaaDoorZo
namespace Go.Proofs.YtnbgjgiknfcdkaaDoor
open Go.RowKit Go.Deep M
set_option linter.unusedVariables false
set_option linter.unusedSimpArgs false

def tX (x : Int) (k : Nat) : Int := if k = 2 then x + 1 else if k = 4 then x - 1 else x
def tY (y : Int) (k : Nat) : Int := if k = 1 then y - 1 else if k = 3 then y + 1 else y
theorem dst_t {w h x y k : Nat} (hx : x < w) (hy : y < h) (hk : k < 5) :
    ((0 ≤ tX x k ∧ tX x k < w ∧ 0 ≤ tY y k ∧ tY y k < h) ∧ (dst w h (y * w + x) k : Int) = tY y k * w + tX x k ∧ dst w h (y * w + x) k < w * h) ∨
    (¬ (0 ≤ tX x k ∧ tX x k < w ∧ 0 ≤ tY y k ∧ tY y k < h) ∧ dst w h (y * w + x) k = w * h) := by
  rw [dst_xy hx]
  have hk' : k = 0 ∨ k = 1 ∨ k = 2 ∨ k = 3 ∨ k = 4 := by omega
  rcases hk' with rfl | rfl | rfl | rfl | rfl
  · refine .inl ⟨⟨by show 0 ≤ (x : Int); omega, by show (x : Int) < w; omega, by show 0 ≤ (y : Int); omega, by show (y : Int) < h; omega⟩, ?_, cell_lt hx hy⟩
    show ((y * w + x : Nat) : Int) = (y : Int) * w + x
    simp
  · by_cases e : y = 0
    · refine .inr ⟨fun hh => ?_, ?_⟩
      · have h3 : 0 ≤ (y : Int) - 1 := hh.2.2.1
        omega
      · show (if y = 0 then w * h else (y - 1) * w + x) = _
        rw [if_pos e]
    · have e2 : (if y = 0 then w * h else (y - 1) * w + x) = (y - 1) * w + x := if_neg e
      refine .inl ⟨⟨by show 0 ≤ (x : Int); omega, by show (x : Int) < w; omega, by show 0 ≤ (y : Int) - 1; omega, by show (y : Int) - 1 < h; omega⟩, ?_, ?_⟩
      · show ((if y = 0 then w * h else (y - 1) * w + x : Nat) : Int) = ((y : Int) - 1) * w + x
        rw [e2, show ((y : Int) - 1) = ((y - 1 : Nat) : Int) by omega]
        simp
      · show (if y = 0 then w * h else (y - 1) * w + x) < w * h
        rw [e2]
        exact cell_lt hx (by omega)
  · by_cases e : x + 1 = w
    · refine .inr ⟨fun hh => ?_, ?_⟩
      · have h3 : (x : Int) + 1 < w := hh.2.1
        omega
      · show (if x + 1 = w then w * h else y * w + (x + 1)) = _
        rw [if_pos e]
    · have e2 : (if x + 1 = w then w * h else y * w + (x + 1)) = y * w + (x + 1) := if_neg e
      refine .inl ⟨⟨by show 0 ≤ (x : Int) + 1; omega, by show (x : Int) + 1 < w; omega, by show 0 ≤ (y : Int); omega, by show (y : Int) < h; omega⟩, ?_, ?_⟩
      · show ((if x + 1 = w then w * h else y * w + (x + 1) : Nat) : Int) = (y : Int) * w + ((x : Int) + 1)
        rw [e2]
        simp
      · show (if x + 1 = w then w * h else y * w + (x + 1)) < w * h
        rw [e2]
        exact cell_lt (by omega) hy
  · by_cases e : y + 1 = h
    · refine .inr ⟨fun hh => ?_, ?_⟩
      · have h3 : (y : Int) + 1 < h := hh.2.2.2
        omega
      · show (if y + 1 = h then w * h else (y + 1) * w + x) = _
        rw [if_pos e]
    · have e2 : (if y + 1 = h then w * h else (y + 1) * w + x) = (y + 1) * w + x := if_neg e
      refine .inl ⟨⟨by show 0 ≤ (x : Int); omega, by show (x : Int) < w; omega, by show 0 ≤ (y : Int) + 1; omega, by show (y : Int) + 1 < h; omega⟩, ?_, ?_⟩
      · show ((if y + 1 = h then w * h else (y + 1) * w + x : Nat) : Int) = ((y : Int) + 1) * w + x
        rw [e2]
        simp
      · show (if y + 1 = h then w * h else (y + 1) * w + x) < w * h
        rw [e2]
        exact cell_lt hx (by omega)
  · by_cases e : x = 0
    · refine .inr ⟨fun hh => ?_, ?_⟩
      · have h3 : 0 ≤ (x : Int) - 1 := hh.1
        omega
      · show (if x = 0 then w * h else y * w + (x - 1)) = _
        rw [if_pos e]
    · have e2 : (if x = 0 then w * h else y * w + (x - 1)) = y * w + (x - 1) := if_neg e
      refine .inl ⟨⟨by show 0 ≤ (x : Int) - 1; omega, by show (x : Int) - 1 < w; omega, by show 0 ≤ (y : Int); omega, by show (y : Int) < h; omega⟩, ?_, ?_⟩
      · show ((if x = 0 then w * h else y * w + (x - 1) : Nat) : Int) = (y : Int) * w + ((x : Int) - 1)
        rw [e2, show ((x : Int) - 1) = ((x - 1 : Nat) : Int) by omega]
        simp
      · show (if x = 0 then w * h else y * w + (x - 1)) < w * h
        rw [e2]
        exact cell_lt (by omega) hy

/-- The table of neighbours. -/
def tabl (x y : Int) : Array Value := #[.int .i64 x, .int .i64 y, .int .i64 x, .int .i64 (y - 1), .int .i64 (x + 1), .int .i64 y, .int .i64 x, .int .i64 (y + 1), .int .i64 (x - 1), .int .i64 y]
def Tab (X : World) (b : Nat) (x y : Int) : Prop := X.heap[b]? = some (.cells (tabl x y) 94 (0, 0))
theorem Tab.at_ {X : World} {b : Nat} {x y : Int} (h : Tab X b x y) {k : Nat} (hk : k < 5) : X.cell? ⟨b, k * 2, none⟩ = some (.int .i64 (tX x k)) ∧ X.cell? ⟨b, k * 2 + 1, none⟩ = some (.int .i64 (tY y k)) := by
  have hk' : k = 0 ∨ k = 1 ∨ k = 2 ∨ k = 3 ∨ k = 4 := by omega
  rcases hk' with rfl | rfl | rfl | rfl | rfl <;> exact ⟨by simp [World.cell?, show X.heap[b]? = _ from h, tabl, tX], by simp [World.cell?, show X.heap[b]? = _ from h, tabl, tY]⟩
/-- The world of 'share': the boxes of the bay and of the table. -/
structure ShW (w : World) (W H l s : Value) (x y : Int) (X : World) : Prop where
  below : Below w.heap.size w X
  bay : Quad X w.heap.size W H l s
  tab : Tab X (w.heap.size + 1) x y
theorem ShW.drewN {w : World} {W H l s : Value} {x y : Int} {X : World} (h : ShW w W H l s x y X) (n : Nat) : ShW w W H l s x y (X.drewN n) := ⟨below_drewN h.below n, h.bay, h.tab⟩
theorem shW_start (w : World) (W H l s : Value) (x y : Int) (n : Nat) : ShW w W H l s x y (((w.alloc (.cells #[W, H, l, s] 25)).drewN n).alloc (.cells (tabl x y) 94)) := by
  have h1 : Quad ((w.alloc (.cells #[W, H, l, s] 25)).drewN n) w.heap.size W H l s := Quad.new w W H l s
  refine ⟨(below_drewN (ba1 w _) n).alloc (by simp) _, h1.up (ba1 _ _), ?_⟩
  have h2 := World.alloc_heap_new ((w.alloc (.cells #[W, H, l, s] 25)).drewN n) (.cells (tabl x y) 94)
  have h3 : ((w.alloc (.cells #[W, H, l, s] 25)).drewN n).heap.size = w.heap.size + 1 := by
    show (w.alloc (.cells #[W, H, l, s] 25)).heap.size = _
    simp
  rw [h3] at h2
  exact h2

set_option maxRecDepth 100000 in
set_option maxHeartbeats 4000000 in
theorem share_law (B wn hn : Nat) (aL aS aP : Option Addr) (cL cS cP m : Nat) (S c : List Int) (j : Nat) (w : World) (hm : m = wn * hn) (hS : Arr w B aS m S) (hP : Row w B aP c) (hB : B ≤ w.heap.size) (hw6 : 1 ≤ wn ∧ wn ≤ 6) (hh6 : 1 ≤ hn ∧ hn ≤ 6) (h36 : 1 ≤ m ∧ m ≤ 36) (hj : j < m)
    (hcl : c.length = m + 1) (hcb : ∀ i, i ≤ m → 0 ≤ el c i ∧ el c i ≤ 1000000000000) (hsb : ∀ k, k < 5 → 0 ≤ sh S j k ∧ sh S j k ≤ 16) :
    Calls Tryd.prog 55 #[.agg #[.int .i64 (wn : Nat), .int .i64 (hn : Nat), .slice aL m cL, .slice aS m cS], .slice aP (m + 1) cP, .int .i64 (j : Nat)] w fun e w' => e = .returned (.int .i64 (sm (fun k => sh S j k * el c (dst wn hn j k)) 5)) ∧ Below w.heap.size w w' := by
  obtain ⟨x, hx⟩ : ∃ x, x = j % wn := ⟨_, rfl⟩
  obtain ⟨y, hy⟩ : ∃ y, y = j / wn := ⟨_, rfl⟩
  have hxw : x < wn := by rw [hx]; exact Nat.mod_lt _ (by omega)
  have hyh : y < hn := by rw [hy]; exact row_lt (by rw [← hm]; exact hj)
  have hjx : j = y * wn + x := by
    have := (xy wn j hw6.1).1
    rw [← hx, ← hy] at this
    exact this
  have hmt : (j : Int).tmod (wn : Nat) = (x : Nat) := by rw [hx, Int.tmod_eq_emod_of_nonneg (by omega), Int.natCast_emod]
  have hdt : (j : Int).tdiv (wn : Nat) = (y : Nat) := by rw [hy, Int.tdiv_eq_ediv_of_nonneg (by omega), Int.natCast_ediv]
  have hdst : ∀ k, k < 5 → ((0 ≤ tX x k ∧ tX x k < wn ∧ 0 ≤ tY y k ∧ tY y k < hn) ∧ (dst wn hn j k : Int) = tY y k * wn + tX x k ∧ dst wn hn j k < m) ∨ (¬ (0 ≤ tX x k ∧ tX x k < wn ∧ 0 ≤ tY y k ∧ tY y k < hn) ∧ dst wn hn j k = m) := fun k hk => by
    rw [hjx, hm]
    exact dst_t hxw hyh hk
  have hcell : ∀ X, Below w.heap.size w X → ∀ k i, k < 5 → i ≤ m → (∃ b o, aS = some ⟨b, o, none⟩ ∧ X.cell? ⟨b, o + j * 5 + k, none⟩ = some (.int .i64 (sh S j k))) ∧ ∃ b o, aP = some ⟨b, o, none⟩ ∧ X.cell? ⟨b, o + i, none⟩ = some (.int .i64 (el c i)) := fun X hX k i hk hi => by
    obtain ⟨b, o, e, _, hc⟩ := (hS.below (hX.mono hB)).2.2 (by omega)
    obtain ⟨b', o', e', _, hc'⟩ := (hP.below (hX.mono hB)).at_ i (by omega)
    exact ⟨⟨b, o, e, hc j k hj hk⟩, b', o', e', hc'⟩
  have hmul : ∀ k, k < 5 → 0 ≤ sh S j k * el c (dst wn hn j k) ∧ sh S j k * el c (dst wn hn j k) ≤ 16000000000000 := fun k hk => by
    refine mul16 (hsb k hk) (hcb _ ?_)
    rcases hdst k hk with ⟨_, _, h⟩ | ⟨_, h⟩ <;> omega
  have hsm := sm_bound (f := fun k => sh S j k * el c (dst wn hn j k)) 5 (by omega) (fun k hk => by have := hmul k hk; omega)
  have hst := shW_start w (.int .i64 (wn : Nat)) (.int .i64 (hn : Nat)) (.slice aL m cL) (.slice aS m cS) x y
  have t := Quad.new w (.int .i64 (wn : Nat)) (.int .i64 (hn : Nat)) (.slice aL m cL) (.slice aS m cS)
  have g0 := t.c0
  clear t hS hP hcb hsb hcl
  have hwn0 : ¬ wn = 0 := by omega
  have hwnI : (1 : Int) ≤ wn := by omega
  have hx36 : x ≤ 36 := by omega
  have hy36 : y ≤ 36 := by omega
  unfold tabl at hst
  replace hst := Lib.hid hst
  replace hdst := Lib.hid hdst
  replace hcell := Lib.hid hcell
  replace hmul := Lib.hid hmul
  replace hsm := Lib.hid hsm
  replace hx := Lib.hid hx
  replace hy := Lib.hid hy
  replace hjx := Lib.hid hjx
  replace hm := Lib.hid hm
  go_enter Tryd.func55, Tryd.ntmps55
  go_upto_region 1 with fail
  go_quiet (fail)
  have h0 := hst.out nq
  clear hst g0
  replace h0 := Lib.hid h0
  go_wp2
  go_loopw [10, 11] (fun s i X => ∃ k : Nat, k ≤ 5 ∧ i = .int .i64 k ∧ s = .int .i64 (sm (fun k => sh S j k * el c (dst wn hn j k)) k) ∧ ShW w (.int .i64 (wn : Nat)) (.int .i64 (hn : Nat)) (.slice aL m cL) (.slice aS m cS) x y X) (fun _ i _ => 5 - (intOf i).toNat)
  case atStart => exact ⟨0, by omega, rfl, rfl, h0.out⟩
  case round =>
    clear h0
    obtain ⟨k, hk, rfl, rfl, hX⟩ := hrel
    by_cases hlt : k < 5
    · have hkI : (k : Int) < 5 := by omega
      obtain ⟨tc0, tc1⟩ := hX.tab.at_ hlt
      have g0 := hX.bay.c0
      have g1 := hX.bay.c1
      have g2 := hX.bay.c2
      have g3 := hX.bay.c3
      have hd := hdst.out k hlt
      have hdm : dst wn hn j k ≤ m := by rcases hd with ⟨_, _, h⟩ | ⟨_, h⟩ <;> omega
      obtain ⟨⟨b, o, rfl, cs⟩, b', o', rfl, cp⟩ := hcell.out _ hX.below k _ hlt hdm
      have b1 := hmul.out k hlt
      have b2 := hsm.out k hk
      have hsn := sm_succ (fun k => sh S j k * el c (dst wn hn j k)) k
      generalize sm (fun k => sh S j k * el c (dst wn hn j k)) k = s0 at *
      generalize dst wn hn j k = d at *
      generalize sh S j k = v0 at *
      generalize el c d = u0 at *
      obtain ⟨q0, hq0⟩ : ∃ t, t = v0 * u0 := ⟨_, rfl⟩
      rw [← hq0] at b1 hsn
      have wm : IntKind.i64.wrap (v0 * u0) = q0 := by rw [hq0]; exact IntWalk.i64_in _ (by omega)
      have ws : IntKind.i64.wrap (s0 + q0) = s0 + q0 := IntWalk.i64_in _ (by omega)
      clear hq0
      have hjI : (j : Int) < (m : Nat) := by omega
      have hdI : (d : Int) < ((m + 1 : Nat) : Int) := by omega
      generalize tX x k = tx at *
      generalize tY y k = ty at *
      replace hsn := Lib.hid hsn
      replace hX := Lib.hid hX
      by_cases hin : 0 ≤ tx ∧ tx < wn ∧ 0 ≤ ty ∧ ty < hn
      · have hd2 : (d : Int) = ty * wn + tx ∧ d < m := by
          rcases hd with ⟨_, h⟩ | ⟨h, _⟩
          · exact h
          · exact absurd hin h
        obtain ⟨i0, i1, i2, i3⟩ := hin
        have hty : ty * wn ≤ 36 ∧ 0 ≤ ty * wn := by
          have e1 := Int.mul_le_mul (show ty ≤ 6 by omega) (show (wn : Int) ≤ 6 by omega) (by omega) (by omega)
          have e2 := Int.mul_nonneg i2 (show 0 ≤ (wn : Int) by omega)
          omega
        obtain ⟨hd3, hd4⟩ := hd2
        obtain ⟨p0, hp0⟩ : ∃ t, t = ty * wn := ⟨_, rfl⟩
        rw [← hp0] at hd3 hty
        have wp : IntKind.i64.wrap (ty * wn) = p0 := by rw [hp0]; exact IntWalk.i64_in _ (by omega)
        have wd : IntKind.i64.wrap (p0 + tx) = (d : Int) := by rw [hd3]; exact IntWalk.i64_in _ (by omega)
        clear hd hp0 hd3 hty
        have j0 : decide (0 ≤ tx) = true := decide_eq_true i0
        have j1 : decide (tx < (wn : Int)) = true := decide_eq_true i1
        have j2 : decide (0 ≤ ty) = true := decide_eq_true i2
        have j3 : decide (ty < (hn : Int)) = true := decide_eq_true i3
        go_wp2
        go_quiet (fail)
        go_wp2
        go_quiet (fail)
        go_wp2
        go_quiet (fail)
        go_wp2
        go_roundw
        case rel => exact ⟨k + 1, by omega, by go_num, by rw [hsn.out], hX.out.drewN _⟩
        case measure => simp [intOf]; omega
      · have hd2 : d = m := by
          rcases hd with ⟨h, _⟩ | ⟨_, h⟩
          · exact absurd h hin
          · exact h
        clear hd
        subst hd2
        by_cases i0 : 0 ≤ tx
        · have j0 : decide (0 ≤ tx) = true := decide_eq_true i0
          by_cases i1 : tx < wn
          · have j1 : decide (tx < (wn : Int)) = true := decide_eq_true i1
            by_cases i2 : 0 ≤ ty
            · have j2 : decide (0 ≤ ty) = true := decide_eq_true i2
              have i3 : ¬ ty < hn := fun h => hin ⟨i0, i1, i2, h⟩
              have j3 : decide (ty < (hn : Int)) = false := decide_eq_false i3
              clear hin
              go_wp2
              go_quiet (fail)
              go_wp2
              go_quiet (fail)
              go_wp2
              go_roundw
              case rel => exact ⟨k + 1, by omega, by go_num, by rw [hsn.out], hX.out.drewN _⟩
              case measure => simp [intOf]; omega
            · have j2 : decide (0 ≤ ty) = false := decide_eq_false i2
              clear hin
              go_wp2
              go_quiet (fail)
              go_wp2
              go_quiet (fail)
              go_wp2
              go_roundw
              case rel => exact ⟨k + 1, by omega, by go_num, by rw [hsn.out], hX.out.drewN _⟩
              case measure => simp [intOf]; omega
          · have j1 : decide (tx < (wn : Int)) = false := decide_eq_false i1
            clear hin
            go_wp2
            go_quiet (fail)
            go_wp2
            go_quiet (fail)
            go_wp2
            go_roundw
            case rel => exact ⟨k + 1, by omega, by go_num, by rw [hsn.out], hX.out.drewN _⟩
            case measure => simp [intOf]; omega
        · have j0 : decide (0 ≤ tx) = false := decide_eq_false i0
          clear hin
          go_wp2
          go_quiet (fail)
          go_wp2
          go_quiet (fail)
          go_wp2
          go_roundw
          case rel => exact ⟨k + 1, by omega, by go_num, by rw [hsn.out], hX.out.drewN _⟩
          case measure => simp [intOf]; omega
    · have hk' : k = 5 := by omega
      subst hk'
      have hbb := hX.below
      clear hX
      go_wp2
      go_ret
      exact ⟨rfl, hbb⟩
end Go.Proofs.YtnbgjgiknfcdkaaDoor
