/-
  The window of an opening: the program's function.
-/
import Derived.Test.YtlnpnfjdcnijhaaAb
namespace Go.Proofs.Ytlnpnfjdcnijhaa
open Go.RowKit Go.Deep M
set_option linter.unusedVariables false
set_option linter.unusedSimpArgs false

/-! ### lists of integers that a call builds -/
theorem info3 : (Try.prog.info? 3).map (fun i => (i.zero, i.size, i.bytes)) = some (some (.int .i64 0), 1, 8) := by kernel_rfl
/-- The values of a list. -/
def vals (l : List Int) : List Value := l.map (Value.int .i64)
theorem vals_len (l : List Int) : (vals l).length = l.length := by simp [vals]
theorem vals_get (l : List Int) (j : Nat) (hj : j < l.length) : (vals l)[j]? = some (.int .i64 (el l j)) := by simp [vals, hj, el_eq l j hj]
theorem vals_app (l m : List Int) : vals (l ++ m) = vals l ++ vals m := by simp [vals]
/-- What is owned, read. -/
theorem own_row {w : World} {base : Nat} {v : Value} {l : List Int} (h : w.ownsRow base 3 1 v l.length (vals l)) (hm : l.length ≤ 9223372036854775807) :
    ∃ A c, v = .slice A l.length c ∧ Row w w.heap.size A l := by
  rcases h.2 with ⟨hv, h0⟩ | ⟨g, cap, cur, hv, hge, hh, hcap, hmax, hsz, htake⟩
  · exact ⟨none, 0, by rw [hv, h0], hm, fun hn => by omega⟩
  · refine ⟨some ⟨g, 0, none⟩, cap, hv, hm, fun _ => ⟨g, 0, rfl, blk_lt hh, fun i hi => ?_⟩⟩
    have h1 : (cur.toList.take (l.length * 1))[i]? = (vals l)[i]? := by rw [htake]
    rw [Nat.mul_one, List.getElem?_take, if_pos hi] at h1
    rw [Array.getElem?_toList] at h1
    rw [Nat.zero_add]
    simp [World.cell?, hh, h1, vals_get l i hi]
theorem below_grown {w w' : World} {B : Nat} {row : Option Nat} (hg : w.grownBy w' row) (hB : B ≤ w.heap.size) (h : ∀ k, row = some k → B ≤ k) : Below B w w' := by
  have := (Below.refl B w).grown hg hB h
  exact this
theorem own_to {w w' : World} {base n : Nat} {t : TypeId} {k : Nat} {v : Value} {xs : List Value} (h : w.ownsRow base t k v n xs) (hb : ∀ g, v.ownBlock = some g → w'.heap[g]? = w.heap[g]?) : w'.ownsRow base t k v n xs := by
  rcases h with ⟨h1, h2 | ⟨g, cap, cur, rfl, hge, hh, h3⟩⟩
  · exact ⟨h1, .inl h2⟩
  · exact ⟨h1, .inr ⟨g, cap, cur, rfl, hge, (hb g rfl).trans hh, h3⟩⟩
theorem own_up {w w' : World} {base n : Nat} {t : TypeId} {k : Nat} {v : Value} {xs : List Value} (h : w.ownsRow base t k v n xs) (hb : Below w.heap.size w w') : w'.ownsRow base t k v n xs := own_to h fun g hg => hb.block g (h.lt g hg).2

namespace M
/-- The open hours of the first ones. -/
def hrsL (f : Nat → Bool) : Nat → List Int
  | 0 => []
  | k + 1 => if f k = true then hrsL f k ++ [(k : Int)] else hrsL f k
theorem hrsL_yes {f : Nat → Bool} {k : Nat} (h : f k = true) : hrsL f (k + 1) = hrsL f k ++ [(k : Int)] := by show (if f k = true then _ else _) = _; rw [if_pos h]
theorem hrsL_no {f : Nat → Bool} {k : Nat} (h : f k = false) : hrsL f (k + 1) = hrsL f k := by show (if f k = true then _ else _) = _; rw [if_neg (by rw [h]; simp)]
theorem hrsL_le (f : Nat → Bool) (k : Nat) : (hrsL f k).length ≤ k := by
  induction k with
  | zero => exact Nat.le_refl _
  | succ k ih =>
    cases h : f k with
    | true => rw [hrsL_yes h]; simp; exact ih
    | false => rw [hrsL_no h]; omega
theorem hrsL_congr {f g : Nat → Bool} {k : Nat} (h : ∀ j, j < k → f j = g j) : hrsL f k = hrsL g k := by
  induction k with
  | zero => rfl
  | succ k ih =>
    have h1 := ih fun j hj => h j (by omega)
    have h2 := h k (by omega)
    cases hf : f k with
    | true => rw [hrsL_yes hf, hrsL_yes (h2 ▸ hf), h1]
    | false => rw [hrsL_no hf, hrsL_no (h2 ▸ hf), h1]
end M

/-- The world in which window runs. -/
structure WdW (w : World) (p : Nat) (F : Value) (f : Nat → Bool) (k : Nat) (v : Value) (X : World) : Prop where
  below : Below w.heap.size w X
  b1 : BxO X w.heap.size p F
  b2 : BxW X (w.heap.size + 1) 0 none 0 0
  own : X.ownsRow (w.heap.size + 1 + 1) 3 1 v (hrsL f k).length (vals (hrsL f k))
theorem WdW.up {w X Y : World} {p : Nat} {F : Value} {f : Nat → Bool} {k : Nat} {v : Value} (h : WdW w p F f k v X) (hb : Below X.heap.size X Y) : WdW w p F f k v Y :=
  ⟨h.below.trans (hb.mono h.below.size), h.b1.up hb, h.b2.up hb, own_up h.own hb⟩
theorem WdW.app {w X Y : World} {p : Nat} {F : Value} {f : Nat → Bool} {k : Nat} {v v' : Value} (h : WdW w p F f k v X) (hf : f k = true) (hown : Y.ownsRow (w.heap.size + 1 + 1) 3 1 v' ((hrsL f k).length + 1) (vals (hrsL f k) ++ [.int .i64 (k : Nat)])) (hgrow : X.grownBy Y v.ownBlock) : WdW w p F f (k + 1) v' Y := by
  have hge : ∀ b, v.ownBlock = some b → w.heap.size + 1 + 1 ≤ b := fun b hb => (h.own.lt b hb).1
  refine ⟨h.below.trans (below_grown hgrow h.below.size fun b hb => by have := hge b hb; omega), (hgrow.block _ h.b1.lt fun e => by have := hge _ e.symm; omega).trans h.b1, h.b2.to (hgrow.block _ h.b2.lt fun e => by have := hge _ e.symm; omega), ?_⟩
  rw [hrsL_yes hf, vals_app]
  have : (hrsL f k ++ [(k : Int)]).length = (hrsL f k).length + 1 := by simp
  rw [this]; exact hown
/-- What window hands back. -/
def NewWn (w : World) (p : Nat) (l : List Int) (e : Ending) (w' : World) : Prop := ∃ A c, e = .returned (wnV p A l.length c) ∧ Below w.heap.size w w' ∧ Row w' w'.heap.size A l ∧ ∀ a, A = some a → w.heap.size ≤ a.block
theorem one_new (w : World) (z : Int) : ∀ j u, [Value.int .i64 z][j]? = some u → (w.alloc (.cells #[.int .i64 z] 3)).cell? ((⟨w.heap.size, 0, none⟩ : Addr).add j) = some u := by
  intro j u hj
  match j, hj with
  | 0, hj => simp at hj; subst hj; simp [Addr.add]
  | j + 1, hj => simp at hj

set_option maxRecDepth 100000 in
set_option maxHeartbeats 4000000 in
theorem window_any (B : Nat) (p : Nat) (F : Value) (f : Int → Bool) (w : World) (hO : OpnS w B F f) (hB : B ≤ w.heap.size) (hp : p ≤ 1000000) :
    Calls Try.prog 73 #[.agg #[.int .i64 p, F]] w (NewWn w p (hrsL (fun j => f (j : Nat)) p)) := by
  obtain ⟨i3, ji, jz0, jz1, jz2⟩ := info_parts info3
  replace ji := Lib.hid ji
  replace jz0 := Lib.hid jz0
  replace jz1 := Lib.hid jz1
  replace jz2 := Lib.hid jz2
  obtain ⟨g, caps, rfl, hen, hcall⟩ := hO
  have hx := BxO.new w p (.func (Fn.func g) #[] caps)
  have hb1 := ba1 w (.cells #[.int .i64 p, .func (Fn.func g) #[] caps] 74)
  have hb2 := ba1 (w.alloc (.cells #[.int .i64 p, .func (Fn.func g) #[] caps] 74)) (.cells #[.int .i64 0, .slice none 0 0] 24)
  have hz := BxW.new (w.alloc (.cells #[.int .i64 p, .func (Fn.func g) #[] caps] 74)) 0 none 0 0
  rw [show (w.alloc (.cells #[.int .i64 p, .func (Fn.func g) #[] caps] 74)).heap.size = w.heap.size + 1 by simp] at hz
  have hW : WdW w p (.func (Fn.func g) #[] caps) (fun j => f (j : Nat)) 0 (.slice none 0 0) ((w.alloc (.cells #[.int .i64 p, .func (Fn.func g) #[] caps] 74)).alloc (.cells #[.int .i64 0, .slice none 0 0] 24)) :=
    ⟨hb1.trans (hb2.mono hb1.size), hx.up hb2, hz, World.ownsRow_nil _ _ _ _⟩
  have c0 := hW.b1.c0
  replace hW := Lib.hid hW
  replace hx := Lib.hid hx
  replace hz := Lib.hid hz
  replace hb1 := Lib.hid hb1
  replace hb2 := Lib.hid hb2
  replace hcall := Lib.hid hcall
  go_enter Try.func73, Try.ntmps73
  go_wp2
  clear c0
  go_loopw [3, 7] (fun v i X => ∃ k : Nat, k ≤ p ∧ i = .int .i64 (k : Nat) ∧ WdW w p (.func (Fn.func g) #[] caps) (fun j => f (j : Nat)) k v X) (fun _ i _ => p - (intOf i).toNat)
  case atStart => exact ⟨0, Nat.zero_le _, rfl, hW.out⟩
  case round =>
    obtain ⟨k, hk, rfl, hX⟩ := hrel
    have c0 := hX.b1.c0
    have c1 := hX.b1.c1
    by_cases hlt : k < p
    · have hc := hcall.out wr (hX.below.mono hB) (Nat.le_trans hB hX.below.size) (k : Nat) (by omega)
      have hl0 := hrsL_le (fun j => f (j : Nat)) k
      cases hq : f (k : Nat) with
      | false =>
        rw [hq] at hc
        have hno := hrsL_no (f := fun j => f (j : Nat)) (k := k) hq
        replace hc := Lib.hid hc
        replace hX := Lib.hid hX
        replace hq := Lib.hid hq
        replace hno := Lib.hid hno
        go_wp2_with fail
        refine hc.out.mono ?_
        rintro e w1 ⟨rfl, hbx⟩
        have hX1 := hX.out.up hbx
        have hX2 : WdW w p (.func (Fn.func g) #[] caps) (fun j => f (j : Nat)) (k + 1) u3 w1 := ⟨hX1.below, hX1.b1, hX1.b2, by rw [hno.out]; exact hX1.own⟩
        replace hX1 := Lib.hid hX1
        replace hX2 := Lib.hid hX2
        replace hbx := Lib.hid hbx
        go_wp2
        go_roundw
        case rel => exact ⟨k + 1, by omega, by go_num, hX2.out⟩
        case measure => simp [intOf]; omega
      | true =>
        rw [hq] at hc
        replace hc := Lib.hid hc
        replace hX := Lib.hid hX
        have hq' := Lib.hid hq
        clear hq
        go_wp2_with fail
        refine hc.out.mono ?_
        rintro e w1 ⟨rfl, hbx⟩
        have hX1 := hX.out.up hbx
        have hX2 := hX1.up (ba1 w1 (.cells #[.int .i64 (k : Nat)] 3))
        have hne := one_new w1 (k : Nat)
        have hsz := hX1.b2.lt
        replace hX1 := Lib.hid hX1
        replace hX2 := Lib.hid hX2
        replace hbx := Lib.hid hbx
        replace hne := Lib.hid hne
        go_wp2_with (at_builtin
                     refine wpList_append_own _ rfl (.tmp 14) (.tmp 16) 22 rfl (w.heap.size + 1 + 1) 3 i3 (.int .i64 0) 1 8 Try.underlying22 ji.out jz0.out jz1.out jz2.out rfl (by decide) _ _ _ rfl hX2.out.own ⟨w1.heap.size, 0, none⟩ 1 1 [.int .i64 (k : Nat)] rfl rfl hne.out (fun u hu => by cases List.mem_singleton.1 hu; rfl) (by unfold maxLen; omega) (by omega) (by simp; omega) ?_
                     intro v' w2 hown' hgrow _
                     have hX3 := Lib.hid (hX2.out.app hq'.out hown' hgrow))
        go_roundw
        case rel => exact ⟨k + 1, by omega, by go_num, hX3.out⟩
        case measure => simp [intOf]; omega
    · have hk' : k = p := by omega
      subst hk'
      have hl0 := hrsL_le (fun j => f (j : Nat)) k
      obtain ⟨A0, c0', hvA, _⟩ := own_row hX.own (by omega)
      subst hvA
      obtain ⟨l, hl⟩ : ∃ l, l = hrsL (fun j => f (j : Nat)) k := ⟨_, rfl⟩
      have hXo := hX.own
      rw [← hl] at hXo hl0 ⊢
      obtain ⟨Y, hY⟩ : ∃ Y, Y = (wr.setCell ⟨w.heap.size + 1, 0, none⟩ (.int .i64 (k : Nat))).setCell ⟨w.heap.size + 1, 1, none⟩ (.slice A0 l.length c0') := ⟨_, rfl⟩
      have hown : Y.ownsRow (w.heap.size + 1 + 1) 3 1 (.slice A0 l.length c0') l.length (vals l) := by
        rw [hY]
        exact own_to hXo fun b hb => set2_far (by have := (hXo.lt b hb).1; omega) _ _
      obtain ⟨A1, c1', hvA1, hrow⟩ := own_row hown (by omega)
      injection hvA1 with e1 e2 e3
      subst e1 e3
      have hbe : Below w.heap.size w Y := by rw [hY]; exact set2_below hX.below (Nat.le_succ _) _ _
      have z0 := hX.b2.c0
      have z1 := hX.b2.c1
      have z2 := hX.b2.fz 0
      have z3 := hX.b2.fz 1
      have hb2 := hX.b2.lt
      have y0 : ((wr.setCell ⟨w.heap.size + 1, 0, none⟩ (.int .i64 (k : Nat))).setCell ⟨w.heap.size + 1, 1, none⟩ (.slice A0 l.length c0')).cell? ⟨w.heap.size + 1, 0, none⟩ = some (.int .i64 (k : Nat)) := by
        simp [World.cell?, World.setCell, Array.getElem?_modify, show wr.heap[w.heap.size + 1]? = _ from hX.b2]
      have y1 : ((wr.setCell ⟨w.heap.size + 1, 0, none⟩ (.int .i64 (k : Nat))).setCell ⟨w.heap.size + 1, 1, none⟩ (.slice A0 l.length c0')).cell? ⟨w.heap.size + 1, 1, none⟩ = some (.slice A0 l.length c0') := by
        simp [World.cell?, World.setCell, Array.getElem?_modify, show wr.heap[w.heap.size + 1]? = _ from hX.b2]
      have hfr : ∀ a, A0 = some a → w.heap.size ≤ a.block := fun a ha => by
        have := (hXo.lt a.block (by rw [ha]; rfl)).1
        omega
      have hYh := Lib.hid hY
      have hlh := Lib.hid hl
      clear hY hl hXo
      replace hX := Lib.hid hX
      replace hown := Lib.hid hown
      replace hrow := Lib.hid hrow
      replace hbe := Lib.hid hbe
      go_wp2
      refine bodyPost_ret (v := .agg #[.int .i64 (k : Nat), .slice A0 l.length c0']) (by simp [results, Try.results73, go_sem, y0, y1]) rfl ?_
      rw [← hYh.out, ← hlh.out]
      exact ⟨A0, c0', rfl, hbe.out, hrow.out, hfr⟩
end Go.Proofs.Ytlnpnfjdcnijhaa
