/-
  Boxes of states and of deeds; lists of deeds that a call builds; the next deed of Two.
-/
import Derived.Test.YtgonibieeimdoaaD
import Derived.Test.YtgonibieeimdoaaE
import Derived.Test.YtgonibieeimdoaaMathC
namespace Go.Proofs.Ytgonibieeimdoaa
open Go.RowKit Go.Deep M
set_option linter.unusedVariables false
set_option linter.unusedSimpArgs false

/-! ### boxes -/
def Bx4 (w : World) (b : Nat) (l : List Int) : Prop := w.heap[b]? = some (.cells #[.int .i64 (el l 0), .int .i64 (el l 1), .int .i64 (el l 2), .int .i64 (el l 3)] 69 (0, 0))
theorem Bx4.new (w : World) (l : List Int) : Bx4 (w.alloc (.cells #[.int .i64 (el l 0), .int .i64 (el l 1), .int .i64 (el l 2), .int .i64 (el l 3)] 69)) w.heap.size l := heap_alloc_new w _
theorem Bx4.lt {w : World} {b : Nat} {l : List Int} (h : Bx4 w b l) : b < w.heap.size := blk_lt h
theorem Bx4.c0 {w : World} {b : Nat} {l : List Int} (h : Bx4 w b l) : w.cell? ⟨b, 0, none⟩ = some (.int .i64 (el l 0)) := by simp [World.cell?, show w.heap[b]? = _ from h]
theorem Bx4.c1 {w : World} {b : Nat} {l : List Int} (h : Bx4 w b l) : w.cell? ⟨b, 1, none⟩ = some (.int .i64 (el l 1)) := by simp [World.cell?, show w.heap[b]? = _ from h]
theorem Bx4.c2 {w : World} {b : Nat} {l : List Int} (h : Bx4 w b l) : w.cell? ⟨b, 2, none⟩ = some (.int .i64 (el l 2)) := by simp [World.cell?, show w.heap[b]? = _ from h]
theorem Bx4.c3 {w : World} {b : Nat} {l : List Int} (h : Bx4 w b l) : w.cell? ⟨b, 3, none⟩ = some (.int .i64 (el l 3)) := by simp [World.cell?, show w.heap[b]? = _ from h]
theorem Bx4.fz {w : World} {b : Nat} {l : List Int} (h : Bx4 w b l) (k : Nat) : w.frozen? ⟨b, k, none⟩ = false := by simp [World.frozen?, show w.heap[b]? = _ from h]
theorem Bx4.to {w w' : World} {b : Nat} {l : List Int} (h : Bx4 w b l) (hb : w'.heap[b]? = w.heap[b]?) : Bx4 w' b l := hb.trans h
theorem Bx4.up {w w' : World} {b : Nat} {l : List Int} (h : Bx4 w b l) (hb : Below w.heap.size w w') : Bx4 w' b l := h.to (hb.block b h.lt)
theorem Bx4.set {w : World} {b : Nat} {l : List Int} (h : Bx4 w b l) (l' : List Int) :
    Bx4 ((((w.setCell ⟨b, 0, none⟩ (.int .i64 (el l' 0))).setCell ⟨b, 1, none⟩ (.int .i64 (el l' 1))).setCell ⟨b, 2, none⟩ (.int .i64 (el l' 2))).setCell ⟨b, 3, none⟩ (.int .i64 (el l' 3))) b l' := by
  unfold Bx4 at *
  simp [World.setCell, Array.getElem?_modify, h]
def Bx3 (w : World) (b : Nat) (x : Dd) : Prop := w.heap[b]? = some (.cells #[.int .i64 x.d, .int .i64 x.f, .int .i64 x.t] 24 (0, 0))
theorem Bx3.new (w : World) (x : Dd) : Bx3 (w.alloc (.cells #[.int .i64 x.d, .int .i64 x.f, .int .i64 x.t] 24)) w.heap.size x := heap_alloc_new w _
theorem Bx3.lt {w : World} {b : Nat} {x : Dd} (h : Bx3 w b x) : b < w.heap.size := blk_lt h
theorem Bx3.c0 {w : World} {b : Nat} {x : Dd} (h : Bx3 w b x) : w.cell? ⟨b, 0, none⟩ = some (.int .i64 x.d) := by simp [World.cell?, show w.heap[b]? = _ from h]
theorem Bx3.c1 {w : World} {b : Nat} {x : Dd} (h : Bx3 w b x) : w.cell? ⟨b, 1, none⟩ = some (.int .i64 x.f) := by simp [World.cell?, show w.heap[b]? = _ from h]
theorem Bx3.c2 {w : World} {b : Nat} {x : Dd} (h : Bx3 w b x) : w.cell? ⟨b, 2, none⟩ = some (.int .i64 x.t) := by simp [World.cell?, show w.heap[b]? = _ from h]
theorem Bx3.to {w w' : World} {b : Nat} {x : Dd} (h : Bx3 w b x) (hb : w'.heap[b]? = w.heap[b]?) : Bx3 w' b x := hb.trans h
theorem Bx3.up {w w' : World} {b : Nat} {x : Dd} (h : Bx3 w b x) (hb : Below w.heap.size w w') : Bx3 w' b x := h.to (hb.block b h.lt)

/-! ### lists of deeds that a call builds -/
theorem info24 : (Try.prog.info? 24).map (fun i => (i.zero, i.size, i.bytes)) = some (some (.agg #[.int .i64 0, .int .i64 0, .int .i64 0]), 3, 24) := by kernel_rfl
def dc (x : Dd) : List Value := [.int .i64 x.d, .int .i64 x.f, .int .i64 x.t]
def dvals (D : List Dd) : List Value := D.flatMap dc
theorem dvals_nil : dvals [] = [] := rfl
theorem dvals_app (D E : List Dd) : dvals (D ++ E) = dvals D ++ dvals E := by simp [dvals]
theorem dvals_one (x : Dd) : dvals [x] = dc x := by simp [dvals]
theorem dvals_len (D : List Dd) : (dvals D).length = D.length * 3 := by
  induction D with
  | nil => rfl
  | cons x D ih => show (dc x ++ dvals D).length = _; rw [List.length_append, ih, List.length_cons]; simp [dc]; omega
theorem dvals_at (D : List Dd) (i : Nat) (h : i < D.length) : (dvals D)[i * 3]? = some (.int .i64 (dd D i).d) ∧ (dvals D)[i * 3 + 1]? = some (.int .i64 (dd D i).f) ∧ (dvals D)[i * 3 + 2]? = some (.int .i64 (dd D i).t) := by
  induction D generalizing i with
  | nil => exact absurd h (Nat.not_lt_zero _)
  | cons x D ih =>
    have e : dvals (x :: D) = dc x ++ dvals D := rfl
    cases i with
    | zero => rw [e]; exact ⟨rfl, rfl, rfl⟩
    | succ i =>
      have h' : i < D.length := by simpa using h
      have e2 : dd (x :: D) (i + 1) = dd D i := rfl
      have e3 : (dc x).length = 3 := rfl
      rw [e, e2]
      obtain ⟨h1, h2, h3⟩ := ih i h'
      refine ⟨?_, ?_, ?_⟩
      · rw [List.getElem?_append_right (by rw [e3]; omega), e3, show (i + 1) * 3 - 3 = i * 3 by omega]; exact h1
      · rw [List.getElem?_append_right (by rw [e3]; omega), e3, show (i + 1) * 3 + 1 - 3 = i * 3 + 1 by omega]; exact h2
      · rw [List.getElem?_append_right (by rw [e3]; omega), e3, show (i + 1) * 3 + 2 - 3 = i * 3 + 2 by omega]; exact h3
theorem dvals_cell {D : List Dd} : ∀ u ∈ dvals D, u.oneCell' = true := fun u hu => by
  obtain ⟨x, _, hx⟩ := List.mem_flatMap.1 hu
  simp [dc] at hx
  rcases hx with rfl | rfl | rfl <;> rfl
/-- What a call says that hands back a new list of deeds. -/
def NewD (w : World) (D : List Dd) (e : Ending) (w' : World) : Prop := ∃ v, e = .returned v ∧ Below w.heap.size w w' ∧ w'.ownsRow w.heap.size 24 3 v D.length (dvals D)
theorem own_dls {w : World} {base : Nat} {v : Value} {D : List Dd} (h : w.ownsRow base 24 3 v D.length (dvals D)) (hm : D.length ≤ 9223372036854775807) :
    ∃ A c, v = .slice A D.length c ∧ Dls w w.heap.size A D := by
  rcases h.2 with ⟨hv, h0⟩ | ⟨g, cap, cur, hv, hge, hh, hcap, hmax, hsz, htake⟩
  · exact ⟨none, 0, by rw [hv, h0], hm, fun hn => by omega⟩
  · refine ⟨some ⟨g, 0, none⟩, cap, hv, hm, fun _ => ⟨g, 0, rfl, blk_lt hh, fun i hi => ?_⟩⟩
    obtain ⟨h1, h2, h3⟩ := dvals_at D i hi
    have key : ∀ k v, k < D.length * 3 → (dvals D)[k]? = some v → w.cell? ⟨g, k, none⟩ = some v := fun k v hk hv => by
      rw [← htake, List.getElem?_take_of_lt hk] at hv
      simp [World.cell?, hh]; rw [← hv]; simp
    refine ⟨?_, ?_, ?_⟩
    · rw [Nat.zero_add]; exact key _ _ (by omega) h1
    · rw [Nat.zero_add]; exact key _ _ (by omega) h2
    · rw [Nat.zero_add]; exact key _ _ (by omega) h3
theorem own_to {w w' : World} {base n : Nat} {t : TypeId} {k : Nat} {v : Value} {xs : List Value} (h : w.ownsRow base t k v n xs) (hb : ∀ g, v.ownBlock = some g → w'.heap[g]? = w.heap[g]?) : w'.ownsRow base t k v n xs := by
  rcases h with ⟨h1, h2 | ⟨g, cap, cur, rfl, hge, hh, h3⟩⟩
  · exact ⟨h1, .inl h2⟩
  · exact ⟨h1, .inr ⟨g, cap, cur, rfl, hge, (hb g rfl).trans hh, h3⟩⟩
theorem own_up {w w' : World} {base n : Nat} {t : TypeId} {k : Nat} {v : Value} {xs : List Value} (h : w.ownsRow base t k v n xs) (hb : Below w.heap.size w w') : w'.ownsRow base t k v n xs := own_to h fun g hg => hb.block g (h.lt g hg).2
theorem own_mono' {w : World} {base base' n : Nat} {t : TypeId} {k : Nat} {v : Value} {xs : List Value} (h : w.ownsRow base t k v n xs) (hb : base' ≤ base) : w.ownsRow base' t k v n xs := by
  rcases h with ⟨h1, h2 | ⟨g, cap, cur, hv, hge, h3⟩⟩
  · exact ⟨h1, .inl h2⟩
  · exact ⟨h1, .inr ⟨g, cap, cur, hv, by omega, h3⟩⟩
theorem own_ne {w : World} {base n b : Nat} {v : Value} {xs : List Value} {l : List Int} (h : w.ownsRow base 24 3 v n xs) (hb : Bx4 w b l) : v.ownBlock ≠ some b := fun e => by
  rcases h.2 with ⟨rfl, _⟩ | ⟨g, cap, cur, rfl, hge, hh, h3⟩
  · simp [Value.ownBlock] at e
  · simp [Value.ownBlock] at e
    subst e
    unfold Bx4 at hb
    rw [hb] at hh
    injection hh with hh
    injection hh with h1 h2
    exact absurd h2 (by decide)
def vlen : Value → Nat | .slice _ n _ => n | _ => 0
theorem own_vlen {w : World} {base n : Nat} {t : TypeId} {k : Nat} {v : Value} {xs : List Value} (h : w.ownsRow base t k v n xs) : vlen v = n := by
  rcases h.2 with ⟨rfl, h0⟩ | ⟨g, cap, cur, rfl, _⟩
  · exact h0.symm
  · rfl
theorem setCell4_other {X : World} {b g : Nat} (v0 v1 v2 v3 : Value) (h : b ≠ g) : ((((X.setCell ⟨b, 0, none⟩ v0).setCell ⟨b, 1, none⟩ v1).setCell ⟨b, 2, none⟩ v2).setCell ⟨b, 3, none⟩ v3).heap[g]? = X.heap[g]? := by
  simp [World.setCell, Array.getElem?_modify, h]
theorem setCell4_size {X : World} {b : Nat} (v0 v1 v2 v3 : Value) : ((((X.setCell ⟨b, 0, none⟩ v0).setCell ⟨b, 1, none⟩ v1).setCell ⟨b, 2, none⟩ v2).setCell ⟨b, 3, none⟩ v3).heap.size = X.heap.size := by
  simp [World.setCell]
theorem setCell4_below {B : Nat} {w X : World} {b : Nat} (h : Below B w X) (hb : B ≤ b) (v0 v1 v2 v3 : Value) : Below B w ((((X.setCell ⟨b, 0, none⟩ v0).setCell ⟨b, 1, none⟩ v1).setCell ⟨b, 2, none⟩ v2).setCell ⟨b, 3, none⟩ v3) :=
  (((h.setCell hb _).setCell hb _).setCell hb _).setCell hb _

theorem setCell3_below {B : Nat} {w X : World} {b : Nat} (h : Below B w X) (hb : B ≤ b) (v0 v1 v2 : Value) : Below B w (((X.setCell ⟨b, 0, none⟩ v0).setCell ⟨b, 1, none⟩ v1).setCell ⟨b, 2, none⟩ v2) :=
  ((h.setCell hb _).setCell hb _).setCell hb _

/-! ### the next deed of Two -/
set_option maxRecDepth 100000 in
set_option maxHeartbeats 2000000 in
theorem nextOfTwo_any (B : Nat) (A : Option Addr) (c : Nat) (t l : List Int) (w : World) (h : Row w B A t) (hB : B ≤ w.heap.size) (h2 : t.length = 2) :
    Calls Try.prog 102 #[.slice A t.length c, stL l] w fun e w' => e = .returned (ddV (nx t l)) ∧ Below w.heap.size w w' := by
  obtain ⟨b, o, rfl, hb, hc⟩ := h.at_ 1 (by omega)
  have hb' : b < w.heap.size := by omega
  have hi : (1 : Int) < (t.length : Int) := by omega
  have hbel : ∀ a b' c' d' : Int, Below w.heap.size w ((w.alloc (.cells #[.int .i64 (el l 0), .int .i64 (el l 1), .int .i64 (el l 2), .int .i64 (el l 3)] 69)).alloc (.cells #[.int .i64 b', .int .i64 c', .int .i64 d'] 24)) := fun a b' c' d' => ((Below.refl _ _).alloc (Nat.le_refl _) _).alloc (by simp) _
  have hcw := ((hbel 0 0 0 0).cell (p := ⟨b, o + 1, none⟩) hb').trans hc
  have hbs : b ≠ w.heap.size := by omega
  unfold stL stV
  unfold nx ddV
  by_cases e1 : el l 1 = el t 1
  · rw [if_pos e1]
    have e1' : (el l 1 == el t 1) = true := by simpa using e1
    generalize el l 1 = s1 at *
    generalize el t 1 = t1 at *
    replace e1 := Lib.hid e1
    go_enter Try.func102, Try.ntmps102
    go_wp2_with fail
    go_quiet (fail)
    go_wp2
    exact bodyPost_ret (v := .agg #[.int .i64 2, .int .i64 0, .int .i64 1]) (by simp [results, Try.results102, go_sem]) rfl ⟨rfl, setCell3_below (below_drewN (hbel 0 0 0 0) _) (Nat.le_succ _) _ _ _⟩
  · rw [if_neg e1]
    have e1' : (el l 1 == el t 1) = false := by simpa using e1
    by_cases e0 : el l 0 = 0
    · rw [if_pos e0]
      have e0' : (el l 0 == 0) = true := by simpa using e0
      generalize el l 1 = s1 at *
      generalize el t 1 = t1 at *
      generalize el l 0 = s0 at *
      replace e1 := Lib.hid e1
      replace e0 := Lib.hid e0
      go_enter Try.func102, Try.ntmps102
      go_wp2_with fail
      go_quiet (fail)
      go_wp2
      exact bodyPost_ret (v := .agg #[.int .i64 1, .int .i64 0, .int .i64 0]) (by simp [results, Try.results102, go_sem]) rfl ⟨rfl, setCell3_below (below_drewN (hbel 0 0 0 0) _) (Nat.le_succ _) _ _ _⟩
    · rw [if_neg e0]
      have e0' : (el l 0 == 0) = false := by simpa using e0
      generalize el l 1 = s1 at *
      generalize el t 1 = t1 at *
      generalize el l 0 = s0 at *
      replace e1 := Lib.hid e1
      replace e0 := Lib.hid e0
      go_enter Try.func102, Try.ntmps102
      go_wp2_with fail
      go_quiet (fail)
      go_wp2
      exact bodyPost_ret (v := .agg #[.int .i64 3, .int .i64 0, .int .i64 1]) (by simp [results, Try.results102, go_sem]) rfl ⟨rfl, setCell3_below (below_drewN (hbel 0 0 0 0) _) (Nat.le_succ _) _ _ _⟩
end Go.Proofs.Ytgonibieeimdoaa
