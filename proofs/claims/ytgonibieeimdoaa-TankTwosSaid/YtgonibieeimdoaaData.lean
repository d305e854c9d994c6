/-
  What lists of integers and of deeds are in memory: how each is kept while new memory is made; lists that a call makes.
-/
import Derived.Test.YtgonibieeimdoaaChecked
import Derived.Test.YtgonibieeimdoaaMath
import Derived.WalkKit
import Derived.WalkSpells
import Derived.Handy
import Derived.Lib.Hide
import Derived.Deep.Draws
import Derived.Deep.QuietTactic
import Derived.BigQuiet
import Derived.BigRegion
import Derived.Deep.LoopGhost
import Derived.Deep.RegionWith
import Derived.Deep.RegionHeld3
import Derived.Deep.OwnRows
import Derived.Deep.Slices
import Derived.ChangeKeysEq
import Derived.Deep.AppendLies
import Derived.Deep.RegionHeldLaw
import Derived.Maps.AppendAt
namespace Go.Proofs.Ytgonibieeimdoaa
set_option linter.unusedSimpArgs false
open Go.RowKit Go.Deep M


/-- A slice of integers that reads as 'l'; all its cells lie below block B. -/
def Row (w : World) (B : Nat) (A : Option Addr) (l : List Int) : Prop :=
  l.length ≤ 9223372036854775807 ∧ (0 < l.length → ∃ b o, A = some ⟨b, o, none⟩ ∧ b < B ∧ ∀ i, i < l.length → w.cell? ⟨b, o + i, none⟩ = some (.int .i64 (el l i)))

/-- A slice of deeds. -/
def Dls (w : World) (B : Nat) (A : Option Addr) (D : List Dd) : Prop :=
  D.length ≤ 9223372036854775807 ∧ (0 < D.length → ∃ b o, A = some ⟨b, o, none⟩ ∧ b < B ∧ ∀ i, i < D.length → w.cell? ⟨b, o + i * 3, none⟩ = some (.int .i64 (dd D i).d) ∧ w.cell? ⟨b, o + i * 3 + 1, none⟩ = some (.int .i64 (dd D i).f) ∧ w.cell? ⟨b, o + i * 3 + 2, none⟩ = some (.int .i64 (dd D i).t))

theorem Row.keep {w w' : World} {B : Nat} {A : Option Addr} {l : List Int} (h : Row w B A l) (hk : ∀ p : Addr, p.block < B → w'.cell? p = w.cell? p) : Row w' B A l :=
  ⟨h.1, fun hn => by
    obtain ⟨b, o, e, hb, hc⟩ := h.2 hn
    exact ⟨b, o, e, hb, fun i hi => (hk _ hb).trans (hc i hi)⟩⟩
theorem Row.below {w w' : World} {B : Nat} {A : Option Addr} {l : List Int} (h : Row w B A l) (hb : Below B w w') : Row w' B A l := h.keep fun _ hp => hb.cell hp
theorem Row.more {w : World} {B B' : Nat} {A : Option Addr} {l : List Int} (h : Row w B A l) (hB : B ≤ B') : Row w B' A l :=
  ⟨h.1, fun hn => by
    obtain ⟨b, o, e, hb, hc⟩ := h.2 hn
    exact ⟨b, o, e, by omega, hc⟩⟩
theorem Row.at_ {w : World} {B : Nat} {A : Option Addr} {l : List Int} (h : Row w B A l) (k : Nat) (hk : k < l.length) : ∃ b o, A = some ⟨b, o, none⟩ ∧ b < B ∧ w.cell? ⟨b, o + k, none⟩ = some (.int .i64 (el l k)) := by
  obtain ⟨b, o, e, hb, hc⟩ := h.2 (by omega)
  exact ⟨b, o, e, hb, hc k hk⟩

theorem Dls.keep {w w' : World} {B : Nat} {A : Option Addr} {D : List Dd} (h : Dls w B A D) (hk : ∀ p : Addr, p.block < B → w'.cell? p = w.cell? p) : Dls w' B A D :=
  ⟨h.1, fun hn => by
    obtain ⟨b, o, e, hb, hc⟩ := h.2 hn
    exact ⟨b, o, e, hb, fun i hi => ⟨(hk _ hb).trans (hc i hi).1, (hk _ hb).trans (hc i hi).2.1, (hk _ hb).trans (hc i hi).2.2⟩⟩⟩
theorem Dls.below {w w' : World} {B : Nat} {A : Option Addr} {D : List Dd} (h : Dls w B A D) (hb : Below B w w') : Dls w' B A D := h.keep fun _ hp => hb.cell hp
theorem Dls.more {w : World} {B B' : Nat} {A : Option Addr} {D : List Dd} (h : Dls w B A D) (hB : B ≤ B') : Dls w B' A D :=
  ⟨h.1, fun hn => by
    obtain ⟨b, o, e, hb, hc⟩ := h.2 hn
    exact ⟨b, o, e, by omega, hc⟩⟩
theorem Dls.at_ {w : World} {B : Nat} {A : Option Addr} {D : List Dd} (h : Dls w B A D) (k : Nat) (hk : k < D.length) : ∃ b o, A = some ⟨b, o, none⟩ ∧ b < B ∧ w.cell? ⟨b, o + k * 3, none⟩ = some (.int .i64 (dd D k).d) ∧ w.cell? ⟨b, o + k * 3 + 1, none⟩ = some (.int .i64 (dd D k).f) ∧ w.cell? ⟨b, o + k * 3 + 2, none⟩ = some (.int .i64 (dd D k).t) := by
  obtain ⟨b, o, e, hb, hc⟩ := h.2 (by omega)
  exact ⟨b, o, e, hb, hc k hk⟩
theorem row_nil (w : World) (B : Nat) (A : Option Addr) : Row w B A [] := ⟨by simp, fun h => absurd h (by simp)⟩
theorem dls_nil (w : World) (B : Nat) (A : Option Addr) : Dls w B A [] := ⟨by simp, fun h => absurd h (by simp)⟩
theorem Row.up {w w' : World} {A : Option Addr} {l : List Int} (h : Row w w.heap.size A l) (hb : Below w.heap.size w w') : Row w' w'.heap.size A l := (h.below hb).more hb.size
theorem Dls.up {w w' : World} {A : Option Addr} {D : List Dd} (h : Dls w w.heap.size A D) (hb : Below w.heap.size w w') : Dls w' w'.heap.size A D := (h.below hb).more hb.size

theorem below_drewN {B : Nat} {a w : World} (h : Below B a w) (n : Nat) : Below B a (w.drewN n) := ⟨h.os, h.tape, h.output, h.size, h.block⟩
theorem ret_int {k : IntKind} {a b : Int} (h : a = b) : Ending.returned (.int k a) = .returned (.int k b) := by rw [h]
theorem ret_bool {a b : Bool} (h : a = b) : Ending.returned (.bool a) = .returned (.bool b) := by rw [h]

theorem blk_lt {w : World} {b : Nat} {o : Obj} (h : w.heap[b]? = some o) : b < w.heap.size := by
  rcases Nat.lt_or_ge b w.heap.size with hlt | hge
  · exact hlt
  · rw [Array.getElem?_eq_none hge] at h; cases h


theorem info3 : (Try.prog.info? 3).map (fun i => (i.zero, i.size, i.bytes)) = some (some (.int .i64 0), 1, 8) := by kernel_rfl

/-- A list of integers in a block of its own, from block lo on. -/
def BRow (w : World) (lo : Nat) (A : Option Addr) (l : List Int) : Prop :=
  l.length ≤ 9223372036854775807 ∧ ∃ (b : Nat) (cs : Array Value), A = some ⟨b, 0, none⟩ ∧ lo ≤ b ∧ w.heap[b]? = some (.cells cs 3 (0, 0)) ∧ ∀ i, i < l.length → cs[i]? = some (.int .i64 (el l i))
theorem BRow.row {w : World} {lo : Nat} {A : Option Addr} {l : List Int} (h : BRow w lo A l) : Row w w.heap.size A l := by
  obtain ⟨h1, b, cs, rfl, h2, h3, h4⟩ := h
  exact ⟨h1, fun _ => ⟨b, 0, rfl, blk_lt h3, fun i hi => by rw [Nat.zero_add]; simp [World.cell?, h3, h4 i hi]⟩⟩
theorem BRow.below {w w' : World} {lo B : Nat} {A : Option Addr} {l : List Int} (h : BRow w lo A l) (hb : Below B w w') (hB : w.heap.size ≤ B) : BRow w' lo A l := by
  obtain ⟨h1, b, cs, rfl, h2, h3, h4⟩ := h
  exact ⟨h1, b, cs, rfl, h2, (hb.block b (by have := blk_lt h3; omega)).trans h3, h4⟩
theorem BRow.more {w : World} {lo lo' : Nat} {A : Option Addr} {l : List Int} (h : BRow w lo A l) (hl : lo' ≤ lo) : BRow w lo' A l := by
  obtain ⟨h1, b, cs, rfl, h2, h3⟩ := h
  exact ⟨h1, b, cs, rfl, by omega, h3⟩
/-- The values of a list. -/
def vals (l : List Int) : List Value := l.map (Value.int .i64)
theorem vals_len (l : List Int) : (vals l).length = l.length := by simp [vals]
/-- What a call says that hands back a new list, nil maybe, to which may be appended. -/
def NewOwn (w : World) (l : List Int) (e : Ending) (w' : World) : Prop := ∃ v, e = .returned v ∧ Below w.heap.size w w' ∧ w'.ownsRow w.heap.size 3 1 v l.length (vals l)
/-- .. or a list that is read alone. -/
def NewRow (w : World) (l : List Int) (e : Ending) (w' : World) : Prop := ∃ A c, e = .returned (.slice A l.length c) ∧ Below w.heap.size w w' ∧ Row w' w'.heap.size A l

theorem add_pl (b o j : Nat) : (⟨b, o, none⟩ : Addr).add j = ⟨b, o + j, none⟩ := by unfold Addr.add; split <;> simp_all
theorem news_get {l : List Int} {j : Nat} {u : Value} (h : (vals l)[j]? = some u) : j < l.length ∧ u = .int .i64 (el l j) := by
  have hj : j < l.length := by
    have := (List.getElem?_eq_some_iff.1 h).1
    rwa [vals_len] at this
  refine ⟨hj, ?_⟩
  simp [vals, hj] at h
  rw [el_eq l j hj]; exact h.symm
theorem vals_get (l : List Int) (j : Nat) (hj : j < l.length) : (vals l)[j]? = some (.int .i64 (el l j)) := by simp [vals, hj, el_eq l j hj]
/-- What is owned, read. -/
theorem own_row {w : World} {base : Nat} {v : Value} {l : List Int} (h : w.ownsRow base 3 1 v l.length (vals l)) (hm : l.length ≤ 9223372036854775807) :
    ∃ A c, v = .slice A l.length c ∧ Row w w.heap.size A l := by
  rcases h.2 with ⟨hv, h0⟩ | ⟨g, cap, cur, hv, hge, hh, hcap, hmax, hsz, htake⟩
  · exact ⟨none, 0, by rw [hv, h0], hm, fun hn => by omega⟩
  · refine ⟨some ⟨g, 0, none⟩, cap, hv, BRow.row (lo := base) ⟨hm, g, cur, rfl, hge, hh, fun i hi => ?_⟩⟩
    have h1 : (cur.toList.take (l.length * 1))[i]? = (vals l)[i]? := by rw [htake]
    rw [Nat.mul_one, List.getElem?_take, if_pos hi] at h1
    rw [Array.getElem?_toList] at h1
    rw [h1]
    exact vals_get l i hi
theorem own_brow {w : World} {base : Nat} {v : Value} {l : List Int} (h : w.ownsRow base 3 1 v l.length (vals l)) (hm : l.length ≤ 9223372036854775807) (hp : 0 < l.length) :
    ∃ A c, v = .slice A l.length c ∧ BRow w base A l := by
  rcases h.2 with ⟨hv, h0⟩ | ⟨g, cap, cur, hv, hge, hh, hcap, hmax, hsz, htake⟩
  · omega
  · refine ⟨some ⟨g, 0, none⟩, cap, hv, ⟨hm, g, cur, rfl, hge, hh, fun i hi => ?_⟩⟩
    have h1 : (cur.toList.take (l.length * 1))[i]? = (vals l)[i]? := by rw [htake]
    rw [Nat.mul_one, List.getElem?_take, if_pos hi] at h1
    rw [Array.getElem?_toList] at h1
    rw [h1]
    exact vals_get l i hi
theorem NewOwn.row {w : World} {l : List Int} {e : Ending} {w' : World} (h : NewOwn w l e w') (hm : l.length ≤ 9223372036854775807) : NewRow w l e w' := by
  obtain ⟨v, he, hb, ho⟩ := h
  obtain ⟨A, c, rfl, hr⟩ := own_row ho hm
  exact ⟨A, c, he, hb, hr⟩
theorem empty_own (w : World) (t : TypeId) : (w.alloc (.cells #[] t)).ownsRow w.heap.size t 1 (.slice (some ⟨w.heap.size, 0, none⟩) 0 0) 0 [] :=
  ⟨rfl, .inr ⟨w.heap.size, 0, #[], rfl, Nat.le_refl _, heap_alloc_new w _, Nat.le_refl _, by unfold maxLen; omega, rfl, rfl⟩⟩
theorem own_mono {w : World} {base base' : Nat} {v : Value} {n : Nat} {xs : List Value} (h : w.ownsRow base 3 1 v n xs) (hb : base' ≤ base) : w.ownsRow base' 3 1 v n xs := by
  rcases h with ⟨h1, h2 | ⟨g, cap, cur, hv, hge, h3⟩⟩
  · exact ⟨h1, .inl h2⟩
  · exact ⟨h1, .inr ⟨g, cap, cur, hv, by omega, h3⟩⟩
theorem below_grown {w w' : World} {B : Nat} {row : Option Nat} (hg : w.grownBy w' row) (hB : B ≤ w.heap.size) (h : ∀ k, row = some k → B ≤ k) : Below B w w' := by
  have := (Below.refl B w).grown hg hB h
  exact this

set_option maxHeartbeats 2000000 in
set_option maxRecDepth 100000 in
theorem Clone_any (B : Nat) (A : Option Addr) (c : Nat) (l : List Int) (w : World) (h : Row w B A l) (hB : B ≤ w.heap.size) (hl : l.length ≤ 1000) :
    Calls Try.prog 89 #[.slice A l.length c] w (NewOwn w l) := by
  obtain ⟨i3, ji, jz0, jz1, jz2⟩ := info_parts info3
  replace ji := Lib.hid ji
  replace jz0 := Lib.hid jz0
  replace jz1 := Lib.hid jz1
  replace jz2 := Lib.hid jz2
  have hnil := fun w => Lib.run_eql_slice_nil (P := Try.prog) w 22 3 A l.length c 0 0 Try.underlying22
  cases A with
  | none =>
    have h0 : l = [] := by
      cases l with
      | nil => rfl
      | cons x l => obtain ⟨_, _, e, _⟩ := h.2 (by simp); cases e
    subst h0
    have hnil0 := fun w => Lib.run_eql_slice_nil (P := Try.prog) w 22 3 none 0 c 0 0 Try.underlying22
    go_enter Try.func89, Try.ntmps89
    go_wp2
    go_ret
    exact ⟨_, rfl, Below.refl _ _, World.ownsRow_nil _ _ _ _⟩
  | some a =>
    have ho := empty_own w 3
    have hb0 : Below w.heap.size w (w.alloc (.cells #[] 3)) := (Below.refl _ _).alloc (Nat.le_refl _) _
    have hnews : ∀ j u, (vals l)[j]? = some u → (w.alloc (.cells #[] 3)).cell? (a.add j) = some u := fun j u hu => by
      obtain ⟨hj, rfl⟩ := news_get hu
      obtain ⟨b, o, e, hb, hc⟩ := (h.below (hb0.mono hB)).at_ j hj
      cases e
      rw [add_pl]; exact hc
    replace hnews := Lib.hid hnews
    replace ho := Lib.hid ho
    go_enter Try.func89, Try.ntmps89
    go_wp2_with (at_builtin; refine wpList_append_own _ rfl (.tmp 5) (.tmp 6) 22 rfl w.heap.size 3 i3 (.int .i64 0) 1 8 Try.underlying22 ji.out jz0.out jz1.out jz2.out rfl (by decide) _ _ _ rfl ho.out a l.length c (vals l) rfl (by rw [vals_len, Nat.mul_one]) hnews.out (fun u hu => by obtain ⟨_, _, rfl⟩ := List.mem_map.1 hu; rfl) (by unfold maxLen; omega) (by omega) (by simp) ?_; intro v' w1 hown' hgrow _)
    have hbb := below_grown hgrow (B := w.heap.size) (by simp) (fun k e => by cases e; exact Nat.le_refl _)
    have hown2 : w1.ownsRow w.heap.size 3 1 v' l.length (vals l) := by simpa using hown'
    clear hown' hgrow
    go_wp2
    go_ret
    exact ⟨_, rfl, hb0.trans hbb, hown2⟩

theorem Clone_row {B : Nat} {A : Option Addr} {c : Nat} {l : List Int} {w : World} (h : Row w B A l) (hB : B ≤ w.heap.size) (hl : l.length ≤ 1000) :
    Calls Try.prog 89 #[.slice A l.length c] w (NewRow w l) := (Clone_any B A c l w h hB hl).mono fun e w' hn => hn.row (by omega)


/-! ### a list of integers in a block of its own that is written to -/
def Blk (w : World) (g m : Nat) (F : Nat → Int) : Prop := ∃ cs : Array Value, w.heap[g]? = some (.cells cs 3 (0, 0)) ∧ ∀ i, i < m → cs[i]? = some (.int .i64 (F i))
theorem Blk.lt {w : World} {g m : Nat} {F : Nat → Int} (h : Blk w g m F) : g < w.heap.size := by obtain ⟨cs, h1, _⟩ := h; exact blk_lt h1
theorem Blk.to {w w' : World} {g m : Nat} {F : Nat → Int} (h : Blk w g m F) (hb : w'.heap[g]? = w.heap[g]?) : Blk w' g m F := by obtain ⟨cs, h1, h2⟩ := h; exact ⟨cs, hb.trans h1, h2⟩
theorem Blk.up {w w' : World} {g m : Nat} {F : Nat → Int} (h : Blk w g m F) (hb : Below w.heap.size w w') : Blk w' g m F := h.to (hb.block g h.lt)
theorem Blk.cell {w : World} {g m i : Nat} {F : Nat → Int} (h : Blk w g m F) (hi : i < m) : w.cell? ⟨g, i, none⟩ = some (.int .i64 (F i)) := by obtain ⟨cs, h1, h2⟩ := h; simp [World.cell?, h1, h2 i hi]
theorem Blk.fz {w : World} {g m : Nat} {F : Nat → Int} (h : Blk w g m F) (i : Nat) : w.frozen? ⟨g, i, none⟩ = false := by obtain ⟨cs, h1, _⟩ := h; simp [World.frozen?, h1]
theorem Blk.congr {w : World} {g m : Nat} {F G : Nat → Int} (h : Blk w g m F) (e : ∀ i, i < m → F i = G i) : Blk w g m G := by obtain ⟨cs, h1, h2⟩ := h; exact ⟨cs, h1, fun i hi => by rw [← e i hi]; exact h2 i hi⟩
theorem Blk.set {w : World} {g m j : Nat} {F : Nat → Int} (h : Blk w g m F) (hj : j < m) (x : Int) : Blk (w.setCell ⟨g, j, none⟩ (.int .i64 x)) g m (fun i => if i = j then x else F i) := by
  obtain ⟨cs, h1, h2⟩ := h
  have hjs : j < cs.size := by have := h2 j hj; exact (Array.getElem?_eq_some_iff.1 this).1
  refine ⟨cs.setIfInBounds j (.int .i64 x), by simp [World.setCell, Array.getElem?_modify, h1], fun i hi => ?_⟩
  rw [Array.getElem?_setIfInBounds]
  by_cases e : i = j
  · subst e
    simp [hjs]
  · have e2 : ¬ j = i := fun h => e h.symm
    simp [e, e2, h2 i hi]
theorem Blk.row {w : World} {g : Nat} {l : List Int} (h : Blk w g l.length (el l)) (hm : l.length ≤ 9223372036854775807) : Row w w.heap.size (some ⟨g, 0, none⟩) l :=
  ⟨hm, fun _ => ⟨g, 0, rfl, h.lt, fun i hi => by rw [Nat.zero_add]; exact h.cell hi⟩⟩
theorem NewOwn.blk {w : World} {l : List Int} {e : Ending} {w' : World} (h : NewOwn w l e w') (hp : 0 < l.length) : ∃ g c, e = .returned (.slice (some ⟨g, 0, none⟩) l.length c) ∧ (l.length ≤ c ∧ c ≤ 9223372036854775807) ∧ Below w.heap.size w w' ∧ w.heap.size ≤ g ∧ Blk w' g l.length (el l) := by
  obtain ⟨v, he, hb, ho⟩ := h
  rcases ho.2 with ⟨hv, h0⟩ | ⟨g, cap, cur, rfl, hge, hh, hcap, hmax, hsz, htake⟩
  · omega
  · unfold maxLen at hmax
    refine ⟨g, cap, he, ⟨hcap, by omega⟩, hb, hge, cur, hh, fun i hi => ?_⟩
    have h1 := vals_get l i hi
    rw [← htake, Nat.mul_one, List.getElem?_take_of_lt hi] at h1
    rw [← h1]; simp


theorem ba1 (w : World) (o : Obj) : Below w.heap.size w (w.alloc o) := (Below.refl _ _).alloc (Nat.le_refl _) _
end Go.Proofs.Ytgonibieeimdoaa
