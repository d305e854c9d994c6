/-
  'moved': the amounts behind one move.
-/
import Derived.Test.YtnbgjgiknfcdkaaDoorH
namespace Go.Proofs.YtnbgjgiknfcdkaaDoor
open Go.RowKit Go.Deep M
set_option linter.unusedVariables false
set_option linter.unusedSimpArgs false
attribute [local go_sem] Oper.semAt_some

/-! ### the marks that loops over an iterator leave -/
def mark (D : Nat) : Deferred := { target := .collected D, args := #[] }
structure Marks (B : Nat) (Ds : List Nat) (W : World) : Prop where
  lies : ∀ D, D ∈ Ds → B ≤ D ∧ W.heap[D]? = some (.deferred (some []))
  apart : Ds.Nodup
theorem Marks.nil (B : Nat) (W : World) : Marks B [] W := ⟨fun D h => absurd h (List.not_mem_nil), List.nodup_nil⟩
theorem leave_marks {F : Fence} {n : Nat} {P : Program} {fn : Func} {tmps : Array Value} {R : Ending → World → Prop} {B : Nat} : ∀ (Ds : List Nat) (W : World), B ≤ W.heap.size → Marks B Ds W →
    (∀ W', Below B W W' → LeavesInM F n P fn tmps R [] .returning W') → LeavesInM F n P fn tmps R (Ds.map mark) .returning W
  | [], W, _, _, h => h W (Below.refl _ _)
  | D :: Ds, W, hB, hm, h => by
    obtain ⟨h1, h2⟩ := hm.lies D (List.mem_cons_self ..)
    obtain ⟨h3, h4⟩ := List.nodup_cons.1 hm.apart
    have hb : Below B W (W.putObj D (.deferred none)) := (Below.refl B W).grown (grownBy_putObj' W D _) hB (fun k e => by cases e; exact h1)
    refine ⟨by simp, .inl ⟨D, _, rfl, run_takeDeferred h2, ?_⟩⟩
    refine leave_marks Ds _ (Nat.le_trans hB hb.size) ⟨fun D' hD' => ⟨(hm.lies D' (List.mem_cons_of_mem _ hD')).1, ?_⟩, h4⟩ (fun W' hW' => h W' (hb.trans hW'))
    have hne : D' ≠ D := fun e => h3 (e ▸ hD')
    exact ((grownBy_putObj' W D (.deferred none)).block D' (blk_lt (hm.lies D' (List.mem_cons_of_mem _ hD')).2) (fun e => hne (by cases e; rfl))).trans (hm.lies D' (List.mem_cons_of_mem _ hD')).2

/-- What a call says that hands back a list with room. -/
def NewCap (w : World) (l : List Int) (e : Ending) (w' : World) : Prop := ∃ A c, e = .returned (.slice A l.length c) ∧ (l.length ≤ c ∧ c ≤ 9223372036854775807) ∧ Below w.heap.size w w' ∧ Row w' w'.heap.size A l
theorem NewOwn.cap {w : World} {l : List Int} {e : Ending} {w' : World} (h : NewOwn w l e w') (hm : l.length ≤ 9223372036854775807) : NewCap w l e w' := by
  obtain ⟨v, he, hb, ho⟩ := h
  obtain ⟨A, c, rfl, hr⟩ := own_row ho hm
  refine ⟨A, c, he, ?_, hb, hr⟩
  rcases ho.2 with ⟨hv, h0⟩ | ⟨g, cap, cur, hv, hge, hh, hcap, hmax, hsz, htake⟩
  · injection hv with h1 h2 h3
    omega
  · injection hv with h1 h2 h3
    unfold maxLen at hmax
    omega
/-- What the numbers are behind k places. -/
def baseF (w h : Nat) (L : List Bool) (S a : List Int) (k j : Nat) : Int := sm (fun p => el a p * G w h L S p j) k
theorem baseF_succ (w h : Nat) (L : List Bool) (S a : List Int) (k j : Nat) : baseF w h L S a (k + 1) j = baseF w h L S a k j + el a k * G w h L S k j := rfl
/-- The world under way: the bay's box, the new row and its box, the marks. -/
structure AccI (W : World) (bc : Array Value) (n : Nat) (f : Nat → Int) (Ds : List Nat) (wr : World) : Prop where
  below : Below W.heap.size W wr
  size : W.heap.size + 3 ≤ wr.heap.size
  box : wr.heap[W.heap.size]? = some (.cells bc 82 (0, 0))
  lat : Boxed wr (W.heap.size + 2) 26 (.slice (some ⟨W.heap.size + 1, 0, none⟩) n n)
  row : wr.rowIs (W.heap.size + 1) 3 n (fun j => .int .i64 (f j))
  marks : Marks (W.heap.size + 3) Ds wr
theorem AccI.grown {W : World} {bc : Array Value} {n : Nat} {f : Nat → Int} {Ds : List Nat} {X Y : World} {row : Option Nat} (h : AccI W bc n f Ds X) (hg : X.grownBy Y row) (hr : ∀ r, row = some r → W.heap.size + 3 ≤ r ∧ r ∉ Ds) : AccI W bc n f Ds Y := by
  have hs := h.size
  refine ⟨h.below.grown hg h.below.size (fun k e => by have := (hr k e).1; omega), Nat.le_trans hs hg.size, ?_, ?_, ?_, ⟨fun D hD => ?_, h.marks.apart⟩⟩
  · exact (hg.block _ (blk_lt h.box) (fun e => by have := (hr _ e.symm).1; omega)).trans h.box
  · exact (hg.block _ h.lat.lt (fun e => by have := (hr _ e.symm).1; omega)).trans h.lat
  · exact h.row.of_block (hg.block _ h.row.lt (fun e => by have := (hr _ e.symm).1; omega))
  · obtain ⟨h1, h2⟩ := h.marks.lies D hD
    exact ⟨h1, (hg.block _ (blk_lt h2) (fun e => (hr _ e.symm).2 hD)).trans h2⟩
theorem AccI.alloc {W : World} {bc : Array Value} {n : Nat} {f : Nat → Int} {Ds : List Nat} {X : World} (h : AccI W bc n f Ds X) (o : Obj) : AccI W bc n f Ds (X.alloc o) := h.grown (World.grownBy_alloc X o none) (fun r e => by cases e)
theorem AccI.drewN {W : World} {bc : Array Value} {n : Nat} {f : Nat → Int} {Ds : List Nat} {X : World} (h : AccI W bc n f Ds X) (m : Nat) : AccI W bc n f Ds (X.drewN m) := ⟨below_drewN h.below m, h.size, h.box, h.lat, h.row, ⟨h.marks.lies, h.marks.apart⟩⟩
theorem AccI.congr {W : World} {bc : Array Value} {n : Nat} {f g : Nat → Int} {Ds : List Nat} {X : World} (h : AccI W bc n f Ds X) (e : ∀ j, j < n → f j = g j) : AccI W bc n g Ds X := ⟨h.below, h.size, h.box, h.lat, h.row.congr (fun j hj => by rw [e j hj]), h.marks⟩
theorem AccI.own {β : Type} {W : World} {bc : Array Value} {n : Nat} {Ds : List Nat} {B : Nat} (f : β → Nat → Int) (hB : W.heap.size + 3 ≤ B) (hDs : ∀ D, D ∈ Ds → D < B) : OwnFrom B (fun s X => AccI W bc n (f s) Ds X) := fun s X Y row h hg hr =>
  h.grown hg fun r e => ⟨by have := (hr r e).1; omega, fun hD => by have := (hr r e).1; have := hDs r hD; omega⟩
theorem setCell_block (X : World) (b j : Nat) (v : Value) (k : Nat) (hk : k ≠ b) : (X.setCell ⟨b, j, none⟩ v).heap[k]? = X.heap[k]? := by
  simp [World.setCell, Array.getElem?_modify, Ne.symm hk]
theorem AccI.set {W : World} {bc : Array Value} {n : Nat} {f : Nat → Int} {Ds : List Nat} {X : World} (h : AccI W bc n f Ds X) (i : Nat) (v : Int) : AccI W bc n (fun j => if j = i then v else f j) Ds (X.setCell ⟨W.heap.size + 1, i, none⟩ (.int .i64 v)) := by
  refine ⟨h.below.setCell (p := ⟨W.heap.size + 1, i, none⟩) (Nat.le_succ _) _, by simpa [World.setCell] using h.size, ?_, ?_, ?_, ⟨fun D hD => ?_, h.marks.apart⟩⟩
  · exact (setCell_block X _ i _ _ (by omega)).trans h.box
  · exact (setCell_block X _ i _ _ (by omega)).trans h.lat
  · exact (h.row.set i (.int .i64 v)).congr (fun j _ => by split <;> rfl)
  · obtain ⟨h1, h2⟩ := h.marks.lies D hD
    exact ⟨h1, (setCell_block X _ i _ _ (by omega)).trans h2⟩
theorem set_bx {n₀ x : Nat} (X : World) (i : Nat) (v : Value) : Bx n₀ x X (X.setCell ⟨x, i, none⟩ v) := ⟨rfl, rfl, rfl, by simp [World.setCell], fun k _ hk => setCell_block X x i v k hk⟩
theorem set_keeps {B : Nat} {X : World} {b i : Nat} {v : Value} (hb : b < B) : KeepsFrom B X (X.setCell ⟨b, i, none⟩ v) := (KeepsOthers.setCell X ⟨b, i, none⟩ v).from B
theorem bx_put {n₀ x : Nat} {w : World} (hn : n₀ ≤ w.heap.size) (X : World) (l : Nat) (o o' : Obj) (hl : w.heap.size ≤ l) (h : X.heap[l]? = some o) (_ : o.isCells = false) (_ : o.isWalk = false) : Bx n₀ x X (X.putObj l o') :=
  ⟨rfl, rfl, rfl, by simp, fun k hk _ => World.putObj_heap_other (by omega)⟩
theorem gs_bound (l : List (Nat × Int)) (j : Nat) (h : ∀ x, x ∈ l → 0 ≤ x.2 ∧ x.2 ≤ 16) : 0 ≤ gs l j ∧ gs l j ≤ 16 * l.length := by
  induction l with
  | nil => exact ⟨Int.le_refl _, Int.le_refl _⟩
  | cons y l ih =>
    have h1 := ih (fun x hx => h x (List.mem_cons_of_mem _ hx))
    have h2 := h y (List.mem_cons_self ..)
    unfold gs
    simp only [List.length_cons]
    split <;> omega
/-- What place j has been given of the amounts so far lies within bounds. -/
theorem base_bound {w h : Nat} {L : List Bool} {S a : List Int} (hBay : Bay w h L S) (hlen : a.length = w * h + 1) (hnn : NonNeg a) (ht : tot a ≤ 1000000000000) (k : Nat) (hk : k ≤ a.length) (j : Nat) (hj : j ≤ w * h) : 0 ≤ baseF w h L S a k j ∧ baseF w h L S a k j ≤ 16000000000000 := by
  have g : ∀ p, p < a.length → 0 ≤ G w h L S p j ∧ G w h L S p j ≤ 16 := fun p hp => by
    refine ⟨G_nonneg hBay p j (by omega), ?_⟩
    rw [← G_sum hBay p (by omega)]
    exact sm_term (f := fun j => G w h L S p j) (w * h + 1) j (by omega) (fun i _ => G_nonneg hBay p i (by omega))
  refine ⟨sm_nonneg k (fun p hp => Int.mul_nonneg (hnn p (by omega)) (g p (by omega)).1), ?_⟩
  have h1 : baseF w h L S a k j ≤ sm (fun p => el a p * 16) k := sm_le k (fun p hp => Int.mul_le_mul_of_nonneg_left (g p (by omega)).2 (hnn p (by omega)))
  rw [sm_mul_right] at h1
  have h2 := sm_part a.length k hk (fun i hi => hnn i hi)
  unfold tot at ht
  omega
theorem mul_bound {x y X : Int} (hx : 0 ≤ x ∧ x ≤ X) (hy : 0 ≤ y ∧ y ≤ 80) (hX : 0 ≤ X) : 0 ≤ x * y ∧ x * y ≤ 80 * X := by
  refine ⟨Int.mul_nonneg hx.1 hy.1, ?_⟩
  have := Int.mul_le_mul hx.2 hy.2 hy.1 hX
  omega

set_option maxRecDepth 100000 in
set_option maxHeartbeats 4000000 in
theorem moved_any (B : Nat) (w h : Nat) (aL aS A : Option Addr) (cL cS c : Nat) (L : List Bool) (S a : List Int) (W : World) (hBay : Bay w h L S) (hm : BayIn W B aL L aS (w * h) S) (ha : Row W B A a) (hB : B ≤ W.heap.size) (hB1 : 1 ≤ B) (hd : Dirs W)
    (hlen : a.length = w * h + 1) (hnn : NonNeg a) (ht : tot a ≤ 1000000000000) :
    Calls Tryd.prog 85 #[.agg #[.int .i64 w, .int .i64 h, .slice aL L.length cL, .slice aS (w * h) cS], .slice A a.length c] W (NewCap W (mv w h L S a)) := by
  have hc36 := hBay.cells
  have ha36 : 1 ≤ a.length ∧ a.length ≤ 37 := by omega
  have hbase := fun k hk j hj => base_bound hBay hlen hnn ht k hk j hj
  have hmx : Tryd.prog.follows .mixedOrders = true := by kernel_rfl
  replace hlen := Lib.hid hlen
  replace hbase := Lib.hid hbase
  have hmk := run_make_row' (P := Tryd.prog) 26 3 (.int .i64 0) 8 Tryd.underlying26 info3 rfl .i64 .i64 a.length (by omega) (by omega)
  refine (callsIn_wide (n := 5)).1 ?_
  refine callsIn_of_wp_marks Tryd.func85 rfl trivial ?_ rfl
  simp only [Tryd.ntmps85, List.size_toArray, List.length_cons, List.length_nil, Nat.reduceAdd, Nat.reduceSub, Array.replicate_succ, Array.replicate_zero, List.push_toArray, List.append_toArray, List.nil_append, List.cons_append]
  gi_wp2
  clear hmk
  have hstart : AccI W #[.int .i64 w, .int .i64 h, .slice aL L.length cL, .slice aS (w * h) cS] a.length (fun j => baseF w h L S a 0 j) [] (((W.alloc (.cells #[.int .i64 w, .int .i64 h, .slice aL L.length cL, .slice aS (w * h) cS] 82)).alloc (.cells (madeCells #[.int .i64 0] a.length) 3)).alloc
      (.cells #[.slice (some ⟨W.heap.size + 1, 0, none⟩) a.length a.length] 26)) := by
    refine ⟨((((Below.refl _ _).alloc (Nat.le_refl _) _).alloc (by simp) _).alloc (by simp; omega) _), by simp, ?_, ?_, ?_, Marks.nil _ _⟩
    · exact ((Below.heap_alloc _ _ _ (by simp; omega)).trans (Below.heap_alloc _ _ _ (by simp))).trans (World.alloc_heap_new W _)
    · have := Boxed.new ((W.alloc (.cells #[.int .i64 w, .int .i64 h, .slice aL L.length cL, .slice aS (w * h) cS] 82)).alloc (.cells (madeCells #[.int .i64 0] a.length) 3)) 26 (.slice (some ⟨W.heap.size + 1, 0, none⟩) a.length a.length)
      simpa using this
    · have := World.rowIs_made (W.alloc (.cells #[.int .i64 w, .int .i64 h, .slice aL L.length cL, .slice aS (w * h) cS] 82)) (.int .i64 0) a.length 3
      rw [World.size_alloc] at this
      exact this.alloc _
  refine wpIn_loop (fun a' wr => ∃ (k : Nat) (Ds : List Nat) (u6 u7 u16 u17 u18 u19 u20 u21 u22 u34 : Value), k ≤ a.length ∧ a' = { tmps := #[.agg #[.int .i64 w, .int .i64 h, .slice aL L.length cL, .slice aS (w * h) cS], .slice A a.length c, .pointer (some ⟨W.heap.size, 0, none⟩), undef, .slice none 0 0, .pointer (some ⟨W.heap.size + 1 + 1, 0, none⟩), u6, u7, undef, undef, .slice A a.length c, .int .i64 (a.length : Nat), .slice (some ⟨W.heap.size + 1, 0, none⟩) a.length a.length, .slice A a.length c, .int .i64 (a.length : Nat), .int .i64 (k : Nat), u16, u17, u18, u19, u20, u21, u22, undef, undef, undef, undef, undef, undef, undef, undef, undef, undef, undef, u34, undef], defers := Ds.map mark } ∧
      AccI W #[.int .i64 w, .int .i64 h, .slice aL L.length cL, .slice aS (w * h) cS] a.length (fun j => baseF w h L S a k j) Ds wr)
    (fun a' wr => a.length - (intOf (a'.tmps.getD 15 undef)).toNat) ?start ?round
  case start => exact ⟨0, [], undef, undef, undef, undef, undef, undef, undef, undef, undef, undef, Nat.zero_le _, rfl, hstart⟩
  case round =>
    clear hstart
    rintro a' wr ⟨k, Ds, u6, u7, u16, u17, u18, u19, u20, u21, u22, u34, hk, rfl, hI⟩
    by_cases hlt : k < a.length
    · have hkI : (k : Int) < (a.length : Nat) := by omega
      obtain ⟨b, o, rfl, hb, hc⟩ := (ha.below (hI.below.mono hB)).at_ k hlt
      have hsz := hI.size
      have hbx := hI.box
      have g0 : wr.cell? ⟨W.heap.size, 0, none⟩ = some (.int .i64 w) := by simp [World.cell?, hbx]
      have g1 : wr.cell? ⟨W.heap.size, 1, none⟩ = some (.int .i64 h) := by simp [World.cell?, hbx]
      have g2 : wr.cell? ⟨W.heap.size, 2, none⟩ = some (.slice aL L.length cL) := by simp [World.cell?, hbx]
      have g3 : wr.cell? ⟨W.heap.size, 3, none⟩ = some (.slice aS (w * h) cS) := by simp [World.cell?, hbx]
      have q0 : W.heap.size < wr.heap.size := by omega
      have q1 : W.heap.size ≠ wr.heap.size := by omega
      gi_wp2_with fail
      refine ⟨trivial, ?_⟩
      refine CallsIn.mono (callsIn_wide.2 (gives_any w h aL aS cL (w * h) cS L.length k _)) ?_
      rintro e W3 ⟨rfl, hW3⟩
      have hI1 : AccI W #[.int .i64 w, .int .i64 h, .slice aL L.length cL, .slice aS (w * h) cS] a.length (fun j => baseF w h L S a k j) Ds W3 := by rw [hW3]; exact ((hI.alloc _).alloc _).alloc _
      have hA1 : Boxed W3 wr.heap.size 3 (.int .i64 (el a k)) := by rw [hW3]; exact ((Boxed.new wr 3 (.int .i64 (el a k))).alloc _).alloc _
      have hs3 : W3.heap.size = wr.heap.size + 3 := by rw [hW3]; simp
      rw [World.size_alloc]
      have e0 : W3.cell? ⟨wr.heap.size + 1, 0, none⟩ = some (.int .i64 w) := by rw [hW3]; simp [go_sem]
      have e1 : W3.cell? ⟨wr.heap.size + 1, 1, none⟩ = some (.int .i64 h) := by rw [hW3]; simp [go_sem]
      have e2 : W3.cell? ⟨wr.heap.size + 1, 2, none⟩ = some (.slice aL L.length cL) := by rw [hW3]; simp [go_sem]
      have e3 : W3.cell? ⟨wr.heap.size + 1, 3, none⟩ = some (.slice aS (w * h) cS) := by rw [hW3]; simp [go_sem]
      have e4 : W3.cell? ⟨wr.heap.size + 1 + 1, 0, none⟩ = some (.int .i64 k) := by rw [hW3]; simp [go_sem]
      clear hW3 g0 g1 g2 g3 hbx
      have hDs : ∀ D, D ∈ Ds → D < W3.heap.size := fun D hD => blk_lt (hI1.marks.lies D hD).2
      gi_wp2
      refine wpIn_rangeFunc_ownG_of_H rfl (by omega) (gf := 98) (lb := #[.pointer (some ⟨wr.heap.size + 1, 0, none⟩), .pointer (some ⟨wr.heap.size + 1 + 1, 0, none⟩)]) rfl trivial (enters_of Tryd.func98 (by kernel_rfl) rfl)
        (gives_stops 4 (wr.heap.size + 1) (wr.heap.size + 1 + 1) W3.heap.size B (W.heap.size + 1) w h aL aS cL cS L S k hBay (by have := hlen.out; omega) W3 (Nat.le_refl _) (by omega) (by omega) (by omega) (by omega) (by omega) (by omega) (by omega) e0 e1 e2 e3 e4 (hm.below (hI1.below.mono hB)) (hd.below (hI1.below.mono hB) hB1))
        Bx.trans (bx_put (Nat.le_refl _)) (Below.refl _ _) (fun _ => rfl)
        (fun pre X => AccI W #[.int .i64 w, .int .i64 h, .slice aL L.length cL, .slice aS (w * h) cS] a.length (fun j => baseF w h L S a k j + el a k * gs (pre.map (·.1)) j) Ds X ∧ Boxed X wr.heap.size 3 (.int .i64 (el a k)))
        (fun _ _ _ => False)
        (OwnFrom.and (AccI.own (fun (pre : List (Pr (w * h))) j => baseF w h L S a k j + el a k * gs (pre.map (·.1)) j) (by omega) hDs) (Own.from (boxed_own wr.heap.size 3 (fun (_ : List (Pr (w * h))) => Value.int .i64 (el a k))) _))
        (fun _ _ _ _ _ hs _ _ => hs)
        ⟨hI1.congr (fun j _ => by simp [gs]), hA1⟩
        (fun y => { tmps := #[.agg #[.int .i64 w, .int .i64 h, .slice aL L.length cL, .slice aS (w * h) cS], .slice (some ⟨b, o, none⟩) a.length c, .pointer (some ⟨W.heap.size, 0, none⟩), undef, .slice none 0 0, .pointer (some ⟨W.heap.size + 1 + 1, 0, none⟩), .int .i64 (k : Nat), .pointer (some ⟨wr.heap.size, 0, none⟩), .int .i64 (y.1.1 : Nat), .int .i64 y.1.2, .slice (some ⟨b, o, none⟩) a.length c, .int .i64 (a.length : Nat), .slice (some ⟨W.heap.size + 1, 0, none⟩) a.length a.length, .slice (some ⟨b, o, none⟩) a.length c, .int .i64 (a.length : Nat), .int .i64 (k : Nat), .bool true, .int .i64 (k : Nat), .pointer (some ⟨b, o + k, none⟩), .int .i64 (el a k), .agg #[.int .i64 w, .int .i64 h, .slice aL L.length cL, .slice aS (w * h) cS], .int .i64 (k : Nat), .func (.func 98) #[] #[.pointer (some ⟨wr.heap.size + 1, 0, none⟩), .pointer (some ⟨wr.heap.size + 1 + 1, 0, none⟩)], .int .i64 (y.1.1 : Nat), .int .i64 y.1.2, undef, undef, undef, undef, undef, undef, undef, undef, undef, u34, undef], defers := [] })
        ?assign ?body ?done ?stop (fun X => Bx.refl _ _ X)
      case assign =>
        intro l y X K hK
        gi_wp2
        exact hK
      case body =>
        rintro l pre y X ⟨hX, hXb⟩ hpl
        obtain ⟨⟨to, sx⟩, y1, y2, y3⟩ := y
        dsimp only at y1 y2 y3
        have hto : to < a.length := by have := hlen.out; omega
        have htoI : (to : Int) < (a.length : Nat) := by omega
        have cv := hX.row.cell hto
        have fv := hX.row.frozen to
        have cl := hX.lat.cell
        have cx := hXb.cell
        have b1 := hbase.out k hk to y1
        have b2 := gs_bound (pre.map (·.1)) to (fun x hx => by obtain ⟨z, _, rfl⟩ := List.mem_map.1 hx; exact ⟨z.2.2.1, z.2.2.2⟩)
        have b3 : 0 ≤ el a k ∧ el a k ≤ 1000000000000 := ⟨hnn k hlt, Int.le_trans (el_le_tot hnn k hlt) ht⟩
        have b4 := mul_bound b3 (y := gs (pre.map (·.1)) to) ⟨b2.1, by rw [List.length_map] at b2; omega⟩ (by omega)
        have b5 := mul_bound b3 (y := sx) ⟨y2, by omega⟩ (by omega)
        have hgs : ∀ j, gs ((pre ++ [(⟨(to, sx), y1, y2, y3⟩ : Pr (w * h))]).map (·.1)) j = gs (pre.map (·.1)) j + (if to = j then sx else 0) := fun j => by rw [List.map_append]; exact gs_snoc _ _ _
        have hfin : ∀ j, j < a.length → (if j = to then baseF w h L S a k to + el a k * gs (pre.map (·.1)) to + el a k * sx else baseF w h L S a k j + el a k * gs (pre.map (·.1)) j) = baseF w h L S a k j + el a k * gs ((pre ++ [(⟨(to, sx), y1, y2, y3⟩ : Pr (w * h))]).map (·.1)) j := fun j _ => by
          rw [hgs]
          by_cases e : j = to
          · subst e; simp only [if_true]; rw [Int.mul_add]; omega
          · rw [if_neg e, if_neg (fun e' => e e'.symm)]; simp
        have hnext : ∀ X' : World, AccI W #[.int .i64 w, .int .i64 h, .slice aL L.length cL, .slice aS (w * h) cS] a.length (fun j => baseF w h L S a k j + el a k * gs (pre.map (·.1)) j) Ds X' →
            AccI W #[.int .i64 w, .int .i64 h, .slice aL L.length cL, .slice aS (w * h) cS] a.length (fun j => baseF w h L S a k j + el a k * gs ((pre ++ [(⟨(to, sx), y1, y2, y3⟩ : Pr (w * h))]).map (·.1)) j) Ds (X'.setCell ⟨W.heap.size + 1, to, none⟩ (.int .i64 (baseF w h L S a k to + el a k * gs (pre.map (·.1)) to + el a k * sx))) := fun X' h' => (h'.set to _).congr hfin
        have hboxed : ∀ (v : Value), Boxed (X.drew.setCell ⟨W.heap.size + 1, to, none⟩ v) wr.heap.size 3 (.int .i64 (el a k)) := fun v => (setCell_block _ _ _ _ _ (by omega)).trans hXb
        have hkeep : ∀ (v : Value), KeepsFrom W3.heap.size X (X.drew.setCell ⟨W.heap.size + 1, to, none⟩ v) := fun v => (KeepsOthers.drew X |>.from _).trans (set_keeps (by omega))
        have hbx : ∀ (v : Value), Bx W3.heap.size (W.heap.size + 1) X (X.drew.setCell ⟨W.heap.size + 1, to, none⟩ v) := fun v => (bx_drewN (Bx.refl _ _ X) 1).trans (set_bx _ _ _)
        have hnx := hnext X.drew (hX.drewN 1)
        have hpost : ∀ a', ownPostG W3.heap.size (Bx W3.heap.size (W.heap.size + 1)) (fun (pre : List (Pr (w * h))) X => AccI W #[.int .i64 w, .int .i64 h, .slice aL L.length cL, .slice aS (w * h) cS] a.length (fun j => baseF w h L S a k j + el a k * gs (pre.map (·.1)) j) Ds X ∧ Boxed X wr.heap.size 3 (.int .i64 (el a k))) (fun _ _ _ => False) (pre ++ [⟨(to, sx), y1, y2, y3⟩]) X .normal a'
            (X.setCell ⟨W.heap.size + 1, to, none⟩ (.int .i64 (baseF w h L S a k to + el a k * gs (pre.map (·.1)) to + el a k * sx))).drew := fun a' => ⟨hkeep _, hbx _, hnx, hboxed _⟩
        generalize hv0 : baseF w h L S a k to + el a k * gs (pre.map (·.1)) to = v0 at *
        have hv0b : 0 ≤ v0 ∧ v0 ≤ 96000000000000 := by omega
        clear hnext hfin hgs hnx hboxed hkeep hbx hv0 b1 b2 b4 hX hXb
        revert hpost
        generalize ownPostG _ _ _ _ _ _ = Q
        intro hpost
        replace hpost := Lib.hid hpost
        dsimp only
        generalize Value.agg #[.int .i64 w, .int .i64 h, .slice aL L.length cL, .slice aS (w * h) cS] = vb
        generalize Value.func (.func 98) #[] _ = vf
        generalize Value.slice (some ⟨b, o, none⟩) a.length c = va
        clear hBay hm ha hB hB1 hd hnn ht hc36 hlen hbase hk hI hlt hkI hb hc hI1 hA1 e0 e1 e2 e3 e4 hDs hpl q0
        generalize hx0 : el a k = x0 at *
        generalize hn0 : a.length = n0 at *
        generalize hm0 : x0 * sx = m0 at *
        clear hx0
        gi_wp2
        gi_region_with_o fail
        all_goals gi_wp2
        all_goals (try go_bits)
        all_goals exact hpost.out _
      case done =>
        rintro D ys X hD hS ⟨hX, hXb⟩ hK
        have hDn : D ∉ Ds := fun h => by have := hDs D h; omega
        have hI2 : AccI W #[.int .i64 w, .int .i64 h, .slice aL L.length cL, .slice aS (w * h) cS] a.length (fun j => baseF w h L S a (k + 1) j) (D :: Ds) X := by
          have := hX.congr (g := fun j => baseF w h L S a (k + 1) j) (fun j hj => by rw [hS, gs_gv hBay k j (by have := hlen.out; omega)]; rfl)
          refine ⟨this.below, this.size, this.box, this.lat, this.row, ⟨fun D' hD' => ?_, List.nodup_cons.2 ⟨hDn, this.marks.apart⟩⟩⟩
          rcases List.mem_cons.1 hD' with rfl | h
          · exact ⟨by omega, hK⟩
          · exact this.marks.lies D' h
        replace hI2 := Lib.hid hI2
        clear hX hXb hI1 hI
        gi_wp2
        refine ⟨⟨k + 1, D :: Ds, _, _, _, _, _, _, _, _, _, _, by omega, by go_num, hI2.out⟩, ?_⟩
        simp [intOf]; omega
      case stop =>
        rintro D c pre X _ _ h _
        exact h.elim
    · have hk' : k = a.length := by omega
      subst hk'
      have cl := hI.lat.cell
      have hend : ∀ W', Below (W.heap.size + 3) wr W' → NewCap W (mv w h L S a) (.returned (.slice (some ⟨W.heap.size + 1, 0, none⟩) a.length a.length)) W' := fun W' hW' => by
        refine ⟨some ⟨W.heap.size + 1, 0, none⟩, a.length, by rw [mv_len, hlen.out], by rw [mv_len]; have := hlen.out; omega, hI.below.trans (hW'.mono (by omega)), ?_⟩
        have hr := hI.row.of_block (hW'.block (W.heap.size + 1) (by omega))
        refine ⟨by rw [mv_len]; omega, fun _ => ⟨W.heap.size + 1, 0, rfl, hr.lt, fun i hi => ?_⟩⟩
        rw [mv_len] at hi
        rw [Nat.zero_add, hr.cell (by have := hlen.out; omega), mv_el (by omega)]
        show some (Value.int .i64 (baseF w h L S a a.length i)) = _
        rw [hlen.out]; rfl
      gi_wp2
      refine leave_marks Ds wr hI.size hI.marks fun W' hW' => ?_
      refine ⟨_, results_tmp rfl _ _ _, ?_⟩
      exact hend W' hW'
end Go.Proofs.YtnbgjgiknfcdkaaDoor
