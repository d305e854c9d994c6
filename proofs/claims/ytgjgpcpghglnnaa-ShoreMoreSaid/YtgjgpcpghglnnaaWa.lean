/-
  Other jobs made of these one by one; the worst order and its harm: the program's functions.
-/
import Derived.Test.YtgjgpcpghglnnaaSd
import Derived.Test.YtgjgpcpghglnnaaF
import Derived.Test.YtgjgpcpghglnnaaMathC
namespace Go.Proofs.Ytgjgpcpghglnnaa
open Go.RowKit Go.Deep M
set_option linter.unusedVariables false
set_option linter.unusedSimpArgs false

namespace M
/-- All jobs turned into others. -/
def mpJ (f : Jb → Jb) (J : List (List Jb)) : List (List Jb) := J.map (·.map f)
theorem mpJ_len (f : Jb → Jb) (J : List (List Jb)) : (mpJ f J).length = J.length := by simp [mpJ]
theorem mpJ_be (f : Jb → Jb) (J : List (List Jb)) (i : Nat) : be (mpJ f J) i = (be J i).map f := by
  unfold be mpJ
  simp only [List.getD_eq_getElem?_getD, List.getElem?_map]
  cases J[i]? <;> rfl
theorem mpJ_jb (f : Jb → Jb) (l : List Jb) {j : Nat} (h : j < l.length) : jb (l.map f) j = f (jb l j) := by
  rw [jb_eq _ _ (by simpa using h), jb_eq _ _ h]; simp
theorem mpJ_tn (f : Jb → Jb) (J : List (List Jb)) : ∀ k, tn (mpJ f J) k = tn J k := by
  intro k
  induction k with
  | zero => rfl
  | succ k ih => rw [tn_succ, tn_succ, ih, mpJ_be, List.length_map]
def ng (x : Jb) : Jb := ⟨x.h, -x.m⟩
theorem ng_vS {J : List (List Jb)} (h : vJ J) : vS (mpJ ng J) := by
  refine ⟨by rw [mpJ_len]; exact h.1, by rw [mpJ_len, mpJ_tn]; exact h.2.1, fun i hi j hj => ?_⟩
  rw [mpJ_len] at hi
  rw [mpJ_be] at hj ⊢
  rw [List.length_map] at hj
  rw [mpJ_jb _ _ hj]
  obtain ⟨⟨a, b⟩, c, d⟩ := h.2.2 i hi j hj
  exact ⟨⟨a, b⟩, by show -100 ≤ -(jb (be J i) j).m; omega, by show -(jb (be J i) j).m ≤ 100; omega⟩
end M

/-! ### blocks of jobs, and of lists of jobs -/
def BlJ (w : World) (g n : Nat) (F : Nat → Jb) : Prop := ∃ cs : Array Value, w.heap[g]? = some (.cells cs 54 (0, 0)) ∧ ∀ i, i < n → cs[i * 2]? = some (.int .i64 (F i).h) ∧ cs[i * 2 + 1]? = some (.int .i64 (F i).m)
theorem BlJ.lt {w : World} {g n : Nat} {F : Nat → Jb} (h : BlJ w g n F) : g < w.heap.size := by obtain ⟨cs, h1, _⟩ := h; exact blk_lt h1
theorem BlJ.to {w w' : World} {g n : Nat} {F : Nat → Jb} (h : BlJ w g n F) (hb : w'.heap[g]? = w.heap[g]?) : BlJ w' g n F := by obtain ⟨cs, h1, h2⟩ := h; exact ⟨cs, hb.trans h1, h2⟩
theorem BlJ.cell {w : World} {g n i : Nat} {F : Nat → Jb} (h : BlJ w g n F) (hi : i < n) : w.cell? ⟨g, i * 2, none⟩ = some (.int .i64 (F i).h) ∧ w.cell? ⟨g, i * 2 + 1, none⟩ = some (.int .i64 (F i).m) := by
  obtain ⟨cs, h1, h2⟩ := h; simp [World.cell?, h1, h2 i hi]
theorem BlJ.fz {w : World} {g n : Nat} {F : Nat → Jb} (h : BlJ w g n F) (i : Nat) : w.frozen? ⟨g, i, none⟩ = false := by obtain ⟨cs, h1, _⟩ := h; simp [World.frozen?, h1]
theorem BlJ.congr {w : World} {g n : Nat} {F F' : Nat → Jb} (h : BlJ w g n F) (e : ∀ i, i < n → F i = F' i) : BlJ w g n F' := by obtain ⟨cs, h1, h2⟩ := h; exact ⟨cs, h1, fun i hi => by rw [← e i hi]; exact h2 i hi⟩
theorem BlJ.set {w : World} {g n j : Nat} {F : Nat → Jb} (h : BlJ w g n F) (hj : j < n) (x : Jb) : BlJ ((w.setCell ⟨g, j * 2, none⟩ (.int .i64 x.h)).setCell ⟨g, j * 2 + 1, none⟩ (.int .i64 x.m)) g n (fun i => if i = j then x else F i) := by
  obtain ⟨cs, h1, h2⟩ := h
  have s1 : j * 2 < cs.size := (Array.getElem?_eq_some_iff.1 (h2 j hj).1).1
  have s2 : j * 2 + 1 < cs.size := (Array.getElem?_eq_some_iff.1 (h2 j hj).2).1
  refine ⟨(cs.setIfInBounds (j * 2) (.int .i64 x.h)).setIfInBounds (j * 2 + 1) (.int .i64 x.m), by simp [World.setCell, Array.getElem?_modify, h1], fun i hi => ?_⟩
  obtain ⟨a, b⟩ := h2 i hi
  simp only [Array.getElem?_setIfInBounds, Array.size_setIfInBounds]
  by_cases e : i = j
  · subst e
    have e1 : ¬ i * 2 + 1 = i * 2 := by omega
    simp [s1, s2]
  · have e1 : ¬ j * 2 + 1 = i * 2 := by omega
    have e2 : ¬ j * 2 = i * 2 := by omega
    have e3 : ¬ j * 2 + 1 = i * 2 + 1 := by omega
    have e4 : ¬ j * 2 = i * 2 + 1 := by omega
    simp [e, e1, e2, e3, e4, a, b]
def BlL (w : World) (g n : Nat) (V : Nat → Value) : Prop := ∃ cs : Array Value, w.heap[g]? = some (.cells cs 51 (0, 0)) ∧ ∀ i, i < n → cs[i]? = some (V i)
theorem BlL.lt {w : World} {g n : Nat} {V : Nat → Value} (h : BlL w g n V) : g < w.heap.size := by obtain ⟨cs, h1, _⟩ := h; exact blk_lt h1
theorem BlL.to {w w' : World} {g n : Nat} {V : Nat → Value} (h : BlL w g n V) (hb : w'.heap[g]? = w.heap[g]?) : BlL w' g n V := by obtain ⟨cs, h1, h2⟩ := h; exact ⟨cs, hb.trans h1, h2⟩
theorem BlL.cell {w : World} {g n i : Nat} {V : Nat → Value} (h : BlL w g n V) (hi : i < n) : w.cell? ⟨g, i, none⟩ = some (V i) := by obtain ⟨cs, h1, h2⟩ := h; simp [World.cell?, h1, h2 i hi]
theorem BlL.fz {w : World} {g n : Nat} {V : Nat → Value} (h : BlL w g n V) (i : Nat) : w.frozen? ⟨g, i, none⟩ = false := by obtain ⟨cs, h1, _⟩ := h; simp [World.frozen?, h1]
theorem BlL.set {w : World} {g n j : Nat} {V : Nat → Value} (h : BlL w g n V) (hj : j < n) (x : Value) : BlL (w.setCell ⟨g, j, none⟩ x) g n (fun i => if i = j then x else V i) := by
  obtain ⟨cs, h1, h2⟩ := h
  have hjs : j < cs.size := by have := h2 j hj; exact (Array.getElem?_eq_some_iff.1 this).1
  refine ⟨cs.setIfInBounds j x, by simp [World.setCell, Array.getElem?_modify, h1], fun i hi => ?_⟩
  rw [Array.getElem?_setIfInBounds]
  by_cases e : i = j
  · subst e
    simp [hjs]
  · have e2 : ¬ j = i := fun h => e h.symm
    simp [e, e2, h2 i hi]
theorem info51 : (Try.prog.info? 51).map (fun i => (i.zero, i.size, i.bytes)) = some (some (.slice none 0 0), 1, 24) := by kernel_rfl
theorem info54 : (Try.prog.info? 54).map (fun i => (i.zero, i.size, i.bytes)) = some (some (.agg #[.int .i64 0, .int .i64 0]), 2, 16) := by kernel_rfl
def mkLl (w : World) (n : Nat) : World := w.alloc (.cells (madeCells #[.slice none 0 0] n) 51)
theorem mkLl_blk (w : World) (n : Nat) : BlL (mkLl w n) w.heap.size n (fun _ => .slice none 0 0) := ⟨madeCells #[.slice none 0 0] n, heap_alloc_new w _, fun i hi => by unfold madeCells; simp [hi, Nat.mod_one]⟩
theorem run_mkLl (w : World) (n : Nat) (hn : n ≤ 1000000) : (Instr.makeSlice 58 (.int .i64 n) (.int .i64 n)).run Try.prog w = .ok (.slice (some ⟨w.heap.size, 0, none⟩) n n) (mkLl w n) := by
  have hi := info51
  cases h : Try.prog.info? 51 with
  | none => rw [h] at hi; cases hi
  | some i =>
    rw [h] at hi
    simp only [Option.map_some, Option.some.injEq, Prod.mk.injEq] at hi
    obtain ⟨h1, h2, h3⟩ := hi
    have := run_make (P := Try.prog) w 58 51 i (.slice none 0 0) Try.underlying58 h h1 .i64 .i64 (n : Int) (n : Int) (by omega) (Int.le_refl _) (by rw [h3]; omega) (by omega)
    rw [this, h2]
    simp [mkLl, Value.cells]
def mkJj (w : World) (n : Nat) : World := w.alloc (.cells (madeCells #[.int .i64 0, .int .i64 0] (n * 2)) 54)
theorem mkJj_blk (w : World) (n : Nat) : BlJ (mkJj w n) w.heap.size n (fun _ => ⟨0, 0⟩) := by
  refine ⟨madeCells #[.int .i64 0, .int .i64 0] (n * 2), heap_alloc_new w _, fun i hi => ?_⟩
  unfold madeCells
  have e1 : i * 2 % 2 = 0 := by omega
  have e2 : (i * 2 + 1) % 2 = 1 := by omega
  have e3 : i * 2 < n * 2 := by omega
  have e4 : i * 2 + 1 < n * 2 := by omega
  simp [e1, e2, e3, e4]
theorem run_mkJj (w : World) (n : Nat) (hn : n ≤ 1000000) : (Instr.makeSlice 51 (.int .i64 n) (.int .i64 n)).run Try.prog w = .ok (.slice (some ⟨w.heap.size, 0, none⟩) n n) (mkJj w n) := by
  have hi := info54
  cases h : Try.prog.info? 54 with
  | none => rw [h] at hi; cases hi
  | some i =>
    rw [h] at hi
    simp only [Option.map_some, Option.some.injEq, Prod.mk.injEq] at hi
    obtain ⟨h1, h2, h3⟩ := hi
    have := run_make (P := Try.prog) w 51 54 i (.agg #[.int .i64 0, .int .i64 0]) Try.underlying51 h h1 .i64 .i64 (n : Int) (n : Int) (by omega) (Int.le_refl _) (by rw [h3]; omega) (by omega)
    rw [this, h2]
    simp [mkJj, Value.cells]

/-- Lists of jobs, the first k of which are made. -/
structure LjW (base g n : Nat) (V : Nat → Value) (k : Nat) (G : Nat → Nat) (l : Nat → List Jb) (f : Jb → Jb) (X : World) : Prop where
  blk : BlL X g n V
  lt : g < base
  sub : ∀ i, i < k → V i = .slice (some ⟨G i, 0, none⟩) (l i).length (l i).length ∧ base ≤ G i ∧ BlJ X (G i) (l i).length (fun j => f (jb (l i) j))
theorem LjW.up {base g n k : Nat} {V : Nat → Value} {G : Nat → Nat} {l : Nat → List Jb} {f : Jb → Jb} {X Y : World} (h : LjW base g n V k G l f X) (hb : Below X.heap.size X Y) : LjW base g n V k G l f Y :=
  ⟨h.blk.to (hb.block g h.blk.lt), h.lt, fun i hi => ⟨(h.sub i hi).1, (h.sub i hi).2.1, (h.sub i hi).2.2.to (hb.block _ (h.sub i hi).2.2.lt)⟩⟩
/-- What lies elsewhere may be written to. -/
theorem LjW.far {base g n k b : Nat} {V : Nat → Value} {G : Nat → Nat} {l : Nat → List Jb} {f : Jb → Jb} {X : World} (h : LjW base g n V k G l f X) (hb : base ≤ b) (hG : ∀ i, i < k → G i < b) (q q' : Nat) (v v' : Value) : LjW base g n V k G l f ((X.setCell ⟨b, q, none⟩ v).setCell ⟨b, q', none⟩ v') := by
  have hf : ∀ c, c ≠ b → ((X.setCell ⟨b, q, none⟩ v).setCell ⟨b, q', none⟩ v').heap[c]? = X.heap[c]? := fun c hc => (setCell_far hc).trans (setCell_far hc)
  exact ⟨h.blk.to (hf g (by have := h.lt; omega)), h.lt, fun i hi => ⟨(h.sub i hi).1, (h.sub i hi).2.1, (h.sub i hi).2.2.to (hf _ (by have := hG i hi; omega))⟩⟩

set_option maxRecDepth 100000 in
theorem worst1_any (x : Jb) (w : World) (hx : okJ x) : Calls Try.prog 83 #[.agg #[.int .i64 x.h, .int .i64 x.m]] w fun e w' => e = .returned (.agg #[.int .i64 (ng x).h, .int .i64 (ng x).m]) ∧ Below w.heap.size w w' := by
  obtain ⟨⟨x1, x2⟩, x3, x4⟩ := hx
  obtain ⟨xh, xm⟩ := x
  simp only [ng] at *
  have hn : IntKind.i64.wrap (-xm) = -xm := IntWalk.i64_in _ (by omega)
  have hb := Lib.hid (((Below.refl w.heap.size w).alloc (Nat.le_refl _) (.cells #[.int .i64 xh, .int .i64 xm] 54)).alloc (by simp) (.cells #[.int .i64 xh, .int .i64 (-xm)] 54))
  go_enter Try.func83, Try.ntmps83
  go_wp2
  exact bodyPost_ret (v := .agg #[.int .i64 xh, .int .i64 (-xm)]) (by simp [results, Try.results83, go_sem]) rfl ⟨rfl, hb.out⟩

/-- What each makes. -/
def EaWP (J : List (List Jb)) (n : Nat) (w : World) (e : Ending) (w' : World) : Prop :=
  ∃ g base V G, e = .returned (.slice (some ⟨g, 0, none⟩) n n) ∧ Below w.heap.size w w' ∧ w.heap.size ≤ g ∧ LjW base g n V n G (be J) ng w'
set_option maxRecDepth 100000 in
set_option maxHeartbeats 8000000 in
theorem eachW_any (B : Nat) (A : Option Addr) (c : Nat) (D : List Bc) (w : World) (h : Bcs w B A D) (hB : B ≤ w.heap.size) (hv : vJ (bl D)) :
    Calls Try.prog 82 #[.slice A D.length c, .func (.func 83) #[] #[]] w (EaWP (bl D) D.length w) := by
  have h63 := h.1
  have hlen := bl_len D
  have hn6 : D.length ≤ 6 := by have := hv.1.2; rw [hlen] at this; exact this
  have hat := fun X (hX : Below w.heap.size w X) k (hk : k < D.length) => (h.below (hX.mono hB)).at_ k hk
  have hbl := fun i (hi : i < D.length) => Nat.le_trans (be_le (show i < (bl D).length by rw [hlen]; exact hi)) hv.2.1
  have hok : ∀ k, k < D.length → ∀ i, i < (be (bl D) k).length → okJ (jb (be (bl D) k) i) := fun k hk => hv.2.2 k (by rw [hlen]; exact hk)
  have hm1 := run_mkLl w D.length (by omega)
  have hmk := fun X n (hn : n ≤ 12) => run_mkJj X n (by omega)
  have hL0 : LjW (w.heap.size + 1) w.heap.size D.length (fun _ => .slice none 0 0) 0 (fun _ => 0) (be (bl D)) ng (mkLl w D.length) := ⟨mkLl_blk w _, Nat.lt_succ_self _, fun i hi => absurd hi (Nat.not_lt_zero _)⟩
  have hb0 : Below w.heap.size w (mkLl w D.length) := ba1 _ _
  have hz0 : (mkLl w D.length).heap.size = w.heap.size + 1 := by simp [mkLl]
  obtain ⟨J, hJ⟩ : ∃ J, J = bl D := ⟨_, rfl⟩
  rw [← hJ] at hat hbl hok hL0 ⊢
  obtain ⟨n, hn⟩ : ∃ n, n = D.length := ⟨_, rfl⟩
  rw [← hn] at h63 hn6 hat hbl hok hm1 hL0 hb0 hz0 ⊢
  obtain ⟨Y, hY⟩ : ∃ Y, Y = mkLl w n := ⟨_, rfl⟩
  rw [← hY] at hm1 hL0 hb0 hz0
  obtain ⟨g, hg⟩ : ∃ g, g = w.heap.size := ⟨_, rfl⟩
  rw [← hg] at hm1 hL0 hz0
  have hzg : g + 1 ≤ Y.heap.size := by omega
  replace hz0 := Lib.hid hz0
  replace hY := Lib.hid hY
  replace hn := Lib.hid hn
  replace hJ := Lib.hid hJ
  replace hlen := Lib.hid hlen
  replace hat := Lib.hid hat
  replace hbl := Lib.hid hbl
  replace hok := Lib.hid hok
  replace hmk := Lib.hid hmk
  replace hL0 := Lib.hid hL0
  replace hb0 := Lib.hid hb0
  replace hv := Lib.hid hv
  replace h := Lib.hid h
  replace hg := Lib.hid hg
  go_enter Try.func82, Try.ntmps82
  go_wp2
  go_loopw [6, 7, 8, 9, 15, 28] (fun _ _ _ _ i _ X => ∃ (k : Nat) (V : Nat → Value) (G : Nat → Nat), k ≤ n ∧ i = .int .i64 (k : Nat) ∧ Below w.heap.size w X ∧ LjW (g + 1) g n V k G (be J) ng X ∧ g + 1 ≤ X.heap.size) (fun _ _ _ _ i _ _ => n - (intOf i).toNat)
  case atStart => exact ⟨0, _, _, by omega, rfl, hb0.out, hL0.out, hzg⟩
  case round =>
    clear hb0 hL0 hm1 hzg
    obtain ⟨k, V, G, hk, rfl, hX, hLs, hgX⟩ := hrel
    by_cases hlk : k < n
    · obtain ⟨b, o, rfl, hb, e0, hjb⟩ := hat.out wr hX k hlk
      have hL12 := hbl.out k hlk
      have hokk := hok.out k hlk
      have hm2 := hmk.out wr (be J k).length hL12
      have hjb2 := fun X (hX : Below w.heap.size w X) => (hat.out X hX k hlk)
      obtain ⟨A2, hA2⟩ : ∃ A2, A2 = (bc D k).A := ⟨_, rfl⟩
      obtain ⟨c2, hc2⟩ : ∃ c2, c2 = (bc D k).c := ⟨_, rfl⟩
      rw [← hA2, ← hc2] at e0
      have hj3 : ∀ X, Below w.heap.size w X → ∀ t, t < (be J k).length → ∃ b o, A2 = some ⟨b, o, none⟩ ∧ b < B ∧ X.cell? ⟨b, o + t * 2, none⟩ = some (.int .i64 (jb (be J k) t).h) ∧ X.cell? ⟨b, o + t * 2 + 1, none⟩ = some (.int .i64 (jb (be J k) t).m) := fun X hX t ht => by
        obtain ⟨b, o, _, _, _, hj⟩ := hat.out X hX k hlk
        rw [hA2]; exact hj.at_ t ht
      have hLJ := hLs.up (ba1 wr (.cells (madeCells #[.int .i64 0, .int .i64 0] ((be J k).length * 2)) 54))
      have hXJ := bel_trans hX (ba1 wr (.cells (madeCells #[.int .i64 0, .int .i64 0] ((be J k).length * 2)) 54))
      have hBJ := mkJj_blk wr (be J k).length
      have hGl : ∀ i, i < k → G i < wr.heap.size := fun i hi => (hLs.sub i hi).2.2.lt
      have hfz := hLJ.blk.fz k
      have hgl := hLJ.blk.lt
      have hcl := hLJ.blk.cell hlk
      obtain ⟨bj, hbj⟩ : ∃ b, b = wr.heap.size := ⟨_, rfl⟩
      rw [← hbj] at hm2 hGl hBJ
      have hbg : g + 1 ≤ bj := by omega
      obtain ⟨Z, hZ⟩ : ∃ Z, Z = mkJj wr (be J k).length := ⟨_, rfl⟩
      have hZ' : wr.alloc (.cells (madeCells #[.int .i64 0, .int .i64 0] ((be J k).length * 2)) 54) = Z := hZ.symm
      rw [hZ'] at hLJ hXJ hfz hgl hcl
      rw [← hZ] at hm2 hBJ
      have hzs : g + 1 ≤ Z.heap.size := by have := hBJ.lt; omega
      obtain ⟨l, hl⟩ : ∃ l, l = be J k := ⟨_, rfl⟩
      rw [← hl] at e0 hL12 hokk hm2 hj3 hBJ
      obtain ⟨L, hL⟩ : ∃ L, L = l.length := ⟨_, rfl⟩
      rw [← hL] at e0 hL12 hokk hm2 hj3 hBJ
      have hset := hLJ.blk.set hlk (.slice (some ⟨bj, 0, none⟩) L L)
      have hL2 : LjW (g + 1) g n (fun i => if i = k then .slice (some ⟨bj, 0, none⟩) L L else V i) k G (be J) ng (Z.setCell ⟨g, k, none⟩ (.slice (some ⟨bj, 0, none⟩) L L)) := ⟨hset, hLJ.lt, fun i hi => ⟨by rw [if_neg (by omega)]; exact (hLJ.sub i hi).1, (hLJ.sub i hi).2.1, (hLJ.sub i hi).2.2.to (setCell_far (by have := (hLJ.sub i hi).2.1; omega))⟩⟩
      have hX2 : Below w.heap.size w (Z.setCell ⟨g, k, none⟩ (.slice (some ⟨bj, 0, none⟩) L L)) := hXJ.setCell (show w.heap.size ≤ g by rw [hg.out]; exact Nat.le_refl _) _
      have hB2 : BlJ (Z.setCell ⟨g, k, none⟩ (.slice (some ⟨bj, 0, none⟩) L L)) bj L (fun j => if j < 0 then ng (jb l j) else ⟨0, 0⟩) := (hBJ.to (setCell_far (by omega))).congr fun j _ => by rw [if_neg (Nat.not_lt_zero _)]
      have hzs2 : g + 1 ≤ (Z.setCell ⟨g, k, none⟩ (.slice (some ⟨bj, 0, none⟩) L L)).heap.size := by simp; exact hzs
      replace hZ := Lib.hid hZ
      replace hZ' := Lib.hid hZ'
      replace hL2 := Lib.hid hL2
      replace hX2 := Lib.hid hX2
      replace hB2 := Lib.hid hB2
      replace hLJ := Lib.hid hLJ
      replace hXJ := Lib.hid hXJ
      replace hBJ := Lib.hid hBJ
      replace hGl := Lib.hid hGl
      replace hset := Lib.hid hset
      replace hokk := Lib.hid hokk
      replace hj3 := Lib.hid hj3
      replace hl := Lib.hid hl
      replace hL := Lib.hid hL
      replace hA2 := Lib.hid hA2
      replace hc2 := Lib.hid hc2
      replace hbj := Lib.hid hbj
      replace hX := Lib.hid hX
      replace hLs := Lib.hid hLs
      replace hjb := Lib.hid hjb
      clear hjb2 hgX
      go_wp2
      clear hm2 hcl hfz hgl hzs e0
      generalize Z.setCell ⟨g, k, none⟩ (.slice (some ⟨bj, 0, none⟩) L L) = Z2 at hL2 hX2 hB2 hzs2 ⊢
      go_loopw [8, 9, 28] (fun _ _ i X => ∃ t : Nat, t ≤ L ∧ i = .int .i64 (t : Nat) ∧ Below w.heap.size w X ∧ LjW (g + 1) g n (fun i => if i = k then .slice (some ⟨bj, 0, none⟩) L L else V i) k G (be J) ng X ∧ BlJ X bj L (fun j => if j < t then ng (jb l j) else ⟨0, 0⟩) ∧ g + 1 ≤ X.heap.size) (fun _ _ i _ => L - (intOf i).toNat)
      case atStart => exact ⟨0, by omega, rfl, hX2.out, hL2.out, hB2.out, hzs2⟩
      case round =>
        clear hX2 hL2 hB2 hzs2
        obtain ⟨t, ht, rfl, hX3, hL3, hB3, hz3⟩ := hrel
        by_cases hlt : t < L
        · obtain ⟨b3, o3, rfl, hb3, d0, d1⟩ := hj3.out wr hX3 t hlt
          have hx := hokk.out t hlt
          obtain ⟨x, hxx⟩ : ∃ x, x = jb l t := ⟨_, rfl⟩
          rw [← hxx] at d0 d1 hx
          have k83 := fun X => worst1_any x X hx
          have hW1 := ba1 wr (.cells #[.int .i64 x.h, .int .i64 x.m] 54)
          have hbox := Bxj.new wr x
          have y0 := hL3.blk.cell hlk
          rw [if_pos rfl] at y0
          have hgl := hL3.blk.lt
          have hbl3 := hB3.lt
          have hfin : ∀ X, Below wr.heap.size wr X → Below w.heap.size w ((X.setCell ⟨bj, t * 2, none⟩ (.int .i64 (ng x).h)).setCell ⟨bj, t * 2 + 1, none⟩ (.int .i64 (ng x).m)) ∧ LjW (g + 1) g n (fun i => if i = k then .slice (some ⟨bj, 0, none⟩) L L else V i) k G (be J) ng ((X.setCell ⟨bj, t * 2, none⟩ (.int .i64 (ng x).h)).setCell ⟨bj, t * 2 + 1, none⟩ (.int .i64 (ng x).m)) ∧ BlJ ((X.setCell ⟨bj, t * 2, none⟩ (.int .i64 (ng x).h)).setCell ⟨bj, t * 2 + 1, none⟩ (.int .i64 (ng x).m)) bj L (fun j => if j < t + 1 then ng (jb l j) else ⟨0, 0⟩) ∧ g + 1 ≤ ((X.setCell ⟨bj, t * 2, none⟩ (.int .i64 (ng x).h)).setCell ⟨bj, t * 2 + 1, none⟩ (.int .i64 (ng x).m)).heap.size := fun X hXX => by
            have hwb : w.heap.size ≤ bj := by have := hg.out; omega
            refine ⟨((bel_trans hX3 hXX).setCell hwb _).setCell hwb _, (hL3.up hXX).far hbg hGl.out _ _ _ _, ((hB3.to (hXX.block _ hbl3)).set hlt (ng x)).congr fun j hj => ?_, by simp; have := hXX.size; omega⟩
            by_cases e : j = t
            · rw [if_pos e, if_pos (by omega), e, hxx]
            · rw [if_neg e]
              by_cases e2 : j < t
              · rw [if_pos e2, if_pos (by omega)]
              · rw [if_neg e2, if_neg (by omega)]
          have hcel : ∀ X, Below wr.heap.size wr X → X.cell? ⟨bj, t * 2, none⟩ = some (.int .i64 0) ∧ X.cell? ⟨bj, t * 2 + 1, none⟩ = some (.int .i64 0) ∧ X.frozen? ⟨bj, t * 2, none⟩ = false ∧ X.frozen? ⟨bj, t * 2 + 1, none⟩ = false := fun X hXX => by
            have hq := hB3.to (hXX.block _ hbl3)
            have hc := hq.cell hlt
            rw [if_neg (Nat.lt_irrefl _)] at hc
            exact ⟨hc.1, hc.2, hq.fz _, hq.fz _⟩
          have hS : ∀ X, Below (wr.alloc (.cells #[.int .i64 x.h, .int .i64 x.m] 54)).heap.size (wr.alloc (.cells #[.int .i64 x.h, .int .i64 x.m] 54)) X → X.cell? ⟨g, k, none⟩ = some (.slice (some ⟨bj, 0, none⟩) L L) ∧ X.cell? ⟨wr.heap.size, 0, none⟩ = some (.int .i64 x.h) ∧ X.cell? ⟨wr.heap.size, 1, none⟩ = some (.int .i64 x.m) := fun X hXX =>
            ⟨((bel_trans hW1 hXX).cell (p := ⟨g, k, none⟩) hgl).trans y0, (hbox.up hXX).c0, (hbox.up hXX).c1⟩
          have htL : (t : Int) < (L : Int) := by omega
          have hkn : (k : Int) < (n : Int) := by omega
          obtain ⟨W1, hW1e⟩ : ∃ W1, W1 = wr.alloc (.cells #[.int .i64 x.h, .int .i64 x.m] 54) := ⟨_, rfl⟩
          rw [← hW1e] at hW1 hbox hS
          have hgbj : g ≠ bj := by omega
          have hS3 : ∀ X, Below W1.heap.size W1 X → ((X.setCell ⟨bj, t * 2, none⟩ (.int .i64 (ng x).h)).setCell ⟨bj, t * 2 + 1, none⟩ (.int .i64 (ng x).m)).cell? ⟨g, k, none⟩ = some (.slice (some ⟨bj, 0, none⟩) L L) ∧ ((X.setCell ⟨bj, t * 2, none⟩ (.int .i64 (ng x).h)).setCell ⟨bj, t * 2 + 1, none⟩ (.int .i64 (ng x).m)).cell? ⟨wr.heap.size, 0, none⟩ = some (.int .i64 x.h) ∧ ((X.setCell ⟨bj, t * 2, none⟩ (.int .i64 (ng x).h)).setCell ⟨bj, t * 2 + 1, none⟩ (.int .i64 (ng x).m)).cell? ⟨wr.heap.size, 1, none⟩ = some (.int .i64 x.m) := fun X hXX => by
            obtain ⟨s1, s2, s3⟩ := hS X hXX
            have f1 : ((X.setCell ⟨bj, t * 2, none⟩ (.int .i64 (ng x).h)).setCell ⟨bj, t * 2 + 1, none⟩ (.int .i64 (ng x).m)).heap[g]? = X.heap[g]? := (setCell_far hgbj).trans (setCell_far hgbj)
            have f2 : ((X.setCell ⟨bj, t * 2, none⟩ (.int .i64 (ng x).h)).setCell ⟨bj, t * 2 + 1, none⟩ (.int .i64 (ng x).m)).heap[wr.heap.size]? = X.heap[wr.heap.size]? := (setCell_far (by omega)).trans (setCell_far (by omega))
            exact ⟨(World.cell?_of_block (a := ⟨g, k, none⟩) f1).trans s1, (World.cell?_of_block (a := ⟨wr.heap.size, 0, none⟩) f2).trans s2, (World.cell?_of_block (a := ⟨wr.heap.size, 1, none⟩) f2).trans s3⟩
          have hfin2 := fun X (hXX : Below W1.heap.size W1 X) => hfin X (bel_trans hW1 hXX)
          have hcel2 := fun X (hXX : Below W1.heap.size W1 X) => hcel X (bel_trans hW1 hXX)
          clear hfin hcel
          have hWe := Lib.hid hW1e.symm
          replace hW1e := Lib.hid hW1e
          replace hfin2 := Lib.hid hfin2
          replace hcel2 := Lib.hid hcel2
          replace k83 := Lib.hid k83
          replace hxx := Lib.hid hxx
          replace hx := Lib.hid hx
          replace hbox := Lib.hid hbox
          replace hW1 := Lib.hid hW1
          replace hX3 := Lib.hid hX3
          replace hL3 := Lib.hid hL3
          replace hB3 := Lib.hid hB3
          obtain ⟨bq, hbq⟩ : ∃ b, b = wr.heap.size := ⟨_, rfl⟩
          rw [← hbq] at hS hS3
          replace hS3 := Lib.hid hS3
          replace hS := Lib.hid hS
          replace hbq := Lib.hid hbq
          go_wp2_with fail
          rw [hWe.out, ← hbq.out]
          go_region_held3 (fun X => X.cell? ⟨g, k, none⟩ = some (.slice (some ⟨bj, 0, none⟩) L L) ∧ X.cell? ⟨bq, 0, none⟩ = some (.int .i64 x.h) ∧ X.cell? ⟨bq, 1, none⟩ = some (.int .i64 x.m)) (first | with_reducible exact hS.out _ (by assumption) | with_reducible exact hS3.out _ (by assumption) | exact hS.out _ (below_drewN (Below.refl _ _) 1)) ((go_at_call 83; refine (k83.out _).mono ?_; rintro e X4 ⟨rfl, hb4⟩; have hb5 : Below W1.heap.size W1 X4 := (below_drewN (Below.refl W1.heap.size W1) 1).trans hb4; obtain ⟨z0, z1, z2, z3⟩ := hcel2.out X4 hb5; have hf5 := Lib.hid (hfin2.out X4 hb5)))
          all_goals
            go_wp2
            go_roundw
            case rel => exact ⟨t + 1, by omega, by go_num, hf5.out.1, hf5.out.2.1, hf5.out.2.2.1, hf5.out.2.2.2⟩
            case measure => simp [intOf]; omega
        · have ht' : L = t := by omega
          subst ht'
          have hlend : LjW (g + 1) g n (fun i => if i = k then .slice (some ⟨bj, 0, none⟩) L L else V i) (k + 1) (fun i => if i = k then bj else G i) (be J) ng wr := by
            refine ⟨hL3.blk, hL3.lt, fun i hi => ?_⟩
            by_cases e : i = k
            · subst e
              have e2 : (be J i).length = L := by rw [← hl.out]; exact hL.out.symm
              rw [if_pos rfl, if_pos rfl, e2]
              exact ⟨rfl, hbg, by rw [← hl.out]; exact hB3.congr fun j hj => if_pos hj⟩
            · have := hL3.sub i (by omega)
              simp only [if_neg e] at this ⊢
              exact this
          replace hlend := Lib.hid hlend
          replace hX3 := Lib.hid hX3
          replace hL3 := Lib.hid hL3
          replace hB3 := Lib.hid hB3
          go_wp2
          go_roundw
          case rel => exact ⟨k + 1, _, _, by omega, by go_num, hX3.out, hlend.out, hz3⟩
          case measure => simp [intOf]; omega
    · have hk' : k = n := by omega
      subst hk'
      replace hX := Lib.hid hX
      replace hLs := Lib.hid hLs
      go_wp2
      go_ret
      exact ⟨g, g + 1, V, G, rfl, hX.out, by rw [hg.out]; exact Nat.le_refl _, hLs.out⟩
end Go.Proofs.Ytgjgpcpghglnnaa
