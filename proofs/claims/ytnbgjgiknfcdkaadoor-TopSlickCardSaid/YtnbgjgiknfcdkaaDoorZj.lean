/-
  'after' of the specification.
-/
import Derived.Test.YtnbgjgiknfcdkaaDoorZi
namespace Go.Proofs.YtnbgjgiknfcdkaaDoor
open Go.RowKit Go.Deep M
set_option linter.unusedVariables false
set_option linter.unusedSimpArgs false

theorem row_but {w Y : World} {B B' b : Nat} {A : Option Addr} {l : List Int} (h : Row w B A l) (hk : ∀ d : Nat, d ≠ b → Y.heap[d]? = w.heap[d]?) (hA : ∀ a, A = some a → a.block ≠ b) (hB : B ≤ B') : Row Y B' A l :=
  ⟨h.1, fun hn => by
    obtain ⟨b', o, e, hb, hc⟩ := h.2 hn
    exact ⟨b', o, e, by omega, fun i hi => (World.cell?_of_block (hk b' (hA _ e))).trans (hc i hi)⟩⟩
theorem set3_but (w : World) (b : Nat) (x y z : Value) (d : Nat) (hd : d ≠ b) : (((w.setCell ⟨b, 0, none⟩ x).setCell ⟨b, 1, none⟩ y).setCell ⟨b, 2, none⟩ z).heap[d]? = w.heap[d]? := by
  rw [setCell_block _ _ _ _ _ hd, setCell_block _ _ _ _ _ hd, setCell_block _ _ _ _ _ hd]
theorem set3_size (w : World) (b : Nat) (x y z : Value) : (((w.setCell ⟨b, 0, none⟩ x).setCell ⟨b, 1, none⟩ y).setCell ⟨b, 2, none⟩ z).heap.size = w.heap.size := by simp [World.setCell]
/-- The world under way: the bay's box, the slick's box, which is written to again and again, the result. -/
structure ReW (w : World) (W H l s : Value) (k1 : Int) (A : Option Addr) (N c : Nat) (x : Int) (q : List Int) (X : World) : Prop where
  below : Below w.heap.size w X
  bay : Quad X w.heap.size W H l s
  slk : Tri X (w.heap.size + 1) (.int .i64 k1) (.slice A N c) (.int .i64 x)
  res : Tri X (w.heap.size + 1 + 1) (.int .i64 0) (.slice none 0 0) (.int .i64 0)
  row : Row X X.heap.size A q
  far : ∀ a, A = some a → a.block ≠ w.heap.size + 1 ∧ a.block ≠ w.heap.size + 1 + 1
theorem ReW.step {w : World} {W H l s : Value} {k1 k2 : Int} {A A' : Option Addr} {N c c' : Nat} {x x' : Int} {q q' : List Int} {X Y : World} (h : ReW w W H l s k1 A N c x q X) (hb : Below X.heap.size X Y) (hr : Row Y Y.heap.size A' q') (hf : Fresh X.heap.size A') :
    ReW w W H l s k2 A' N c' x' q' (((Y.setCell ⟨w.heap.size + 1, 0, none⟩ (.int .i64 k2)).setCell ⟨w.heap.size + 1, 1, none⟩ (.slice A' N c')).setCell ⟨w.heap.size + 1, 2, none⟩ (.int .i64 x')) := by
  have h3 := h.res.lt
  have hz := hb.size
  refine ⟨tri_below (h.below.trans (hb.mono h.below.size)) (by omega), (set3_but _ _ _ _ _ _ (by omega)).trans (h.bay.up hb), (h.slk.up hb).set _ _ _, (set3_but _ _ _ _ _ _ (by omega)).trans (h.res.up hb), ?_, fun a ha => ?_⟩
  · refine row_but hr (fun d hd => set3_but _ _ _ _ _ _ hd) (fun a ha => ?_) (by rw [set3_size]; exact Nat.le_refl _)
    have := hf a ha
    omega
  · have := hf a ha
    omega
theorem reW_start (w : World) (B : Nat) (W H l s : Value) (K : Int) (A : Option Addr) (N c : Nat) (x : Int) (q : List Int) (h : Row w B A q) (hB : B ≤ w.heap.size) (hf : ∀ a, A = some a → a.block < w.heap.size) :
    ReW w W H l s K A N c x q (((w.alloc (.cells #[W, H, l, s] 25)).alloc (.cells #[.int .i64 K, .slice A N c, .int .i64 x] 28)).alloc (.cells #[.int .i64 0, .slice none 0 0, .int .i64 0] 28)) := by
  refine ⟨ba3 w _ _ _, ((Quad.new w W H l s).up (ba1 _ _)).up (ba1 _ _), ?_, ?_, (h.below ((ba3 w _ _ _).mono hB)).more (by simp; omega), fun a ha => ?_⟩
  · have := (Tri.new (w.alloc (.cells #[W, H, l, s] 25)) (.int .i64 K) (.slice A N c) (.int .i64 x)).up (ba1 _ (.cells #[.int .i64 0, .slice none 0 0, .int .i64 0] 28))
    simpa using this
  · have := Tri.new ((w.alloc (.cells #[W, H, l, s] 25)).alloc (.cells #[.int .i64 K, .slice A N c, .int .i64 x] 28)) (.int .i64 0) (.slice none 0 0) (.int .i64 0)
    simpa using this
  · have := hf a ha
    omega

set_option maxRecDepth 100000 in
set_option maxHeartbeats 4000000 in
theorem afterR_any (B wn hn : Nat) (aL aS aO : Option Addr) (cL cS cO : Nat) (L : List Bool) (S : List Int) (K : Int) (O : List Int) (aw : Int) (n : Nat) (w : World) (h : BayIn w B aL L aS (wn * hn) S) (hO : Row w B aO O) (hB : B ≤ w.heap.size) (hBay : Bay wn hn L S) (hl : O.length = wn * hn) (hK : 0 ≤ K ∧ K + n ≤ 5)
    (hnn : NonNeg (amt O aw)) (ht : (16 : Int) ^ n * tot (amt O aw) ≤ 1000000000000) :
    Calls Tryd.prog 71 #[.agg #[.int .i64 (wn : Nat), .int .i64 (hn : Nat), .slice aL (wn * hn) cL, .slice aS (wn * hn) cS], .agg #[.int .i64 K, .slice aO (wn * hn) cO, .int .i64 aw], .int .i64 (n : Nat)] w fun e w' => ∃ A c, e = .returned (.agg #[.int .i64 (K + n), .slice A (wn * hn) c, .int .i64 (el (af wn hn L S n (amt O aw)) (wn * hn))]) ∧ Below w.heap.size w w' ∧ Row w' w'.heap.size A (pre (wn * hn) (af wn hn L S n (amt O aw))) := by
  have h36 := hBay.cells
  have hal : (amt O aw).length = wn * hn + 1 := by rw [amt_len, hl]
  have haO : ∀ a, aO = some a → a.block < w.heap.size := fun a ha => by
    obtain ⟨b, o, e, hb, _⟩ := hO.2 (by omega)
    rw [ha] at e
    cases e
    show b < w.heap.size
    omega
  have hp0 : O = pre (wn * hn) (amt O aw) := by rw [← hl, pre_amt]
  have hlast : aw = el (amt O aw) (wn * hn) := by rw [← hl, amt_away]
  generalize amt O aw = a at *
  generalize hN : wn * hn = N at *
  have hst := reW_start w B (.int .i64 (wn : Nat)) (.int .i64 (hn : Nat)) (.slice aL N cL) (.slice aS N cS) K aO N cO aw (pre N a) (by rw [← hp0]; exact hO) hB haO
  have hbnd : ∀ k, k ≤ n → ∀ i, i < N + 1 → 0 ≤ el (af wn hn L S k a) i ∧ el (af wn hn L S k a) i ≤ 1000000000000 := fun k hk i hi => by
    have e1 := af_len (L := L) (S := S) (by rw [hN]; exact hal) k
    rw [hN] at e1
    have e2 := af_nonneg hBay (by rw [hN]; exact hal) hnn k
    have e3 := el_le_tot e2 i (by omega)
    have e4 := af_tot (L := L) (S := S) hBay (by rw [hN]; exact hal) k
    have e5 := pow16 k n hk (tot a) (tot_nonneg hnn)
    refine ⟨e2 i (by omega), ?_⟩
    omega
  have c86 : ∀ X k (kk x : Int) A c, k < n → kk = K + (k : Nat) → x = el (af wn hn L S k a) N → ReW w (.int .i64 (wn : Nat)) (.int .i64 (hn : Nat)) (.slice aL N cL) (.slice aS N cS) kk A N c x (pre N (af wn hn L S k a)) X → Calls Tryd.prog 86 #[.agg #[.int .i64 (wn : Nat), .int .i64 (hn : Nat), .slice aL N cL, .slice aS N cS], .agg #[.int .i64 kk, .slice A N c, .int .i64 x]] X fun e X' => ∃ A' c', e = .returned (.agg #[.int .i64 (kk + 1), .slice A' N c', .int .i64 (el (af wn hn L S (k + 1) a) N)]) ∧ Below X.heap.size X X' ∧ Row X' X'.heap.size A' (pre N (af wn hn L S (k + 1) a)) ∧ Fresh X.heap.size A' := fun X k kk x A c hk hkk hx hX => by
    have e1 := af_len (L := L) (S := S) (by rw [hN]; exact hal) k
    rw [hN] at e1
    have e2 : amt (pre N (af wn hn L S k a)) x = af wn hn L S k a := by rw [hx]; exact amt_pre e1
    have e3 : ∀ i, i < N → el (pre N (af wn hn L S k a)) i = el (af wn hn L S k a) i := fun i hi => mk_el _ _ _ hi
    have h1 := move_ref X.heap.size wn hn aL aS A cL cS c L S kk (pre N (af wn hn L S k a)) x X (by rw [hN]; exact (h.below (hX.below.mono hB)).more (Nat.le_trans hB hX.below.size)) hX.row (Nat.le_refl _) hBay (by rw [pre_len, hN]) (by omega)
      (by rw [hN]; intro i hi; rw [e3 i hi]; exact hbnd k (by omega) i (by omega)) (by rw [hx]; exact hbnd k (by omega) N (by omega))
    rw [e2, hN] at h1
    refine h1.mono ?_
    rintro e X' ⟨A', c', he, hb, hr, hf⟩
    refine ⟨A', c', ?_, hb, hr, hf⟩
    rw [he]
    show _ = Ending.returned (.agg #[_, _, .int .i64 (el (mv wn hn L S (af wn hn L S k a)) N)])
    rw [mv_el (by rw [hN]; exact Nat.le_refl _)]
  replace hlast := Lib.hid hlast
  clear hbnd h hO hp0 hnn ht hal haO
  replace c86 := Lib.hid c86
  replace hN := Lib.hid hN
  replace hst := Lib.hid hst
  have hends : ∀ X (kk x : Int) A c, kk = K + (n : Nat) → x = el (af wn hn L S n a) N → ReW w (.int .i64 (wn : Nat)) (.int .i64 (hn : Nat)) (.slice aL N cL) (.slice aS N cS) kk A N c x (pre N (af wn hn L S n a)) X →
      ∃ A' c', Ending.returned (.agg #[.int .i64 kk, .slice A N c, .int .i64 x]) = .returned (.agg #[.int .i64 (K + n), .slice A' N c', .int .i64 (el (af wn hn L S n a) N)]) ∧ Below w.heap.size w (((X.setCell ⟨w.heap.size + 1 + 1, 0, none⟩ (.int .i64 kk)).setCell ⟨w.heap.size + 1 + 1, 1, none⟩ (.slice A N c)).setCell ⟨w.heap.size + 1 + 1, 2, none⟩ (.int .i64 x)) ∧
        Row (((X.setCell ⟨w.heap.size + 1 + 1, 0, none⟩ (.int .i64 kk)).setCell ⟨w.heap.size + 1 + 1, 1, none⟩ (.slice A N c)).setCell ⟨w.heap.size + 1 + 1, 2, none⟩ (.int .i64 x)) (((X.setCell ⟨w.heap.size + 1 + 1, 0, none⟩ (.int .i64 kk)).setCell ⟨w.heap.size + 1 + 1, 1, none⟩ (.slice A N c)).setCell ⟨w.heap.size + 1 + 1, 2, none⟩ (.int .i64 x)).heap.size A' (pre N (af wn hn L S n a)) := fun X kk x A c hkk hx hX => by
    subst hkk hx
    exact ⟨_, _, rfl, tri_below hX.below (by omega), row_but hX.row (fun d hd => set3_but _ _ _ _ _ _ hd) (fun a ha => (hX.far a ha).2) (by rw [set3_size]; exact Nat.le_refl _)⟩
  replace hends := Lib.hid hends
  go_enter Tryd.func71, Tryd.ntmps71
  go_wp2
  go_loopw [7] (fun i X => ∃ (k : Nat) (kk x : Int) (A : Option Addr) (c : Nat), k ≤ n ∧ i = .int .i64 k ∧ kk = K + (k : Nat) ∧ x = el (af wn hn L S k a) N ∧ ReW w (.int .i64 (wn : Nat)) (.int .i64 (hn : Nat)) (.slice aL N cL) (.slice aS N cS) kk A N c x (pre N (af wn hn L S k a)) X) (fun i _ => n - (intOf i).toNat)
  case atStart => exact ⟨0, K, aw, aO, cO, Nat.zero_le _, rfl, by simp, hlast.out, hst.out⟩
  case round =>
    clear hst
    obtain ⟨k, kk, x, A, c, hk, rfl, hkk, hx, hX⟩ := hrel
    have g0 := hX.bay.c0
    have g1 := hX.bay.c1
    have g2 := hX.bay.c2
    have g3 := hX.bay.c3
    have t0 := hX.slk.c0
    have t1 := hX.slk.c1
    have t2 := hX.slk.c2
    by_cases hlt : k < n
    · have hkI : (k : Int) < (n : Nat) := by omega
      have d86 := c86.out wr k kk x A c hlt hkk hx hX
      replace d86 := Lib.hid d86
      replace hX := Lib.hid hX
      replace hkk := Lib.hid hkk
      replace hx := Lib.hid hx
      go_wp2_with fail
      refine d86.out.mono ?_
      rintro e w1 ⟨A', c', rfl, hb1, r1, f1⟩
      have ts := hX.out.slk.up hb1
      have z0 := ts.fz 0
      have z1 := ts.fz 1
      have z2 := ts.fz 2
      have u0 := ts.c0
      have u1 := ts.c1
      have u2 := ts.c2
      have hN1 := hX.out.step (k2 := kk + 1) (c' := c') (x' := el (af wn hn L S (k + 1) a) N) hb1 r1 f1
      have hxx : ∃ y, y = el (af wn hn L S (k + 1) a) N := ⟨_, rfl⟩
      obtain ⟨y, hy⟩ := hxx
      rw [← hy] at hN1 ⊢
      replace hN1 := Lib.hid hN1
      replace hy := Lib.hid hy
      clear g0 g1 g2 g3 t0 t1 t2 hb1 r1 f1 ts d86 hX
      go_wp2
      go_roundw
      case rel => exact ⟨k + 1, kk + 1, y, A', c', by omega, by go_num, by rw [hkk.out]; omega, hy.out, hN1.out⟩
      case measure => simp [intOf]; omega
    · have hk' : k = n := by omega
      subst hk'
      have hfin := hends.out wr kk x A c hkk hx hX
      have r0 := hX.res.c0
      have r1 := hX.res.c1
      have r2 := hX.res.c2
      have z0 := hX.res.fz 0
      have z1 := hX.res.fz 1
      have z2 := hX.res.fz 2
      have ts := hX.res.set (.int .i64 kk) (.slice A N c) (.int .i64 x)
      have e0 := ts.c0
      have e1 := ts.c1
      have e2 := ts.c2
      replace hfin := Lib.hid hfin
      replace hX := Lib.hid hX
      replace hkk := Lib.hid hkk
      replace hx := Lib.hid hx
      clear ts
      go_wp2
      exact bodyPost_ret (v := .agg #[.int .i64 kk, .slice A N c, .int .i64 x]) (by simp [results, Tryd.results71, go_sem, e0, e1, e2]) rfl hfin.out

end Go.Proofs.YtnbgjgiknfcdkaaDoor
