/-
  The harm of an order, Least of the program where the best order runs, and the law's sanity check.
-/
import Derived.Test.YtgjgpcpghglnnaaE
namespace Go.Proofs.Ytgjgpcpghglnnaa
open Go.RowKit Go.Deep M
set_option linter.unusedVariables false
set_option linter.unusedSimpArgs false

set_option maxRecDepth 100000 in
set_option maxHeartbeats 2000000 in
theorem vharm_any (a m b d : Int) (w : World) (hm : 0 ≤ m ∧ m ≤ 100) (hd : 0 ≤ d ∧ d ≤ 10000) :
    Calls Try.prog 80 #[.agg #[.int .i64 a, .int .i64 m, .int .i64 b, .int .i64 d]] w fun e w' => e = .returned (.int .i64 (m * d)) ∧ Below w.heap.size w w' := by
  have hb := Lib.hid (ba1 w (.cells #[.int .i64 a, .int .i64 m, .int .i64 b, .int .i64 d] 67))
  have p1 : 0 ≤ m * d ∧ m * d ≤ 100 * 10000 := ⟨Int.mul_nonneg hm.1 hd.1, Int.mul_le_mul hm.2 hd.2 hd.1 (by omega)⟩
  obtain ⟨p, hp⟩ : ∃ p, p = m * d := ⟨_, rfl⟩
  have w1 : IntKind.i64.wrap (m * d) = p := by rw [← hp]; rw [← hp] at p1; exact IntWalk.i64_in _ (by omega)
  have v1 : m * d = p := hp.symm
  rw [v1]
  rw [← hp] at p1
  replace hp := Lib.hid hp
  go_enter Try.func80, Try.ntmps80
  go_wp2
  go_ret
  exact ⟨rfl, hb.out⟩

set_option maxRecDepth 100000 in
set_option maxHeartbeats 4000000 in
theorem harm_any (B : Nat) (A Ao : Option Addr) (c co : Nat) (D : List Bc) (o : List Int) (w : World) (h : Bcs w B A D) (ho : Row w B Ao o) (hB : B ≤ w.heap.size) (hv : vJ (bl D)) (hr' : Runs (bl D) o) (h12 : o.length ≤ 12) :
    Calls Try.prog 56 #[.slice A D.length c, .slice Ao o.length co] w fun e w' => e = .returned (.int .i64 (hm (bl D) o o.length)) ∧ Below w.heap.size w w' := by
  have h63 := h.1
  have c61 := visits_any B A Ao c co D o w h ho hB hv hr' h12
  have hmb := hm_b hv hr' (by omega)
  have hrb := hr_b hv hr'
  have hms := hm_succ (bl D) o
  have hjo := fun i (hi : i < o.length) => at_ok hv hr' hi
  obtain ⟨J, hJ⟩ : ∃ J, J = bl D := ⟨_, rfl⟩
  rw [← hJ] at c61 hmb hrb hms hjo ⊢
  obtain ⟨m, hm'⟩ : ∃ m, m = o.length := ⟨_, rfl⟩
  rw [← hm'] at c61 hmb hrb hjo h12 ⊢
  have hz := Lib.hid (show hm J o 0 = 0 from rfl)
  obtain ⟨R, hR⟩ : ∃ R, R = hm J o m := ⟨_, rfl⟩
  rw [← hR]
  replace hR := Lib.hid hR
  replace hm' := Lib.hid hm'
  replace hJ := Lib.hid hJ
  replace c61 := Lib.hid c61
  replace hmb := Lib.hid hmb
  replace hrb := Lib.hid hrb
  replace hms := Lib.hid hms
  replace hjo := Lib.hid hjo
  replace hv := Lib.hid hv
  replace hr' := Lib.hid hr'
  replace h := Lib.hid h
  replace ho := Lib.hid ho
  go_enter Try.func56, Try.ntmps56
  go_wp2_with fail
  refine c61.out.mono ?_
  rintro e X1 ⟨g, rfl, hb1, hV⟩
  replace hb1 := Lib.hid hb1
  replace hV := Lib.hid hV
  go_wp2
  go_loopw [5, 12] (fun s i X => ∃ k : Nat, k ≤ m ∧ i = .int .i64 (k : Nat) ∧ s = .int .i64 (hm J o k) ∧ Below w.heap.size w X ∧ BlV X g m (vv J o)) (fun _ i _ => m - (intOf i).toNat)
  case atStart => exact ⟨0, by omega, rfl, by rw [hz.out], hb1.out, hV.out⟩
  case round =>
    clear hb1 hV
    obtain ⟨k, hk, rfl, rfl, hX, hV⟩ := hrel
    by_cases hlk : k < m
    · have v0 := hV.cell hlk 0 (by omega)
      have v1 := hV.cell hlk 1 (by omega)
      have v2 := hV.cell hlk 2 (by omega)
      have v3 := hV.cell hlk 3 (by omega)
      have hs := hms.out k
      obtain ⟨_, q3, q4⟩ := hjo.out k hlk
      obtain ⟨q5, q6⟩ := hrb.out (k + 1) (by omega)
      obtain ⟨m1, m2⟩ := hmb.out k hk
      obtain ⟨m3, m4⟩ := hmb.out (k + 1) (by omega)
      obtain ⟨H, hH⟩ : ∃ H, H = vv J o k 0 := ⟨_, rfl⟩
      obtain ⟨Mm, hMm⟩ : ∃ H, H = vv J o k 1 := ⟨_, rfl⟩
      obtain ⟨Bb, hBb⟩ : ∃ H, H = vv J o k 2 := ⟨_, rfl⟩
      obtain ⟨Dn, hDn⟩ : ∃ H, H = vv J o k 3 := ⟨_, rfl⟩
      have e1 : (jbAt J o k).m = Mm := by rw [hMm]; rfl
      have e2 : hr J o (k + 1) = Dn := by rw [hDn]; rfl
      rw [e1, e2] at hs
      rw [e1] at q3 q4
      rw [e2] at q5 q6
      rw [← hH] at v0
      rw [← hMm] at v1
      rw [← hBb] at v2
      rw [← hDn] at v3
      rw [Nat.add_zero] at v0
      obtain ⟨S1, hS1⟩ : ∃ S, S = hm J o k := ⟨_, rfl⟩
      obtain ⟨S2, hS2⟩ : ∃ S, S = hm J o (k + 1) := ⟨_, rfl⟩
      rw [← hS1] at hs m1 m2 ⊢
      rw [← hS2] at hs m3 m4
      obtain ⟨P, hP⟩ : ∃ P, P = Mm * Dn := ⟨_, rfl⟩
      have k80 := vharm_any H Mm Bb Dn (wr.alloc (.cells #[.int .i64 H, .int .i64 Mm, .int .i64 Bb, .int .i64 Dn] 67)) ⟨q3, q4⟩ (by omega)
      rw [← hP] at k80 hs
      have hsi : S1 + P = S2 := hs.symm
      have hP9 : 0 ≤ S1 ∧ S1 ≤ 100000000 ∧ 0 ≤ S2 ∧ S2 ≤ 100000000 := by omega
      clear m1 m2 m3 m4 q3 q4 q5 q6
      have hb2 := bel_trans hX (ba1 wr (.cells #[.int .i64 H, .int .i64 Mm, .int .i64 Bb, .int .i64 Dn] 67))
      have hV2 := hV.up (ba1 wr (.cells #[.int .i64 H, .int .i64 Mm, .int .i64 Bb, .int .i64 Dn] 67))
      obtain ⟨Y, hY⟩ : ∃ Y, Y = wr.alloc (.cells #[.int .i64 H, .int .i64 Mm, .int .i64 Bb, .int .i64 Dn] 67) := ⟨_, rfl⟩
      rw [← hY] at k80 hb2 hV2
      replace hY := Lib.hid hY
      replace hs := Lib.hid hs
      replace e1 := Lib.hid e1
      replace e2 := Lib.hid e2
      replace hH := Lib.hid hH
      replace hMm := Lib.hid hMm
      replace hBb := Lib.hid hBb
      replace hDn := Lib.hid hDn
      replace hS1 := Lib.hid hS1
      replace hS2 := Lib.hid hS2
      replace hP := Lib.hid hP
      replace hX := Lib.hid hX
      replace hV := Lib.hid hV
      replace hb2 := Lib.hid hb2
      replace hV2 := Lib.hid hV2
      replace k80 := Lib.hid k80
      go_wp2_with fail
      rw [← hY.out]
      refine k80.out.mono ?_
      rintro e X3 ⟨rfl, hb3⟩
      have hX3 := Lib.hid (bel_trans hb2.out hb3)
      have hV3 := Lib.hid (hV2.out.up hb3)
      clear hb3
      go_wp2
      go_roundw
      case rel => exact ⟨k + 1, by omega, by go_num, by rw [← hS2.out], hX3.out, hV3.out⟩
      case measure => simp [intOf]; omega
    · have hk' : k = m := by omega
      subst hk'
      rw [← hR.out]
      replace hX := Lib.hid hX
      replace hV := Lib.hid hV
      go_wp2
      go_ret
      exact ⟨rfl, hX.out⟩

namespace M
theorem whole_stay {J : List (List Jb)} {s : Nat} (h : Whole J s) : ∀ d, nxt J (s + d) = nxt J s ∧ ord J (s + d) = ord J s := by
  intro d
  induction d with
  | zero => exact ⟨rfl, rfl⟩
  | succ d ih =>
    have hg : gr J (nxt J (s + d)) J.length = none := by rw [ih.1]; exact h
    refine ⟨?_, ?_⟩
    · show (match gr J (nxt J (s + d)) J.length with | none => nxt J (s + d) | some (i, c) => fun k => if k = i then nxt J (s + d) i + c else nxt J (s + d) k) = _
      rw [hg]; exact ih.1
    · show (match gr J (nxt J (s + d)) J.length with | none => ord J (s + d) | some (i, c) => ord J (s + d) ++ List.replicate c (i : Int)) = _
      rw [hg]; exact ih.2
theorem whole_uniq {J : List (List Jb)} {s t : Nat} (h : Whole J s) (h' : Whole J t) : ord J s = ord J t := by
  rcases Nat.le_total s t with hl | hl
  · obtain ⟨d, rfl⟩ := Nat.exists_eq_add_of_le hl; exact ((whole_stay h d).2).symm
  · obtain ⟨d, rfl⟩ := Nat.exists_eq_add_of_le hl; exact (whole_stay h' d).2
end M

set_option maxRecDepth 100000 in
set_option maxHeartbeats 4000000 in
theorem Least_good (B : Nat) (A : Option Addr) (c : Nat) (D : List Bc) (R : Int) (w : World) (h : Bcs w B A D) (hB : B ≤ w.heap.size) (hv : vJ (bl D)) (hrun : ∀ s, Whole (bl D) s → Runs (bl D) (ord (bl D) s)) (hval : ∀ s, Whole (bl D) s → hm (bl D) (ord (bl D) s) (ord (bl D) s).length = R) :
    Calls Try.prog 29 #[.slice A D.length c] w fun e w' => e = .returned (.tuple #[.int .i64 R, .int .i64 0]) ∧ Below w.heap.size w w' := by
  have h63 := h.1
  have hlen := bl_len D
  have hl100 : ∀ i, i < D.length → (be (bl D) i).length ≤ 100 := fun i hi => Nat.le_trans (be_le (show i < (bl D).length by rw [hlen]; exact hi)) (by have := hv.2.1; omega)
  have c51 := checked_any B A c D w h hB hl100
  rw [show errV (bl D) = 0 by unfold errV; rw [show valB (bl D) = true from decide_eq_true hv]; rfl] at c51
  have c62 := fun X (hX : Below w.heap.size w X) => best_any B A c D X (h.below (hX.mono hB)) (Nat.le_trans hB hX.size) hv
  have h12 := fun s => show (ord (bl D) s).length ≤ 12 by rw [ord_len]; exact Nat.le_trans (dn_le (bl D) (nxt (bl D) s) (nxt_le (bl D) s) (bl D).length) hv.2.1
  have c56 := fun s (hs : Whole (bl D) s) X (hX : Below w.heap.size w X) Ao co (ho : Row X X.heap.size Ao (ord (bl D) s)) => (by
    have := harm_any X.heap.size A Ao c co D (ord (bl D) s) X ((h.below (hX.mono hB)).more (Nat.le_trans hB hX.size)) ho (Nat.le_refl _) hv (hrun s hs) (h12 s)
    rw [hval s hs] at this
    exact this : Calls Try.prog 56 #[.slice A D.length c, .slice Ao (ord (bl D) s).length co] X fun e w' => e = .returned (.int .i64 R) ∧ Below X.heap.size X w')
  generalize D.length = n at *
  replace c51 := Lib.hid c51
  replace c62 := Lib.hid c62
  replace c56 := Lib.hid c56
  replace h12 := Lib.hid h12
  replace hl100 := Lib.hid hl100
  replace hlen := Lib.hid hlen
  replace hv := Lib.hid hv
  replace hrun := Lib.hid hrun
  replace hval := Lib.hid hval
  replace h := Lib.hid h
  go_enter Try.func29, Try.ntmps29
  go_wp2_with fail
  refine c51.out.mono ?_
  rintro e X1 ⟨rfl, hb1⟩
  have k62 := Lib.hid (c62.out X1 hb1)
  go_wp2_with fail
  refine k62.out.mono ?_
  rintro e X2 ⟨s, v, rfl, hs, hb2, hown⟩
  have hX2 := bel_trans hb1 hb2
  obtain ⟨Ao, co, rfl, hro⟩ := own_row hown (by have := h12.out s; omega)
  have k56 := Lib.hid (c56.out s hs X2 hX2 Ao co hro)
  generalize (ord (bl D) s).length = mo at *
  replace hX2 := Lib.hid hX2
  replace hs := Lib.hid hs
  replace hown := Lib.hid hown
  replace hro := Lib.hid hro
  clear hb1 hb2 k62
  go_wp2_with fail
  refine k56.out.mono ?_
  rintro e X3 ⟨rfl, hb3⟩
  have hend := Lib.hid (bel_trans hX2.out hb3)
  clear hb3
  go_wp2
  exact bodyPost_ret (v := .tuple #[.int .i64 R, .int .i64 0]) (by simp [results, Try.results29, go_sem]) rfl ⟨rfl, hend.out⟩

/-! ### the sanity check -/
def J0 : List (List Jb) := [[⟨2, 6⟩], [⟨1, 1⟩, ⟨1, 9⟩]]
theorem vJ0 : vJ J0 := by decide
theorem ord0 : Whole J0 2 ∧ ord J0 2 = [1, 1, 0] := by refine ⟨?_, ?_⟩ <;> rfl
theorem runs0 : Runs J0 [1, 1, 0] := by decide
theorem hm0 : hm J0 [1, 1, 0] 3 = 43 := by rfl
def D0 (b : Nat) : List Bc := [⟨[⟨2, 6⟩], some ⟨b, 0, none⟩, 1⟩, ⟨[⟨1, 1⟩, ⟨1, 9⟩], some ⟨b + 1, 0, none⟩, 2⟩]
theorem bl0 (b : Nat) : bl (D0 b) = J0 := rfl

set_option maxRecDepth 100000 in
set_option maxHeartbeats 2000000 in
theorem Sane_any (w : World) : Calls Try.prog 15 #[] w fun e w' => e = .returned (.bool true) ∧ Below w.heap.size w w' := by
  obtain ⟨W1, hW1⟩ : ∃ W, W = w.alloc (.cells #[.int .i64 2, .int .i64 6] 54) := ⟨_, rfl⟩
  obtain ⟨W2, hW2⟩ : ∃ W, W = W1.alloc (.cells #[.int .i64 1, .int .i64 1, .int .i64 1, .int .i64 9] 54) := ⟨_, rfl⟩
  obtain ⟨W3, hW3⟩ : ∃ W, W = W2.alloc (.cells #[.slice (some ⟨w.heap.size, 0, none⟩) 1 1, .slice (some ⟨w.heap.size + 1, 0, none⟩) 2 2] 51) := ⟨_, rfl⟩
  have s1 : W1.heap.size = w.heap.size + 1 := by rw [hW1]; simp
  have s2 : W2.heap.size = w.heap.size + 1 + 1 := by rw [hW2]; simp [s1]
  have s3 : W3.heap.size = w.heap.size + 1 + 1 + 1 := by rw [hW3]; simp [s2]
  have b1 : Below w.heap.size w W1 := by rw [hW1]; exact ba1 _ _
  have b2 : Below W1.heap.size W1 W2 := by rw [hW2]; exact ba1 _ _
  have b3 : Below W2.heap.size W2 W3 := by rw [hW3]; exact ba1 _ _
  have k1 : W3.heap[w.heap.size]? = some (.cells #[.int .i64 2, .int .i64 6] 54 (0, 0)) := by
    have e : W1.heap[w.heap.size]? = some (.cells #[.int .i64 2, .int .i64 6] 54 (0, 0)) := by rw [hW1]; exact heap_alloc_new w _
    exact ((b3.block _ (by omega)).trans (b2.block _ (by omega))).trans e
  have k2 : W3.heap[w.heap.size + 1]? = some (.cells #[.int .i64 1, .int .i64 1, .int .i64 1, .int .i64 9] 54 (0, 0)) := by
    have e : W2.heap[W1.heap.size]? = some (.cells #[.int .i64 1, .int .i64 1, .int .i64 1, .int .i64 9] 54 (0, 0)) := by rw [hW2]; exact heap_alloc_new W1 _
    rw [s1] at e
    exact (b3.block _ (by omega)).trans e
  have k3 : W3.heap[w.heap.size + 1 + 1]? = some (.cells #[.slice (some ⟨w.heap.size, 0, none⟩) 1 1, .slice (some ⟨w.heap.size + 1, 0, none⟩) 2 2] 51 (0, 0)) := by
    have e : W3.heap[W2.heap.size]? = some (.cells #[.slice (some ⟨w.heap.size, 0, none⟩) 1 1, .slice (some ⟨w.heap.size + 1, 0, none⟩) 2 2] 51 (0, 0)) := by rw [hW3]; exact heap_alloc_new W2 _
    rw [s2] at e
    exact e
  have hbel : Below w.heap.size w W3 := bel_trans (bel_trans b1 b2) b3
  have hD : Bcs W3 W3.heap.size (some ⟨w.heap.size + 1 + 1, 0, none⟩) (D0 w.heap.size) := by
    refine ⟨by simp [D0], fun _ => ⟨w.heap.size + 1 + 1, 0, rfl, by omega, fun i hi => ?_⟩, fun i hi => ?_⟩
    · have : i = 0 ∨ i = 1 := by have : i < 2 := hi; omega
      rcases this with rfl | rfl
      · refine ⟨by simp [World.cell?, k3, D0, bc, bl, be], by simp [D0, bl, be], fun _ => ⟨w.heap.size, 0, rfl, by omega, fun j hj => ?_⟩⟩
        have : j = 0 := by have : j < 1 := hj; omega
        subst this
        exact ⟨by simp [World.cell?, k1, D0, bl, be, jb], by simp [World.cell?, k1, D0, bl, be, jb]⟩
      · refine ⟨by simp [World.cell?, k3, D0, bc, bl, be], by simp [D0, bl, be], fun _ => ⟨w.heap.size + 1, 0, rfl, by omega, fun j hj => ?_⟩⟩
        have : j = 0 ∨ j = 1 := by have : j < 2 := hj; omega
        rcases this with rfl | rfl
        · exact ⟨by simp [World.cell?, k2, D0, bl, be, jb], by simp [World.cell?, k2, D0, bl, be, jb]⟩
        · exact ⟨by simp [World.cell?, k2, D0, bl, be, jb], by simp [World.cell?, k2, D0, bl, be, jb]⟩
    · have : i = 0 ∨ i = 1 := by have : i < 2 := hi; omega
      rcases this with rfl | rfl
      · exact Nat.le_refl 1
      · exact Nat.le_refl 2
  have hord : ∀ s, Whole (bl (D0 w.heap.size)) s → ord (bl (D0 w.heap.size)) s = [1, 1, 0] := fun s hs => (whole_uniq hs ord0.1).trans ord0.2
  have c29 := Least_good W3.heap.size (some ⟨w.heap.size + 1 + 1, 0, none⟩) 2 (D0 w.heap.size) 43 W3 hD (Nat.le_refl _) vJ0 (fun s hs => by rw [hord s hs]; exact runs0) (fun s hs => by rw [hord s hs]; exact hm0)
  rw [show (D0 w.heap.size).length = 2 from rfl] at c29
  have hWW : (((w.alloc (.cells #[.int .i64 2, .int .i64 6] 54)).alloc (.cells #[.int .i64 1, .int .i64 1, .int .i64 1, .int .i64 9] 54)).alloc (.cells #[.slice (some ⟨w.heap.size, 0, none⟩) 1 1, .slice (some ⟨w.heap.size + 1, 0, none⟩) 2 2] 51)) = W3 := by rw [hW3, hW2, hW1]
  replace hWW := Lib.hid hWW
  replace hD := Lib.hid hD
  replace hbel := Lib.hid hbel
  replace c29 := Lib.hid c29
  replace hW1 := Lib.hid hW1
  replace hW2 := Lib.hid hW2
  replace hW3 := Lib.hid hW3
  clear b1 b2 b3 k1 k2 k3 s1 s2 s3 hord
  go_enter Try.func15, Try.ntmps15
  go_wp2_with fail
  rw [hWW.out]
  refine c29.out.mono ?_
  rintro e X ⟨rfl, hb⟩
  have hend := Lib.hid (bel_trans hbel.out hb)
  clear hb
  go_wp2
  go_ret
  exact ⟨rfl, hend.out⟩
end Go.Proofs.Ytgjgpcpghglnnaa
