/-
  A claim that is split: the program's function.
-/
import Derived.Test.YthleekdkbgnabaaXa
namespace Go.Proofs.Ythleekdkbgnabaa
open Go.RowKit Go.Deep M
set_option linter.unusedVariables false
set_option linter.unusedSimpArgs false

def dl3 (l : List Int) (j : Nat) (a : Int) : Nat → List Int
  | 0 => l.take j
  | 1 => [a, el l j - a]
  | _ => l.drop (j + 1)
theorem flat3 (l : List Int) (j : Nat) (a : Int) : flat (dl3 l j a) 3 = splL l j a := by simp [flat, dl3, splL]
def sel3 (x y z : Nat) : Nat → Nat
  | 0 => x
  | 1 => y
  | _ => z
/-- The three pieces in memory, and their table. -/
def spW (w : World) (p q : Value) (s0 s1 s2 : Value) : World := ((w.alloc (.cells #[p, q] 3)).alloc (.cells #[s0, s1, s2] 65)).drew
theorem spl_call (B b o c O3 c3 : Nat) (l : List Int) (j : Nat) (a : Int) (w : World) (h : Row w B (some ⟨b, o, none⟩) l) (hB : B ≤ w.heap.size) (hl : l.length ≤ 90) (hj : j < l.length) (hO : j + 1 < l.length → O3 = o + (j + 1)) :
    Calls Try.prog 104 #[.slice (some ⟨w.heap.size + 1, 0, none⟩) 3 3] (spW w (.int .i64 a) (.int .i64 (el l j - a)) (.slice (some ⟨b, o, none⟩) j c) (.slice (some ⟨w.heap.size, 0, none⟩) 2 2) (.slice (some ⟨b, O3, none⟩) (l.length - (j + 1)) c3)) fun r w' =>
      ∃ g cap, r = .returned (.slice (some ⟨g, 0, none⟩) (splL l j a).length cap) ∧ Below w.heap.size w w' ∧ Row w' w'.heap.size (some ⟨g, 0, none⟩) (splL l j a) := by
  have hsl := splL_len l j a hj
  obtain ⟨P, hP⟩ : ∃ P, P = w.alloc (.cells #[.int .i64 a, .int .i64 (el l j - a)] 3) := ⟨_, rfl⟩
  have hP1 := heap_alloc_new w (.cells #[.int .i64 a, .int .i64 (el l j - a)] 3)
  have hPs : P.heap.size = w.heap.size + 1 := by rw [hP]; simp
  have hPb := ba1 w (.cells #[.int .i64 a, .int .i64 (el l j - a)] 3)
  rw [← hP] at hP1 hPb
  obtain ⟨T, hT⟩ : ∃ T : Obj, T = .cells #[.slice (some ⟨b, o, none⟩) j c, .slice (some ⟨w.heap.size, 0, none⟩) 2 2, .slice (some ⟨b, O3, none⟩) (l.length - (j + 1)) c3] 65 := ⟨_, rfl⟩
  obtain ⟨Z, hZ⟩ : ∃ Z, Z = (P.alloc T).drew := ⟨_, rfl⟩
  have hZs : Z.heap.size = w.heap.size + 2 := by rw [hZ]; show (P.alloc T).heap.size = _; simp [hPs]
  have hZT : Z.heap[w.heap.size + 1]? = some (.cells #[.slice (some ⟨b, o, none⟩) j c, .slice (some ⟨w.heap.size, 0, none⟩) 2 2, .slice (some ⟨b, O3, none⟩) (l.length - (j + 1)) c3] 65 (0, 0)) := by
    rw [hZ, ← hPs, hT]; exact heap_alloc_new P _
  have hPZ : Below P.heap.size P Z := by rw [hZ]; exact below_drewN (ba1 P T) 1
  have hwZ : Below w.heap.size w Z := bel_trans hPb hPZ
  have hspw : spW w (.int .i64 a) (.int .i64 (el l j - a)) (.slice (some ⟨b, o, none⟩) j c) (.slice (some ⟨w.heap.size, 0, none⟩) 2 2) (.slice (some ⟨b, O3, none⟩) (l.length - (j + 1)) c3) = Z := by rw [hZ, hP, hT]; rfl
  rw [hspw]
  have key := concat3 (w.heap.size + 1) 3 (dl3 l j a) (sel3 b w.heap.size b) (sel3 o 0 O3) (sel3 c 2 c3) Z (by
    intro X hX k hk
    have hwX := bel_trans hwZ hX
    have hTX : X.heap[w.heap.size + 1]? = _ := (hX.block _ (by omega)).trans hZT
    have hPX : X.heap[w.heap.size]? = _ := (hX.block _ (by omega)).trans ((hPZ.block _ (by omega)).trans hP1)
    have hrow := h.below (hwX.mono hB)
    rcases (show k = 0 ∨ k = 1 ∨ k = 2 by omega) with rfl | rfl | rfl
    · refine ⟨by simp [World.cell?, hTX, dl3, sel3]; omega, fun i u hu => ?_⟩
      obtain ⟨hi, rfl⟩ := news_get hu
      have hi' : i < j := by simp [dl3] at hi; omega
      obtain ⟨b', o', e, _, hc⟩ := hrow.at_ i (by omega)
      cases e
      rw [add_pl]
      have : el (dl3 l j a 0) i = el l i := by
        rw [el_eq _ _ hi, el_eq l i (by omega)]; simp [dl3]
      rw [this]; exact hc
    · refine ⟨by simp [World.cell?, hTX, dl3, sel3], fun i u hu => ?_⟩
      obtain ⟨hi, rfl⟩ := news_get hu
      have hi' : i < 2 := by simpa [dl3] using hi
      rw [add_pl]
      rcases (show i = 0 ∨ i = 1 by omega) with rfl | rfl <;> simp [World.cell?, sel3, hPX, dl3, el]
    · refine ⟨by simp [World.cell?, hTX, dl3, sel3], fun i u hu => ?_⟩
      obtain ⟨hi, rfl⟩ := news_get hu
      have hi' : i < l.length - (j + 1) := by simpa [dl3] using hi
      obtain ⟨b', o', e, _, hc⟩ := hrow.at_ (j + 1 + i) (by omega)
      cases e
      rw [add_pl]
      have : el (dl3 l j a 2) i = el l (j + 1 + i) := by
        rw [el_eq _ _ hi, el_eq l (j + 1 + i) (by omega)]; simp [dl3]
      rw [this]
      have e3 := hO (by omega)
      show X.cell? ⟨b, O3 + i, none⟩ = _
      rw [e3, show o + (j + 1) + i = o + (j + 1 + i) by omega]
      exact hc) (by
    intro k hk
    rcases (show k = 0 ∨ k = 1 ∨ k = 2 by omega) with rfl | rfl | rfl <;> simp [dl3] <;> omega) (by rw [flat3, hsl]; omega)
  rw [flat3] at key
  refine key.mono ?_
  rintro r w' ⟨v, rfl, hb, ho⟩
  obtain ⟨g, cap, rfl, _, _, hbl⟩ := own_blk ho (by rw [hsl]; omega)
  exact ⟨g, cap, rfl, bel_trans hwZ hb, ⟨by rw [hsl]; omega, fun _ => ⟨g, 0, rfl, hbl.lt, fun i hi => by rw [Nat.zero_add, hbl.cell hi]⟩⟩⟩

set_option maxRecDepth 100000 in
set_option maxHeartbeats 4000000 in
theorem split_any (B : Nat) (A : Option Addr) (c : Nat) (l : List Int) (j : Nat) (a : Int) (w : World) (h : Row w B A l) (hB : B ≤ w.heap.size) (hl : l.length ≤ 90) (hj : j < l.length) (hcap : l.length ≤ c) (hx : okC (el l j)) (ha : 0 ≤ a ∧ a ≤ el l j) (hc9 : c ≤ 9223372036854775807) :
    Calls Try.prog 80 #[.slice A l.length c, .int .i64 j, .int .i64 a] w fun e w' => ∃ g cap, e = .returned (.slice (some ⟨g, 0, none⟩) (splL l j a).length cap) ∧ Below w.heap.size w w' ∧ Row w' w'.heap.size (some ⟨g, 0, none⟩) (splL l j a) := by
  obtain ⟨b, o, rfl, hb, _⟩ := h.at_ j hj
  have hat := fun X (hX : Below w.heap.size w X) => (h.below (hX.mono hB)).at_ j hj
  obtain ⟨b2, o2, e2, _, a0⟩ := hat w.drew (below_drewN (Below.refl _ _) 1)
  cases e2
  have hk1 := fun O3 c3 hO => spl_call B b o c O3 c3 l j a w h hB hl hj hO
  obtain ⟨n, hn⟩ : ∃ n, n = l.length := ⟨_, rfl⟩
  rw [← hn] at hl hj hcap hk1
  unfold okC at hx
  obtain ⟨x, hxe⟩ : ∃ x, x = el l j := ⟨_, rfl⟩
  rw [← hxe] at hx ha a0 hk1
  have w1 : IntKind.i64.wrap (x - a) = x - a := IntWalk.i64_in _ (by omega)
  have hjn : (j : Int) < (n : Int) := by omega
  obtain ⟨jj, hjj⟩ : ∃ jj, jj = j + 1 := ⟨_, rfl⟩
  have w2 : IntKind.i64.wrap ((j : Int) + 1) = (jj : Int) := by rw [hjj]; exact IntWalk.i64_in _ (by omega)
  have g1 : (jj : Int) ≤ (n : Int) := by omega
  have g2 : (0 : Int) ≤ (jj : Int) := by omega
  have g3 : jj ≤ n := by omega
  have g4 : jj ≤ c := by omega
  have g5 : (j : Int) ≤ (c : Int) := by omega
  have g6 : j ≤ c := by omega
  have g7 : (n : Int) ≤ (c : Int) := by omega
  rw [← hjj] at hk1
  unfold spW at hk1
  obtain ⟨L, hL⟩ : ∃ L, L = splL l j a := ⟨_, rfl⟩
  rw [← hL] at hk1 ⊢
  replace hL := Lib.hid hL
  have hlen : n = l.length := hn
  replace hxe := Lib.hid hxe
  replace hat := Lib.hid hat
  replace h := Lib.hid h
  rw [← hn]
  have hkA : c = jj → _ := fun hh => hk1 o 0 (fun hh2 => absurd hh2 (by omega))
  have hkB := hk1 (o + jj) (c - jj) (fun _ => rfl)
  replace hn := Lib.hid hn
  replace hlen := Lib.hid hlen
  replace hjj := Lib.hid hjj
  have hc0 : ¬ c = 0 := by omega
  by_cases hcj : c = jj
  · have hk := hkA hcj
    have hnj : n - jj = 0 := by omega
    rw [hnj] at hk
    clear hkA hkB hk1 hnj
    subst hcj
    replace hk := Lib.hid hk
    go_enter Try.func80, Try.ntmps80
    go_wp2
    go_region_with (go_at_call 104; refine hk.out.mono ?_; rintro e X ⟨g, cap, rfl, hb1, hr1⟩; replace hb1 := Lib.hid hb1; replace hr1 := Lib.hid hr1)
    all_goals
      go_wp2
      go_ret
      exact ⟨g, cap, rfl, hb1.out, hr1.out⟩
  · have hcj2 : ¬ jj = c := fun hh => hcj hh.symm
    have hk := hkB
    clear hkA hkB hk1
    replace hk := Lib.hid hk
    go_enter Try.func80, Try.ntmps80
    go_wp2
    go_region_with (go_at_call 104; refine hk.out.mono ?_; rintro e X ⟨g, cap, rfl, hb1, hr1⟩; replace hb1 := Lib.hid hb1; replace hr1 := Lib.hid hr1)
    all_goals
      go_wp2
      go_ret
      exact ⟨g, cap, rfl, hb1.out, hr1.out⟩
end Go.Proofs.Ythleekdkbgnabaa
