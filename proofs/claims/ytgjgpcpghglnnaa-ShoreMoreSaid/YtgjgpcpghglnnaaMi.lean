/-
  By how much two neighbours exchanged make the harm greater; Best: the program's function.
-/
import Derived.Test.YtgjgpcpghglnnaaMh
import Derived.Test.YtgjgpcpghglnnaaMf
namespace Go.Proofs.Ytgjgpcpghglnnaa
open Go.RowKit Go.Deep M
set_option linter.unusedVariables false
set_option linter.unusedSimpArgs false

namespace M
theorem swp_ne {o : List Int} {a q : Nat} (h : a + 1 < o.length) (h1 : q ≠ a) (h2 : q ≠ a + 1) : el (swp o a) q = el o q := by
  rw [el_swp h]; unfold xch; rw [if_neg h2, if_neg h1]
theorem swp_i {o : List Int} {a : Nat} (h : a + 1 < o.length) : el (swp o a) a = el o (a + 1) := by
  rw [el_swp h]; unfold xch; rw [if_neg (by omega), if_pos rfl]
theorem swp_k {o : List Int} {a : Nat} (h : a + 1 < o.length) : el (swp o a) (a + 1) = el o a := by
  rw [el_swp h]; unfold xch; rw [if_pos rfl]
theorem cnt_lo {o : List Int} {a : Nat} (h : a + 1 < o.length) (b : Int) : ∀ k, k ≤ a → cnt (swp o a) b k = cnt o b k := by
  intro k
  induction k with
  | zero => intro _; rfl
  | succ k ih =>
    intro hk
    rw [cnt_succ, cnt_succ, ih (by omega), swp_ne h (by omega) (by omega)]
theorem cnt_hi {o : List Int} {a : Nat} (h : a + 1 < o.length) (b : Int) : ∀ d, cnt (swp o a) b (a + 2 + d) = cnt o b (a + 2 + d) := by
  intro d
  induction d with
  | zero =>
    rw [Nat.add_zero, cnt_succ, cnt_succ, cnt_succ o b (a + 1), cnt_succ o b a, cnt_lo h b a (Nat.le_refl _), swp_i h, swp_k h]
    omega
  | succ d ih =>
    rw [← Nat.add_assoc, cnt_succ, cnt_succ, ih, swp_ne h (by omega) (by omega)]
theorem at_lo {J : List (List Jb)} {o : List Int} {a : Nat} (h : a + 1 < o.length) {k : Nat} (hk : k < a) : jbAt J (swp o a) k = jbAt J o k := by
  unfold jbAt
  rw [swp_ne h (by omega) (by omega), cnt_lo h _ k (by omega)]
theorem at_hi {J : List (List Jb)} {o : List Int} {a : Nat} (h : a + 1 < o.length) (d : Nat) : jbAt J (swp o a) (a + 2 + d) = jbAt J o (a + 2 + d) := by
  unfold jbAt
  rw [swp_ne h (by omega) (by omega), cnt_hi h]
/-- The jobs at the two places, the other way round. -/
theorem at_0 {J : List (List Jb)} {o : List Int} {a : Nat} (h : a + 1 < o.length) (hne : ¬ el o a = el o (a + 1)) : jbAt J (swp o a) a = jbAt J o (a + 1) := by
  unfold jbAt
  rw [swp_i h, cnt_lo h _ a (Nat.le_refl _), cnt_succ, if_neg hne]
  rfl
theorem at_1 {J : List (List Jb)} {o : List Int} {a : Nat} (h : a + 1 < o.length) (hne : ¬ el o a = el o (a + 1)) : jbAt J (swp o a) (a + 1) = jbAt J o a := by
  unfold jbAt
  rw [swp_k h, cnt_succ, cnt_lo h _ a (Nat.le_refl _), swp_i h, if_neg (fun e => hne e.symm), Nat.add_zero]
theorem hm_lo {J : List (List Jb)} {o : List Int} {a : Nat} (h : a + 1 < o.length) : ∀ k, k ≤ a → hr J (swp o a) k = hr J o k ∧ hm J (swp o a) k = hm J o k := by
  intro k
  induction k with
  | zero => intro _; exact ⟨rfl, rfl⟩
  | succ k ih =>
    intro hk
    obtain ⟨h1, h2⟩ := ih (by omega)
    rw [hm_succ, hm_succ, hr_succ, hr_succ, h1, h2, at_lo h (by omega)]
    exact ⟨rfl, rfl⟩
/-- By how much the harm is greater. -/
def dlt (J : List (List Jb)) (o : List Int) (a : Nat) : Int := (jbAt J o a).m * (jbAt J o (a + 1)).h - (jbAt J o (a + 1)).m * (jbAt J o a).h
theorem hm_hi {J : List (List Jb)} {o : List Int} {a : Nat} (h : a + 1 < o.length) (hne : ¬ el o a = el o (a + 1)) : ∀ d, hr J (swp o a) (a + 2 + d) = hr J o (a + 2 + d) ∧ hm J (swp o a) (a + 2 + d) = hm J o (a + 2 + d) + dlt J o a := by
  intro d
  induction d with
  | zero =>
    obtain ⟨h1, h2⟩ := hm_lo (J := J) h a (Nat.le_refl _)
    rw [Nat.add_zero, hm_succ, hm_succ, hr_succ, hr_succ, hm_succ J o (a + 1), hm_succ J o a, hr_succ J o (a + 1), hr_succ J o a, h1, h2, at_0 h hne, at_1 h hne]
    unfold dlt
    constructor
    · omega
    · grind
  | succ d ih =>
    obtain ⟨h1, h2⟩ := ih
    rw [← Nat.add_assoc, hm_succ, hm_succ, hr_succ, hr_succ, h1, h2, at_hi h]
    exact ⟨rfl, by omega⟩
theorem swp_dlt {J : List (List Jb)} {o : List Int} {a : Nat} (h : a + 1 < o.length) (hne : ¬ el o a = el o (a + 1)) : hm J (swp o a) o.length - hm J o o.length = dlt J o a := by
  have := (hm_hi (J := J) h hne (o.length - (a + 2))).2
  rw [show a + 2 + (o.length - (a + 2)) = o.length by omega] at this
  omega
theorem swp_swp {o : List Int} {a : Nat} (h : a + 1 < o.length) : swp (swp o a) a = o := by
  refine ext_el (by rw [swp_len, swp_len]) fun q _ => ?_
  rw [el_swp (by rw [swp_len]; exact h)]
  unfold xch
  by_cases h1 : q = a + 1
  · rw [if_pos h1, el_swp h, h1]
    unfold xch
    rw [if_neg (by omega), if_pos rfl]
  · rw [if_neg h1]
    by_cases h2 : q = a
    · rw [if_pos h2, el_swp h, h2]
      unfold xch
      rw [if_pos rfl]
    · rw [if_neg h2, el_swp h]
      unfold xch
      rw [if_neg h1, if_neg h2]
theorem hp_of {J : List (List Jb)} (hv : vJ J) : ∀ a, Hp (be J a) := fun a i hi => by
  rcases Nat.lt_or_ge a J.length with h | h
  · exact (hv.2.2 a h i hi).1.1
  · have : be J a = [] := by unfold be; simp [List.getD_eq_getElem?_getD, h]
    rw [this] at hi
    exact absurd hi (Nat.not_lt_zero _)
/-- The best order is an order. -/
theorem best_ord {J : List (List Jb)} {s : Nat} (hv : vJ J) (hW : Whole J s) : ordB J (ord J s) = true ∧ (ord J s).length = tn J J.length := by
  obtain ⟨h1, h2⟩ := ord_runs J s
  have hcn : ∀ b, b < J.length → cnt (ord J s) (b : Nat) (ord J s).length = (be J b).length := fun b hb => by
    rw [h1 b]
    have h3 : ¬ nxt J s b < (be J b).length := fun h => gr_max.gr_none (nxt_le J s) _ hW b hb h
    have := nxt_le J s b
    omega
  have hl : (ord J s).length = tn J J.length := by
    rw [ord_len]
    have : ∀ n, n ≤ J.length → dn J (nxt J s) n = tn J n := by
      intro n
      induction n with
      | zero => intro _; rfl
      | succ n ih =>
        intro hn
        show dn J (nxt J s) n + nxt J s n = tn J n + _
        rw [ih (by omega), ← hcn n (by omega), h1 n]
    exact this _ (Nat.le_refl _)
  refine ⟨ord_of (by have := hv.2.1; omega) (fun i hi => ?_) hcn, hl⟩
  obtain ⟨⟨a, b⟩, _⟩ := h2 i hi
  omega
theorem least_all {J : List (List Jb)} {s : Nat} {o : List Int} (hv : vJ J) (hW : Whole J s) (ho : ordB J o = true) : hm J (ord J s) (ord J s).length ≤ hm J o o.length := by
  obtain ⟨_, _, _, h4, h5⟩ := ord_spec hv ho
  exact best_least (hp_of hv) hW h5 h4
end M

/-- What Best answers of valid jobs: the best order. -/
def BsP (J : List (List Jb)) (w : World) (e : Ending) (w' : World) : Prop :=
  ∃ s A c, e = .returned (.tuple #[.slice A (ord J s).length c, .int .i64 0]) ∧ Whole J s ∧ Below w.heap.size w w' ∧ Row w' w'.heap.size A (ord J s)
set_option maxRecDepth 100000 in
set_option maxHeartbeats 4000000 in
theorem Best_good (B : Nat) (A : Option Addr) (c : Nat) (D : List Bc) (w : World) (h : Bcs w B A D) (hB : B ≤ w.heap.size) (hL : ∀ i, i < D.length → (be (bl D) i).length ≤ 100) (hv : valB (bl D) = true) :
    Calls Try.prog 27 #[.slice A D.length c] w (BsP (bl D) w) := by
  have h63 := h.1
  have c51 := checked_any B A c D w h hB hL
  unfold errV at c51
  rw [if_pos hv] at c51
  have c62 := fun X (hX : Below w.heap.size w X) => best_any B A c D X (h.below (hX.mono hB)) (Nat.le_trans hB hX.size) (val_of hv)
  have hlen : ∀ s, Whole (bl D) s → (ord (bl D) s).length ≤ 12 := fun s hs => by rw [(best_ord (val_of hv) hs).2]; exact (val_of hv).2.1
  generalize D.length = n at *
  replace hlen := Lib.hid hlen
  replace hv := Lib.hid hv
  replace hL := Lib.hid hL
  replace c51 := Lib.hid c51
  replace c62 := Lib.hid c62
  replace h := Lib.hid h
  go_enter Try.func27, Try.ntmps27
  go_wp2_with fail
  refine c51.out.mono ?_
  rintro e X1 ⟨rfl, hb1⟩
  have k62 := Lib.hid (c62.out X1 hb1)
  replace hb1 := Lib.hid hb1
  go_wp2_with fail
  refine k62.out.mono ?_
  rintro e X2 ⟨s, v, rfl, hW, hb2, hown⟩
  have hl12 := hlen.out s hW
  obtain ⟨A2, c2, rfl, hrow⟩ := own_row hown (by omega)
  have hend := Lib.hid (bel_trans hb1.out hb2)
  obtain ⟨o, ho⟩ : ∃ o, o = ord (bl D) s := ⟨_, rfl⟩
  rw [← ho] at hrow ⊢
  replace hW := Lib.hid hW
  replace hrow := Lib.hid hrow
  replace ho := Lib.hid ho
  clear hb2 hown k62
  go_wp2
  exact bodyPost_ret (v := .tuple #[.slice A2 o.length c2, .int .i64 0]) (by simp [results, Try.results27, go_sem]) rfl ⟨s, A2, c2, by rw [← ho.out], hW.out, hend.out, by rw [← ho.out]; exact hrow.out⟩
end Go.Proofs.Ytgjgpcpghglnnaa
