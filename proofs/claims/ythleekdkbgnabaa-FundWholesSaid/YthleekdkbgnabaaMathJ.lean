/-
  What claimants get who come in an order adds up to the estate; the means are awards that share it. Mathematics alone.
-/
import Derived.Test.YthleekdkbgnabaaMathH
import Derived.Test.YthleekdkbgnabaaMathD
import Derived.Test.YthleekdkbgnabaaTe
import Derived.Test.YthleekdkbgnabaaAg
import Derived.Test.YthleekdkbgnabaaTk
namespace Go.Proofs.Ythleekdkbgnabaa
open Go.RowKit Go.Deep M
set_option linter.unusedVariables false
set_option linter.unusedSimpArgs false
namespace M
theorem suM_upd (f : Nat → Int) (i : Nat) (v : Int) : ∀ n, i < n → suM (fun j => if j = i then v else f j) n = suM f n - f i + v := by
  intro n
  induction n with
  | zero => intro h; omega
  | succ n ih =>
    intro h
    rw [suM, suM]
    by_cases hi : i = n
    · subst hi
      rw [suM_congr (g := f) (fun j hj => by rw [if_neg (by omega)]), if_pos rfl]
      omega
    · rw [ih (by omega), if_neg (by omega)]
      omega
structure TuI (l o : List Int) (e : Int) (n k : Nat) : Prop where
  sum : (tuS l o e k).1 + suM (tuS l o e k).2 n = e
  bnd : ∀ i, i < n → 0 ≤ (tuS l o e k).2 i ∧ (tuS l o e k).2 i ≤ el l i
  new : ∀ i, coF o k i = false → (tuS l o e k).2 i = 0
  pos : 0 ≤ (tuS l o e k).1
  all : 0 < (tuS l o e k).1 → ∀ i, i < n → coF o k i = true → (tuS l o e k).2 i = el l i
theorem tuI_all {l o : List Int} {e : Int} (he : 0 ≤ e) (hv : Oks l l.length) (hd : difP o l.length l.length) : ∀ k, k ≤ l.length → TuI l o e l.length k := by
  intro k
  induction k with
  | zero =>
    intro _
    refine ⟨?_, fun i hi => ⟨Int.le_refl _, (hv i hi).1⟩, fun i _ => rfl, he, fun _ i _ h => by cases h⟩
    show e + suM (fun _ => 0) l.length = e
    rw [suM_zero]; omega
  | succ k ih =>
    intro hk
    obtain ⟨h1, h2, h3, h4, h5⟩ := ih (by omega)
    obtain ⟨r0, r1⟩ := hd.1 k (by omega)
    have hi : (el o k).toNat < l.length := by omega
    have hnew : coF o k (el o k).toNat = false := by
      cases h : coF o k (el o k).toNat with
      | false => rfl
      | true =>
        obtain ⟨t, ht, e1⟩ := (coF_iff o k _).1 h
        have := hd.2 t k ht (by omega)
        have := (hd.1 t (by omega)).1
        omega
    have hx := hv _ hi
    unfold okC at hx
    have hz := h3 _ hnew
    constructor
    · rw [tuS_1, tuS_2, suM_upd _ _ _ _ hi, hz]; omega
    · intro i hin
      rw [tuS_2]
      simp only
      split
      · rename_i e1; rw [e1]; omega
      · exact h2 i hin
    · intro i hc
      rw [tuS_2]
      simp only
      unfold coF at hc
      by_cases e1 : i = (el o k).toNat
      · rw [if_pos e1] at hc; cases hc
      · rw [if_neg e1] at hc ⊢; exact h3 i hc
    · rw [tuS_1]; omega
    · intro hp i hin hc
      rw [tuS_1] at hp
      rw [tuS_2]
      simp only
      unfold coF at hc
      by_cases e1 : i = (el o k).toNat
      · rw [if_pos e1, e1]; omega
      · rw [if_neg e1] at hc ⊢; exact h5 (by omega) i hin hc
theorem suM_tot (l : List Int) : ∀ k, suM (el l) k = tot l k := by
  intro k
  induction k with
  | zero => rfl
  | succ k ih => rw [suM, ih, tot_succ]
/-- What claimants get who come in an order. -/
theorem turn_sum {l o : List Int} {e : Int} (hk : okU l o e) : suM (tuS l o e o.length).2 l.length = e ∧ ∀ i, i < l.length → 0 ≤ (tuS l o e o.length).2 i ∧ (tuS l o e o.length).2 i ≤ el l i := by
  have hlen := hk.2.1
  have hd := (ord_dif.1 hk.2).2
  have he := hk.1.2
  obtain ⟨h1, h2, h3, h4, h5⟩ := tuI_all (o := o) he.1 hk.1.1.2 hd l.length (Nat.le_refl _)
  rw [hlen]
  refine ⟨?_, h2⟩
  rcases Int.lt_or_le 0 (tuS l o e l.length).1 with hp | hp
  · have hall : ∀ i, i < l.length → coF o l.length i = true := fun i hi => by
      have hs := hk.2.2 i hi
      have hm : el (srt o) i ∈ srt o := el_mem (by rw [srt_len]; omega)
      rw [hs] at hm
      obtain ⟨t, ht, e1⟩ := List.getElem_of_mem ((srt_perm o).mem_iff.1 hm)
      rw [coF_iff]
      exact ⟨t, by omega, by rw [el_eq o t ht, e1]; omega⟩
    have : suM (tuS l o e l.length).2 l.length = suM (el l) l.length := suM_congr fun i hi => h5 hp i hi (hall i hi)
    rw [suM_tot] at this
    have h6 : tot l l.length = sm l := rfl
    omega
  · omega

/-! ### the means -/
theorem me_ok {l : List Int} {e : Int} (hk : okV l e) {i : Nat} (hi : i < l.length) :
    (max (e - (sm l - el l i)) 0 * (meR l e i).d ≤ (meR l e i).n ∧ (meR l e i).n ≤ min (el l i) e * (meR l e i).d) ∧ (0 ≤ (meR l e i).n ∧ (meR l e i).n ≤ el l i * (meR l e i).d) ∧ 1 ≤ (meR l e i).d ∧ (meR l e i).d ≤ 5040 := by
  have hf := fac_b7 l.length hk.2
  obtain ⟨a, b⟩ := toS_last hk.1.2 hk.1.1.2 hk.2 hi
  have hx := hk.1.1.2 i hi
  unfold okC at hx
  have he := hk.1.2.1
  unfold meR
  have h1 := mk_pos (n := toS l e i (2 ^ l.length)) (d := fac l.length) (by omega)
  have h2 := mk_dle (n := toS l e i (2 ^ l.length)) (d := fac l.length) (by omega)
  have h3 := (mk_le (n := toS l e i (2 ^ l.length)) (d := fac l.length) (by omega)).2 a
  have h4 := (mk_ge (n := toS l e i (2 ^ l.length)) (d := fac l.length) (by omega)).2 b
  refine ⟨⟨h3, h4⟩, ⟨?_, ?_⟩, h1, by omega⟩
  · have := Int.mul_nonneg (a := max (e - (sm l - el l i)) 0) (b := (mk (toS l e i (2 ^ l.length)) (fac l.length)).d) (by omega) (by omega)
    omega
  · have := Int.mul_le_mul_of_nonneg_right (show min (el l i) e ≤ el l i by omega) (show 0 ≤ (mk (toS l e i (2 ^ l.length)) (fac l.length)).d by omega)
    omega
theorem mkQ_rt {F : Nat → Rt} {n i : Nat} (h : i < n) : rt (mkQ F n) i = F i := mkQ_at F n i h
theorem me_share {l : List Int} {e : Int} (hk : okV l e) : okA l e (mkQ (meR l e) l.length) ∧ shB l e (mkQ (meR l e) l.length) = true := by
  have hn := val_len hk.1.1
  have hl : (mkQ (meR l e) l.length).length = l.length := mkQ_len _ _
  have hat : ∀ i, i < l.length → rt (mkQ (meR l e) l.length) i = meR l e i := fun i hi => mkQ_at _ _ _ hi
  have hsm := sm_b hk.1.1
  have hw : ∀ i, i < l.length → okW (meR l e i) := fun i hi => by
    obtain ⟨_, ⟨a, b⟩, c, d⟩ := me_ok hk hi
    have hx := hk.1.1.2 i hi
    unfold okC at hx
    have := mul_b (a := el l i) (b := (meR l e i).d) (A := 1000) (B := 5040) hx (by omega)
    unfold okW
    omega
  have hok : okA l e (mkQ (meR l e) l.length) := ⟨hk.1, hl, fun i hi => by rw [hl] at hi; rw [hat i hi]; exact hw i hi⟩
  refine ⟨hok, ?_⟩
  unfold shB
  have hbw : bwA l (mkQ (meR l e) l.length) (mkQ (meR l e) l.length).length := fun i hi => by
    rw [hl] at hi; rw [hat i hi]; exact (me_ok hk hi).2.1
  rw [decide_eq_true hbw]
  have hf := fac_b7 l.length hk.2
  have hsum := toS_all (l := l) (e := e) (by rw [su_full hk.2]; exact hk.1.2) hk.1.1.2 hn.1 hk.2
  have : addsB (mkQ (meR l e) l.length) e.toNat = true := by
    refine adds_of (q := fac l.length) (f := fun i => toS l e i (2 ^ l.length)) (g := fun k => suM (fun i => toS l e i (2 ^ l.length)) k) (by omega) (fun i hi => ?_) (fun i hi => ?_) rfl (fun i _ => rfl) ?_
    · rw [hl] at hi
      exact awG_of (hk.1.1.2 i hi) (by rw [hat i hi]; exact hw i hi) (by rw [hat i hi]; exact (me_ok hk hi).2.1)
    · rw [hl] at hi; rw [hat i hi]; exact mk_val _ _
    · rw [hl, hsum]
      have := hk.1.2.1
      rw [show ((e.toNat : Nat) : Int) = e by omega]
  rw [this]; rfl
end M
/-- A block of ratios as a list. -/
theorem rts_blk {X : World} {g n : Nat} {F : Nat → Rt} (h : BlR X g n F) (hn : n ≤ 1000) : Rts X X.heap.size (some ⟨g, 0, none⟩) (mkQ F n) :=
  ⟨by rw [mkQ_len]; omega, fun _ => ⟨g, 0, rfl, h.lt, fun i hi => by
    rw [mkQ_len] at hi
    rw [mkQ_at F n i hi, Nat.zero_add]
    exact ⟨h.c0 hi, h.c1 hi⟩⟩⟩
namespace M
def liF (f : Nat → Int) (n : Nat) : List Int := (List.range n).map f
theorem liF_len (f : Nat → Int) (n : Nat) : (liF f n).length = n := by simp [liF]
theorem liF_at (f : Nat → Int) (n i : Nat) (h : i < n) : el (liF f n) i = f i := by rw [el_eq _ _ (by rw [liF_len]; exact h)]; simp [liF]
theorem liF_sm (f : Nat → Int) (n : Nat) : sm (liF f n) = suM f n := by
  have : ∀ k, k ≤ n → tot (liF f n) k = suM f k := by
    intro k
    induction k with
    | zero => intro _; rfl
    | succ k ih => intro hk; rw [tot_succ, ih (by omega), liF_at f n k (by omega)]; rfl
  unfold sm
  rw [liF_len]
  exact this n (Nat.le_refl _)
end M
/-- A block of integers as a list. -/
theorem row_blk {X : World} {g n : Nat} {f : Nat → Int} (h : BlI X g n f) (hn : n ≤ 1000) : Row X X.heap.size (some ⟨g, 0, none⟩) (liF f n) :=
  ⟨by rw [liF_len]; omega, fun _ => ⟨g, 0, rfl, h.lt, fun i hi => by
    rw [liF_len] at hi
    rw [liF_at f n i hi, Nat.zero_add]
    exact h.cell hi⟩⟩
end Go.Proofs.Ythleekdkbgnabaa
