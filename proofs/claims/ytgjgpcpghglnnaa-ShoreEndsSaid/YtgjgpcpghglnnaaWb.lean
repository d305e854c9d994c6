/-
  The worst order and its harm: the program's functions.
-/
import Derived.Test.YtgjgpcpghglnnaaWa
import Derived.Test.YtgjgpcpghglnnaaMi
namespace Go.Proofs.Ytgjgpcpghglnnaa
open Go.RowKit Go.Deep M
set_option linter.unusedVariables false
set_option linter.unusedSimpArgs false

namespace M
theorem ng_jb (l : List Jb) (j : Nat) : jb (l.map ng) j = ng (jb l j) := by
  rcases Nat.lt_or_ge j l.length with h | h
  · exact mpJ_jb ng l h
  · unfold jb
    simp [List.getD_eq_getElem?_getD, h, ng]
theorem ng_at (J : List (List Jb)) (o : List Int) (i : Nat) : jbAt (mpJ ng J) o i = ng (jbAt J o i) := by
  unfold jbAt
  rw [mpJ_be, ng_jb]
theorem ng_hm (J : List (List Jb)) (o : List Int) : ∀ k, hr (mpJ ng J) o k = hr J o k ∧ hm (mpJ ng J) o k = - hm J o k := by
  intro k
  induction k with
  | zero => exact ⟨rfl, rfl⟩
  | succ k ih =>
    obtain ⟨h1, h2⟩ := ih
    rw [hm_succ, hm_succ, hr_succ, hr_succ, h1, h2, ng_at]
    refine ⟨rfl, ?_⟩
    show -hm J o k + -(jbAt J o k).m * (hr J o k + (jbAt J o k).h) = -(hm J o k + (jbAt J o k).m * (hr J o k + (jbAt J o k).h))
    grind
theorem ng_runs {J : List (List Jb)} {o : List Int} : Runs (mpJ ng J) o ↔ Runs J o := by
  unfold Runs
  rw [mpJ_len]
  constructor
  · intro h i hi; have := h i hi; rw [mpJ_be, List.length_map] at this; exact this
  · intro h i hi; have := h i hi; rw [mpJ_be, List.length_map]; exact this
/-- The worst order is an order. -/
theorem worst_ord {J : List (List Jb)} {s : Nat} (hv : vJ J) (hW : Whole (mpJ ng J) s) : ordB J (ord (mpJ ng J) s) = true ∧ (ord (mpJ ng J) s).length = tn J J.length := by
  obtain ⟨h1, h2⟩ := ord_runs (mpJ ng J) s
  have hcn : ∀ b, b < J.length → cnt (ord (mpJ ng J) s) (b : Nat) (ord (mpJ ng J) s).length = (be J b).length := fun b hb => by
    rw [h1 b]
    have h3 : ¬ nxt (mpJ ng J) s b < (be (mpJ ng J) b).length := fun h => gr_max.gr_none (nxt_le (mpJ ng J) s) _ hW b (by rw [mpJ_len]; exact hb) h
    have h4 := nxt_le (mpJ ng J) s b
    rw [mpJ_be, List.length_map] at h3 h4
    omega
  have hl : (ord (mpJ ng J) s).length = tn J J.length := by
    rw [ord_len]
    have : ∀ n, n ≤ J.length → dn (mpJ ng J) (nxt (mpJ ng J) s) n = tn J n := by
      intro n
      induction n with
      | zero => intro _; rfl
      | succ n ih =>
        intro hn
        show dn (mpJ ng J) (nxt (mpJ ng J) s) n + nxt (mpJ ng J) s n = tn J n + _
        rw [ih (by omega), ← hcn n (by omega), h1 n]
    have := this J.length (Nat.le_refl _)
    rw [mpJ_len]
    exact this
  refine ⟨ord_of (by have := hv.2.1; omega) (fun i hi => ?_) hcn, hl⟩
  obtain ⟨⟨a, b⟩, _⟩ := (ng_runs.1 h2) i hi
  omega
theorem ng_hp {J : List (List Jb)} (hv : vJ J) : ∀ a, Hp (be (mpJ ng J) a) := fun a i hi => by
  rw [mpJ_be, List.length_map] at hi
  rw [mpJ_be, ng_jb]
  exact hp_of hv a i hi
/-- No order does more harm than the worst one. -/
theorem worst_all {J : List (List Jb)} {s : Nat} {o : List Int} (hv : vJ J) (hW : Whole (mpJ ng J) s) (ho : ordB J o = true) : hm J o o.length ≤ hm J (ord (mpJ ng J) s) (ord (mpJ ng J) s).length := by
  obtain ⟨_, _, _, h4, h5⟩ := ord_spec hv ho
  have := best_least (ng_hp hv) hW (ng_runs.2 h5) (fun b hb => by rw [mpJ_len] at hb; rw [mpJ_be, List.length_map]; exact h4 b hb)
  rw [(ng_hm J _ _).2, (ng_hm J _ _).2] at this
  omega
theorem bl_mk (f : Jb → Jb) (J : List (List Jb)) (G : Nat → Nat) : bl ((List.range J.length).map fun i => (⟨(be J i).map f, some ⟨G i, 0, none⟩, (be J i).length⟩ : Bc)) = mpJ f J := by
  unfold bl mpJ
  apply List.ext_getElem
  · simp
  · intro i h1 h2
    have h3 : i < J.length := by simpa using h2
    simp [be, List.getD_eq_getElem?_getD, h3]
end M
/-- Lists of jobs that were made, as beaches. -/
theorem ljw_bcs {base g n : Nat} {V : Nat → Value} {G : Nat → Nat} {J : List (List Jb)} {f : Jb → Jb} {X : World} (h : LjW base g n V n G (be J) f X) (hn : J.length = n) (h6 : n ≤ 1000) (hl : ∀ i, i < n → (be J i).length ≤ 1000) :
    ∃ D, D.length = n ∧ bl D = mpJ f J ∧ Bcs X X.heap.size (some ⟨g, 0, none⟩) D := by
  subst hn
  have hb := bl_mk f J G
  refine ⟨_, by simp, hb, ?_⟩
  have hat : ∀ i, i < J.length → bc ((List.range J.length).map fun i => (⟨(be J i).map f, some ⟨G i, 0, none⟩, (be J i).length⟩ : Bc)) i = ⟨(be J i).map f, some ⟨G i, 0, none⟩, (be J i).length⟩ := fun i hi => by
    unfold bc
    simp [List.getD_eq_getElem?_getD, hi]
  have hln : ((List.range J.length).map fun i => (⟨(be J i).map f, some ⟨G i, 0, none⟩, (be J i).length⟩ : Bc)).length = J.length := by simp
  refine ⟨by rw [hln]; omega, fun _ => ⟨g, 0, rfl, h.blk.lt, fun i hi => ?_⟩, fun i hi => ?_⟩
  · rw [hln] at hi
    obtain ⟨s1, s2, s3⟩ := h.sub i hi
    rw [hat i hi, hb, mpJ_be, Nat.zero_add, h.blk.cell hi, s1, List.length_map]
    refine ⟨rfl, by rw [List.length_map]; have := hl i hi; omega, fun _ => ⟨G i, 0, rfl, s3.lt, fun j hj => ?_⟩⟩
    rw [List.length_map] at hj
    rw [mpJ_jb f _ hj, Nat.zero_add]
    exact s3.cell hj
  · rw [hln] at hi
    rw [hat i hi, hb, mpJ_be, List.length_map]
    exact Nat.le_refl _

/-- What worst answers: an order that is the best one once every Harm is taken from 0. -/
def WoP (J : List (List Jb)) (w : World) (e : Ending) (w' : World) : Prop :=
  ∃ s A c, e = .returned (.slice A (ord (mpJ ng J) s).length c) ∧ Whole (mpJ ng J) s ∧ Below w.heap.size w w' ∧ Row w' w'.heap.size A (ord (mpJ ng J) s)
set_option maxRecDepth 100000 in
set_option maxHeartbeats 4000000 in
theorem worst_any (B : Nat) (A : Option Addr) (c : Nat) (D : List Bc) (w : World) (h : Bcs w B A D) (hB : B ≤ w.heap.size) (hv : vJ (bl D)) :
    Calls Try.prog 65 #[.slice A D.length c] w (WoP (bl D) w) := by
  have h63 := h.1
  have hlen := bl_len D
  have c82 := eachW_any B A c D w h hB hv
  unfold EaWP at c82
  have hn6 : D.length ≤ 6 := by have := hv.1.2; rw [hlen] at this; exact this
  have hbl := fun i (hi : i < D.length) => Nat.le_trans (be_le (show i < (bl D).length by rw [hlen]; exact hi)) hv.2.1
  have hbc := fun (g base : Nat) V G X (hh : LjW base g D.length V D.length G (be (bl D)) ng X) => ljw_bcs hh hlen (by omega) (fun i hi => by have := hbl i hi; omega)
  have c62 := fun X D' (hD : bl D' = mpJ ng (bl D)) (A' : Option Addr) c' (hb : Bcs X X.heap.size A' D') => (by have q := bestS_any X.heap.size A' c' D' X hb (Nat.le_refl _) (by rw [hD]; exact ng_vS hv); rw [hD] at q; exact q : Calls Try.prog 62 #[.slice A' D'.length c'] X _)
  have hl12 : ∀ s, Whole (mpJ ng (bl D)) s → (ord (mpJ ng (bl D)) s).length ≤ 12 := fun s hs => by rw [(worst_ord hv hs).2]; exact hv.2.1
  obtain ⟨J, hJ⟩ : ∃ J, J = bl D := ⟨_, rfl⟩
  rw [← hJ] at c82 hbc c62 hl12 ⊢
  obtain ⟨n, hn⟩ : ∃ n, n = D.length := ⟨_, rfl⟩
  rw [← hn] at h63 c82 hbc ⊢
  replace hn := Lib.hid hn
  replace hJ := Lib.hid hJ
  replace hlen := Lib.hid hlen
  replace hbl := Lib.hid hbl
  replace hbc := Lib.hid hbc
  replace c82 := Lib.hid c82
  replace c62 := Lib.hid c62
  replace hl12 := Lib.hid hl12
  replace hv := Lib.hid hv
  replace h := Lib.hid h
  go_enter Try.func65, Try.ntmps65
  go_wp2_with fail
  refine c82.out.mono ?_
  rintro e X1 ⟨g, base, V, G, rfl, hb1, -, hLs⟩
  obtain ⟨D', hDl, hD', hbs⟩ := hbc.out g base V G X1 hLs
  have k62 := c62.out X1 D' hD' _ n hbs
  rw [hDl] at k62
  replace hb1 := Lib.hid hb1
  replace k62 := Lib.hid k62
  replace hLs := Lib.hid hLs
  replace hbs := Lib.hid hbs
  replace hDl := Lib.hid hDl
  replace hD' := Lib.hid hD'
  go_wp2_with fail
  refine k62.out.mono ?_
  rintro e X2 ⟨s, v, rfl, hW, hb2, hown⟩
  obtain ⟨A2, c2, rfl, hrow⟩ := own_row hown (by have := hl12.out s hW; omega)
  have hend := Lib.hid (bel_trans hb1.out hb2)
  obtain ⟨o, ho⟩ : ∃ o, o = ord (mpJ ng J) s := ⟨_, rfl⟩
  rw [← ho] at hrow ⊢
  replace hW := Lib.hid hW
  replace hrow := Lib.hid hrow
  replace ho := Lib.hid ho
  clear hb2 hown k62
  go_wp2
  go_ret
  exact ⟨s, A2, c2, by rw [← ho.out]; rfl, hW.out, hend.out, by rw [← ho.out]; exact hrow.out⟩

/-- What Worst answers of valid jobs. -/
def WsP (J : List (List Jb)) (w : World) (e : Ending) (w' : World) : Prop :=
  ∃ s, e = .returned (.tuple #[.int .i64 (hm J (ord (mpJ ng J) s) (ord (mpJ ng J) s).length), .int .i64 0]) ∧ Whole (mpJ ng J) s ∧ Below w.heap.size w w'
set_option maxRecDepth 100000 in
set_option maxHeartbeats 4000000 in
theorem Worst_good (B : Nat) (A : Option Addr) (c : Nat) (D : List Bc) (w : World) (h : Bcs w B A D) (hB : B ≤ w.heap.size) (hL : ∀ i, i < D.length → (be (bl D) i).length ≤ 100) (hv : valB (bl D) = true) :
    Calls Try.prog 31 #[.slice A D.length c] w (WsP (bl D) w) := by
  have h63 := h.1
  have c51 := checked_any B A c D w h hB hL
  unfold errV at c51
  rw [if_pos hv] at c51
  have c65 := fun X (hX : Below w.heap.size w X) => worst_any B A c D X (h.below (hX.mono hB)) (Nat.le_trans hB hX.size) (val_of hv)
  have c56 := fun X (hX : Below w.heap.size w X) s (hs : Whole (mpJ ng (bl D)) s) Av cv (hr : Row X X.heap.size Av (ord (mpJ ng (bl D)) s)) => (by
    obtain ⟨h1, h2⟩ := worst_ord (val_of hv) hs
    obtain ⟨_, h4, _, _, h5⟩ := ord_spec (val_of hv) h1
    exact harm_any X.heap.size A Av c cv D _ X ((h.below (hX.mono hB)).more (Nat.le_trans hB hX.size)) hr (Nat.le_refl _) (val_of hv) h5 h4 : Calls Try.prog 56 #[.slice A D.length c, .slice Av (ord (mpJ ng (bl D)) s).length cv] X _)
  unfold WoP at c65
  generalize D.length = n at *
  replace hv := Lib.hid hv
  replace hL := Lib.hid hL
  replace c51 := Lib.hid c51
  replace c65 := Lib.hid c65
  replace c56 := Lib.hid c56
  replace h := Lib.hid h
  go_enter Try.func31, Try.ntmps31
  go_wp2_with fail
  refine c51.out.mono ?_
  rintro e X1 ⟨rfl, hb1⟩
  have k65 := Lib.hid (c65.out X1 hb1)
  replace hb1 := Lib.hid hb1
  go_wp2_with fail
  refine k65.out.mono ?_
  rintro e X2 ⟨s, A2, c2, rfl, hW, hb2, hrow⟩
  have hb3 := bel_trans hb1.out hb2
  have k56 := c56.out X2 hb3 s hW A2 c2 hrow
  obtain ⟨o, ho⟩ : ∃ o, o = ord (mpJ ng (bl D)) s := ⟨_, rfl⟩
  rw [← ho] at k56 ⊢
  obtain ⟨R, hR⟩ : ∃ R, R = hm (bl D) o o.length := ⟨_, rfl⟩
  rw [← hR] at k56
  replace hR := Lib.hid hR
  replace ho := Lib.hid ho
  replace hW := Lib.hid hW
  replace hrow := Lib.hid hrow
  replace hb3 := Lib.hid hb3
  replace k56 := Lib.hid k56
  clear hb2 k65
  go_wp2_with fail
  refine k56.out.mono ?_
  rintro e X3 ⟨rfl, hb4⟩
  have hend := Lib.hid (bel_trans hb3.out hb4)
  clear hb4
  go_wp2
  exact bodyPost_ret (v := .tuple #[.int .i64 R, .int .i64 0]) (by simp [results, Try.results31, go_sem]) rfl ⟨s, by rw [← ho.out, hR.out], hW.out, hend.out⟩
end Go.Proofs.Ytgjgpcpghglnnaa
