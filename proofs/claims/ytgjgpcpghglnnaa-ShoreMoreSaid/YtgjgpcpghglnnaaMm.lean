/-
  Jobs left out at the end of a beach: plain mathematics.
-/
import Derived.Test.YtgjgpcpghglnnaaBb
namespace Go.Proofs.Ytgjgpcpghglnnaa.M
set_option linter.unusedVariables false
set_option linter.unusedSimpArgs false

/-- The first q jobs of a beach alone. -/
def trn (J : List (List Jb)) (b q : Nat) : List (List Jb) := J.set b ((be J b).take q)
theorem trn_len (J : List (List Jb)) (b q : Nat) : (trn J b q).length = J.length := by simp [trn]
theorem trn_be (J : List (List Jb)) {b : Nat} (q : Nat) (hb : b < J.length) (a : Nat) : be (trn J b q) a = if a = b then (be J b).take q else be J a := by
  unfold trn
  by_cases h : a = b
  · subst h
    rw [if_pos rfl]
    have hl : a < (J.set a ((be J a).take q)).length := by simpa using hb
    unfold be
    simp [List.getD_eq_getElem?_getD, List.getElem?_set, hb]
  · have h' : ¬ b = a := fun e => h e.symm
    rw [if_neg h]
    unfold be
    simp [List.getD_eq_getElem?_getD, List.getElem?_set, h']
theorem trn_jb (J : List (List Jb)) {b : Nat} (q : Nat) (hb : b < J.length) {a i : Nat} (hi : i < (be (trn J b q) a).length) : jb (be (trn J b q) a) i = jb (be J a) i := by
  rw [trn_be J q hb] at hi ⊢
  by_cases h : a = b
  · subst h
    rw [if_pos rfl] at hi ⊢
    rw [List.length_take] at hi
    unfold jb
    simp [List.getD_eq_getElem?_getD, List.getElem?_take, show i < q by omega]
  · rw [if_neg h]
theorem trn_le (J : List (List Jb)) {b : Nat} (q : Nat) (hb : b < J.length) (a : Nat) : (be (trn J b q) a).length ≤ (be J a).length := by
  rw [trn_be J q hb]
  by_cases h : a = b
  · subst h; rw [if_pos rfl, List.length_take]; omega
  · rw [if_neg h]; exact Nat.le_refl _
theorem trn_vJ {J : List (List Jb)} {b : Nat} (q : Nat) (hb : b < J.length) (hv : vJ J) : vJ (trn J b q) := by
  have ht : ∀ k, tn (trn J b q) k ≤ tn J k := by
    intro k
    induction k with
    | zero => exact Nat.le_refl _
    | succ k ih => have := trn_le J q hb k; rw [tn_succ, tn_succ]; omega
  refine ⟨by rw [trn_len]; exact hv.1, by rw [trn_len]; exact Nat.le_trans (ht _) hv.2.1, fun a ha i hi => ?_⟩
  rw [trn_len] at ha
  rw [trn_jb J q hb hi]
  exact hv.2.2 a ha i (Nat.lt_of_lt_of_le hi (trn_le J q hb a))

/-! ### an order without these jobs -/
def del (b q : Nat) : (Nat → Nat) → List Nat → List Nat
  | _, [] => []
  | nx, a :: o => if a = b ∧ q ≤ nx b then del b q (upd nx a 1) o else a :: del b q (upd nx a 1) o
def cp (b q : Nat) (nx : Nat → Nat) : Nat → Nat := fun a => if a = b then min (nx b) q else nx a
theorem cp_b (b q : Nat) (nx : Nat → Nat) : cp b q nx b = min (nx b) q := if_pos rfl
theorem cp_ne {b a : Nat} (q : Nat) (nx : Nat → Nat) (h : a ≠ b) : cp b q nx a = nx a := if_neg h
theorem cp_skip {b q : Nat} {nx : Nat → Nat} (h : q ≤ nx b) : cp b q (upd nx b 1) = cp b q nx := by
  funext a
  by_cases e : a = b
  · rw [e, cp_b, cp_b, upd_self]; omega
  · rw [cp_ne _ _ e, cp_ne _ _ e, upd_ne _ _ e]
theorem cp_keep {b q a : Nat} {nx : Nat → Nat} (h : ¬ (a = b ∧ q ≤ nx b)) : cp b q (upd nx a 1) = upd (cp b q nx) a 1 ∧ cp b q nx a = nx a := by
  by_cases e : a = b
  · subst e
    have h1 : nx a < q := by omega
    refine ⟨?_, by rw [cp_b]; omega⟩
    funext k
    by_cases ek : k = a
    · rw [ek, cp_b, upd_self, upd_self, cp_b]; omega
    · rw [cp_ne _ _ ek, upd_ne _ _ ek, upd_ne _ _ ek, cp_ne _ _ ek]
  · refine ⟨?_, cp_ne _ _ e⟩
    funext k
    by_cases ek : k = a
    · rw [ek, cp_ne _ _ e, upd_self, upd_self, cp_ne _ _ e]
    · rw [upd_ne _ _ ek]
      by_cases eb : k = b
      · rw [eb, cp_b, cp_b, upd_ne _ _ (Ne.symm e)]
      · rw [cp_ne _ _ eb, cp_ne _ _ eb, upd_ne _ _ ek]
theorem del_skip {b q a : Nat} {nx : Nat → Nat} {o : List Nat} (h : a = b ∧ q ≤ nx b) : del b q nx (a :: o) = del b q (upd nx a 1) o := if_pos h
theorem del_keep {b q a : Nat} {nx : Nat → Nat} {o : List Nat} (h : ¬ (a = b ∧ q ≤ nx b)) : del b q nx (a :: o) = a :: del b q (upd nx a 1) o := if_neg h
theorem hL_del {J : List (List Jb)} {b q : Nat} (hb : b < J.length) (hp : ∀ a, a < J.length → ∀ i, i < (be J a).length → okJ (jb (be J a) i)) : ∀ (o : List Nat) nx (t t' : Int), 0 ≤ t' → t' ≤ t → Vl J nx o → hL (trn J b q) (cp b q nx) t' (del b q nx o) ≤ hL J nx t o ∧ Vl (trn J b q) (cp b q nx) (del b q nx o) := by
  intro o
  induction o with
  | nil => intro nx t t' _ _ _; exact ⟨Int.le_refl _, trivial⟩
  | cons a o ih =>
    rintro nx t t' h0 ht ⟨v1, v2, v3⟩
    obtain ⟨⟨x1, x2⟩, x3, x4⟩ := hp a v1 (nx a) v2
    by_cases h : a = b ∧ q ≤ nx b
    · obtain ⟨rfl, hq⟩ := h
      rw [del_skip ⟨rfl, hq⟩, hL_cons, ← cp_skip hq]
      obtain ⟨i1, i2⟩ := ih (upd nx a 1) (t + (jb (be J a) (nx a)).h) t' h0 (by omega) v3
      refine ⟨?_, i2⟩
      have : 0 ≤ (jb (be J a) (nx a)).m * (t + (jb (be J a) (nx a)).h) := Int.mul_nonneg x3 (by omega)
      omega
    · obtain ⟨k1, k2⟩ := cp_keep h
      rw [del_keep h, hL_cons, hL_cons, ← k1, k2]
      have hlt : nx a < (be (trn J b q) a).length := by
        rw [trn_be J q hb]
        by_cases e : a = b
        · subst e; rw [if_pos rfl, List.length_take]; omega
        · rw [if_neg e]; exact v2
      rw [trn_jb J q hb hlt]
      obtain ⟨i1, i2⟩ := ih (upd nx a 1) (t + (jb (be J a) (nx a)).h) (t' + (jb (be J a) (nx a)).h) (by omega) (by omega) v3
      refine ⟨?_, by rw [trn_len]; exact v1, by rw [k2]; exact hlt, by rw [← k1]; exact i2⟩
      have := Int.mul_le_mul_of_nonneg_left (show t' + (jb (be J a) (nx a)).h ≤ t + (jb (be J a) (nx a)).h by omega) x3
      omega
theorem del_count {b q : Nat} (a : Nat) : ∀ (o : List Nat) nx, cp b q nx a + (del b q nx o).count a = if a = b then min (nx b + o.count b) q else nx a + o.count a := by
  intro o
  induction o with
  | nil =>
    intro nx
    by_cases e : a = b
    · subst e; rw [if_pos rfl, cp_b]; rfl
    · rw [if_neg e, cp_ne _ _ e]; rfl
  | cons c o ih =>
    intro nx
    have hi := ih (upd nx c 1)
    by_cases h : c = b ∧ q ≤ nx b
    · obtain ⟨rfl, hq⟩ := h
      rw [del_skip ⟨rfl, hq⟩, ← cp_skip hq, hi]
      by_cases e : a = c
      · subst e
        rw [if_pos rfl, if_pos rfl, upd_self, List.count_cons_self]
        omega
      · rw [if_neg e, if_neg e, upd_ne _ _ e, List.count_cons_of_ne (Ne.symm e)]
    · obtain ⟨k1, k2⟩ := cp_keep h
      rw [k1] at hi
      rw [del_keep h]
      by_cases e : a = c
      · subst e
        rw [upd_self] at hi
        rw [List.count_cons_self]
        by_cases e2 : a = b
        · subst e2
          rw [if_pos rfl] at hi ⊢
          rw [upd_self] at hi
          rw [List.count_cons_self]
          omega
        · rw [if_neg e2] at hi ⊢
          rw [upd_self] at hi
          rw [List.count_cons_self]
          omega
      · rw [upd_ne _ _ e] at hi
        rw [List.count_cons_of_ne (Ne.symm e)]
        by_cases e2 : a = b
        · subst e2
          rw [if_pos rfl] at hi ⊢
          rw [upd_ne _ _ e] at hi
          rw [List.count_cons_of_ne (Ne.symm e)]
          omega
        · rw [if_neg e2] at hi ⊢
          rw [upd_ne _ _ e] at hi
          rw [List.count_cons_of_ne (Ne.symm e)]
          omega
/-- The harm of a list of numbers as the program tells it. -/
theorem hm_toN {J : List (List Jb)} {o : List Int} (h0 : ∀ i, i < o.length → 0 ≤ el o i) : hm J o o.length = hL J (fun _ => 0) 0 (toN o) := by
  have e1 := hm_hL (J := J) h0 o.length 0 (Nat.zero_add _)
  rw [List.drop_zero] at e1
  have hm0 : hm J o 0 = 0 := rfl
  have hr0 : hr J o 0 = 0 := rfl
  rw [hm0, hr0, Int.sub_zero] at e1
  exact e1.symm
/-- JOBS LEFT OUT NEVER MAKE THE LEAST HARM GREATER. -/
theorem least_more {J : List (List Jb)} {b q s s' : Nat} (hb : b < J.length) (hv : vJ J) (hW : Whole J s) (hW' : Whole (trn J b q) s') :
    hm (trn J b q) (ord (trn J b q) s') (ord (trn J b q) s').length ≤ hm J (ord J s) (ord J s).length := by
  obtain ⟨n1, n2⟩ := ord_toN J s
  obtain ⟨n1', n2'⟩ := ord_toN (trn J b q) s'
  have h0 : ∀ i, i < (ord J s).length → 0 ≤ el (ord J s) i := fun i hi => n2 _ (by rw [el_eq _ _ hi]; exact List.getElem_mem hi)
  have h0' : ∀ i, i < (ord (trn J b q) s').length → 0 ≤ el (ord (trn J b q) s') i := fun i hi => n2' _ (by rw [el_eq _ _ hi]; exact List.getElem_mem hi)
  obtain ⟨b1, _⟩ := best_ord hv hW
  obtain ⟨_, _, _, hc, hru⟩ := ord_spec hv b1
  have v := vl_of hru (ord J s).length 0 (Nat.zero_add _)
  rw [List.drop_zero] at v
  have v' : Vl J (fun _ => 0) (toN (ord J s)) := v
  have hcp : cp b q (fun _ => 0) = fun _ => 0 := by
    funext a
    by_cases e : a = b
    · rw [e, cp_b]; omega
    · rw [cp_ne _ _ e]
  obtain ⟨d1, d2⟩ := hL_del (q := q) hb (fun a ha => hv.2.2 a ha) (toN (ord J s)) (fun _ => 0) 0 0 (Int.le_refl _) (Int.le_refl _) v'
  rw [hcp] at d1 d2
  have hco : Co (trn J b q) (fun _ => 0) (del b q (fun _ => 0) (toN (ord J s))) := fun a ha => by
    rw [trn_len] at ha
    have hd := del_count (b := b) (q := q) a (toN (ord J s)) (fun _ => 0)
    rw [hcp] at hd
    have hcn : ∀ a, a < J.length → (toN (ord J s)).count a = (be J a).length := fun a ha => by
      rw [toN_count (fun y hy => n2 y hy), ← cnt_count, hc a ha]
    rw [hd, trn_be J q hb]
    by_cases e : a = b
    · subst e
      rw [if_pos rfl, if_pos rfl, hcn a ha, List.length_take]
      omega
    · rw [if_neg e, if_neg e, hcn a ha]
      omega
  have hf := (fin_whole (trn J b q) s' 0).2 hW'
  have hg := ordN_gre (trn J b q) s' 0
  rw [Nat.add_zero] at hf hg
  have hg' : gre (trn J b q) s' (fun _ => 0) = ordN (trn J b q) s' := by rw [hg]; exact List.append_nil _
  have hmin := gre_min (hp_of (trn_vJ q hb hv)) s' (fun _ => 0) (fun i => Nat.zero_le _) hf _ d2 hco
  rw [hg', ← n1'] at hmin
  rw [hm_toN h0, hm_toN h0']
  exact Int.le_trans hmin d1

/-! ### the bound -/
theorem qs_mono {f g : Nat → Int} {n' : Nat} : ∀ n, n' ≤ n → (∀ i, i < n' → f i ≤ g i) → (∀ i, i < n → 0 ≤ g i) → qs f n' ≤ qs g n := by
  intro n
  induction n with
  | zero =>
    intro h1 _ _
    have : n' = 0 := by omega
    subst this
    exact Int.le_refl _
  | succ n ih =>
    intro h1 h2 h3
    rcases Nat.lt_or_ge n' (n + 1) with h | h
    · have := ih (by omega) h2 (fun i hi => h3 i (by omega))
      have := h3 n (Nat.lt_succ_self _)
      show qs f n' ≤ qs g n + g n
      omega
    · have : n' = n + 1 := by omega
      subst this
      exact qs_le _ h2
theorem ly_nonneg {J : List (List Jb)} {a i b j : Nat} (h1 : okJ (jb (be J a) i)) (h2 : okJ (jb (be J b) j)) : 0 ≤ ly J a i b j := by
  obtain ⟨⟨x1, _⟩, x3, _⟩ := h1
  obtain ⟨⟨y1, _⟩, y3, _⟩ := h2
  have p1 : 0 ≤ (jb (be J a) i).h * (jb (be J b) j).m := Int.mul_nonneg (by omega) y3
  have p2 : 0 ≤ (jb (be J b) j).h * (jb (be J a) i).m := Int.mul_nonneg (by omega) x3
  have p3 : 0 ≤ (jb (be J a) i).h * (jb (be J a) i).m := Int.mul_nonneg (by omega) x3
  unfold ly
  split
  · split
    · omega
    · split <;> omega
  · omega
/-- The bound of valid jobs, by all pairs. -/
theorem bound_all {J : List (List Jb)} (hv : vJ J) : 2 * bs J (fo J J.length) (fo J J.length).length = qs (fun b => qs (fun j => qs (fun a => qs (fun i => ly J a i b j) (be J a).length) J.length) (be J b).length) J.length := by
  have hr := fo_runs J J.length (Nat.le_refl _)
  rw [← s1_bs, s1_s2]
  exact s2_same (J := J) (o := fo J J.length) (fun i hi => by obtain ⟨⟨a, b⟩, _⟩ := hr.2 i hi; omega) (fun b hb => by rw [hr.1 b, if_pos hb])
/-- NOR THE BOUND. -/
theorem bound_more {J : List (List Jb)} {b q : Nat} (hb : b < J.length) (hv : vJ J) :
    bs (trn J b q) (fo (trn J b q) (trn J b q).length) (fo (trn J b q) (trn J b q).length).length ≤ bs J (fo J J.length) (fo J J.length).length := by
  have e1 := bound_all hv
  have e2 := bound_all (trn_vJ q hb hv)
  have hok : ∀ a, a < J.length → ∀ i, i < (be J a).length → okJ (jb (be J a) i) := fun a ha i hi => hv.2.2 a ha i hi
  have hle : qs (fun d => qs (fun j => qs (fun a => qs (fun i => ly (trn J b q) a i d j) (be (trn J b q) a).length) (trn J b q).length) (be (trn J b q) d).length) (trn J b q).length
      ≤ qs (fun d => qs (fun j => qs (fun a => qs (fun i => ly J a i d j) (be J a).length) J.length) (be J d).length) J.length := by
    rw [trn_len]
    refine qs_mono _ (Nat.le_refl _) (fun d hd => ?_) (fun d hd => qs_nonneg _ fun j hj => qs_nonneg _ fun a ha => qs_nonneg _ fun i hi => ly_nonneg (hok a ha i hi) (hok d hd j hj))
    refine qs_mono _ (trn_le J q hb d) (fun j hj => ?_) (fun j hj => qs_nonneg _ fun a ha => qs_nonneg _ fun i hi => ly_nonneg (hok a ha i hi) (hok d hd j hj))
    have hjl := Nat.lt_of_lt_of_le hj (trn_le J q hb d)
    refine qs_mono _ (Nat.le_refl _) (fun a ha => ?_) (fun a ha => qs_nonneg _ fun i hi => ly_nonneg (hok a ha i hi) (hok d hd j hjl))
    refine qs_mono _ (trn_le J q hb a) (fun i hi => ?_) (fun i hi => ly_nonneg (hok a ha i hi) (hok d hd j hjl))
    have : ly (trn J b q) a i d j = ly J a i d j := by
      unfold ly
      rw [trn_jb J q hb hi, trn_jb J q hb hj]
    rw [this]
    exact Int.le_refl _
  omega
/-- There is an order that is whole. -/
theorem whole_ex (J : List (List Jb)) : ∃ s, Whole J s := by
  have h : ∀ s, (∃ t, Whole J t) ∨ s ≤ dn J (nxt J s) J.length := by
    intro s
    induction s with
    | zero => exact .inr (Nat.zero_le _)
    | succ s ih =>
      rcases ih with h | h
      · exact .inl h
      · cases hg : gr J (nxt J s) J.length with
        | none => exact .inl ⟨s, hg⟩
        | some p =>
          obtain ⟨i, c⟩ := p
          have := dn_step J s hg
          exact .inr (by omega)
  rcases h (tn J J.length + 1) with h | h
  · exact h
  · have := dn_le J (nxt J (tn J J.length + 1)) (nxt_le J _) J.length
    omega
end Go.Proofs.Ytgjgpcpghglnnaa.M
