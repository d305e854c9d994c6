/-
  No order does less harm than the best one: by leads, from the first one on.
-/
import Derived.Test.YtgjgpcpghglnnaaMg
import Derived.Test.YtgjgpcpghglnnaaU
namespace Go.Proofs.Ytgjgpcpghglnnaa.M
set_option linter.unusedVariables false
set_option linter.unusedSimpArgs false

/-- The leads from a state on. -/
def gre (J : List (List Jb)) : Nat → (Nat → Nat) → List Nat
  | 0, _ => []
  | s + 1, nx => match gr J nx J.length with
    | none => []
    | some (p, c) => List.replicate c p ++ gre J s (upd nx p c)
/-- They are all there are. -/
def Fin (J : List (List Jb)) : Nat → (Nat → Nat) → Prop
  | 0, nx => gr J nx J.length = none
  | s + 1, nx => match gr J nx J.length with
    | none => True
    | some (p, c) => Fin J s (upd nx p c)
theorem gre_none {J : List (List Jb)} {nx : Nat → Nat} (h : gr J nx J.length = none) (s : Nat) : gre J s nx = [] := by
  cases s with
  | zero => rfl
  | succ s => unfold gre; rw [h]
theorem gre_some {J : List (List Jb)} {nx : Nat → Nat} {p c : Nat} (h : gr J nx J.length = some (p, c)) (s : Nat) : gre J (s + 1) nx = List.replicate c p ++ gre J s (upd nx p c) := by
  show (match gr J nx J.length with | none => [] | some (p, c) => List.replicate c p ++ gre J s (upd nx p c)) = _
  rw [h]
theorem fin_some {J : List (List Jb)} {nx : Nat → Nat} {p c : Nat} (h : gr J nx J.length = some (p, c)) (s : Nat) : Fin J (s + 1) nx = Fin J s (upd nx p c) := by
  show (match gr J nx J.length with | none => True | some (p, c) => Fin J s (upd nx p c)) = _
  rw [h]
theorem vl_rep {J : List (List Jb)} {p : Nat} {o : List Nat} (hp : p < J.length) : ∀ c nx, nx p + c ≤ (be J p).length → Vl J (upd nx p c) o → Vl J nx (List.replicate c p ++ o) := by
  intro c
  induction c with
  | zero =>
    intro nx _ h
    have : upd nx p 0 = nx := by
      funext a
      by_cases e : a = p
      · rw [e, upd_self]; omega
      · rw [upd_ne _ _ e]
    rw [this] at h; exact h
  | succ c ih =>
    intro nx h1 h2
    rw [List.replicate_succ, List.cons_append]
    refine ⟨hp, by omega, ih _ (by rw [upd_self]; omega) ?_⟩
    rw [upd_upd, Nat.add_comm 1 c]; exact h2
theorem hL_rep (J : List (List Jb)) (p f : Nat) (o : List Nat) : ∀ k u nx, nx p = f + u → hL J nx (sh (be J p) f u) (List.replicate k p ++ o) = wL (be J p) f u k + hL J (upd nx p k) (sh (be J p) f (u + k)) o := by
  intro k
  induction k with
  | zero =>
    intro u nx _
    have : upd nx p 0 = nx := by
      funext a
      by_cases e : a = p
      · rw [e, upd_self]; omega
      · rw [upd_ne _ _ e]
    rw [this]
    show hL J nx _ o = 0 + _
    rw [Int.zero_add, Nat.add_zero]
  | succ k ih =>
    intro u nx h
    rw [List.replicate_succ, List.cons_append, hL_cons, h]
    have := ih (u + 1) (upd nx p 1) (by rw [upd_self]; omega)
    rw [sh_succ] at this
    rw [this, upd_upd, Nat.add_comm 1 k]
    have e : u + (k + 1) = u + 1 + k := by omega
    rw [e]
    show _ = (jb (be J p) (f + u)).m * sh (be J p) f (u + 1) + wL (be J p) f (u + 1) k + _
    rw [sh_succ]
    omega
theorem rem_count {p : Nat} (a : Nat) : ∀ (o : List Nat) k, k ≤ o.count p → (rem p k o).count a + (if a = p then k else 0) = o.count a := by
  intro o
  induction o with
  | nil =>
    intro k hk
    have : k = 0 := by simpa using hk
    subst this
    simp [rem]
  | cons b o ih =>
    intro k hk
    cases k with
    | zero => simp [rem]
    | succ k =>
      by_cases e : b = p
      · have hr : rem p (k + 1) (b :: o) = rem p k o := by show (if b = p then _ else _) = _; rw [if_pos e]
        rw [hr]
        subst e
        rw [List.count_cons_self] at hk
        have := ih k (by omega)
        by_cases e2 : a = b
        · subst e2
          rw [if_pos rfl] at this ⊢
          rw [List.count_cons_self]
          omega
        · rw [if_neg e2] at this ⊢
          rw [List.count_cons_of_ne (Ne.symm e2)]
          omega
      · have hr : rem p (k + 1) (b :: o) = b :: rem p (k + 1) o := by show (if b = p then _ else _) = _; rw [if_neg e]
        rw [hr]
        rw [List.count_cons_of_ne e] at hk
        have := ih (k + 1) hk
        by_cases e2 : a = b
        · subst e2
          rw [List.count_cons_self, List.count_cons_self]
          omega
        · rw [List.count_cons_of_ne (Ne.symm e2), List.count_cons_of_ne (Ne.symm e2)]
          omega
/-- The Harm of what is done is what it is behind, less what it was ahead. -/
theorem mL_tot (J : List (List Jb)) : ∀ (o : List Nat) nx, Vl J nx o → mL J nx o = qs (fun a => sm (be J a) 0 (nx a + o.count a)) J.length - qs (fun a => sm (be J a) 0 (nx a)) J.length := by
  intro o
  induction o with
  | nil => intro nx _; simp [mL]
  | cons b o ih =>
    rintro nx ⟨h1, h2, h3⟩
    rw [mL_cons, ih _ h3]
    have e1 : qs (fun a => sm (be J a) 0 (upd nx b 1 a)) J.length = qs (fun a => sm (be J a) 0 (nx a)) J.length + (jb (be J b) (nx b)).m := by
      rw [qs_upd (b := b) (d := (jb (be J b) (nx b)).m) (f := fun a => sm (be J a) 0 (nx a)) ?_ ?_, if_pos h1]
      · rw [upd_self, sm_succ, Nat.zero_add]
      · intro a ha; rw [upd_ne _ _ ha]
    have e2 : (fun a => sm (be J a) 0 (upd nx b 1 a + o.count a)) = fun a => sm (be J a) 0 (nx a + (b :: o).count a) := by
      funext a
      by_cases e : a = b
      · subst e; rw [upd_self, List.count_cons_self]; congr 1; omega
      · rw [upd_ne _ _ e, List.count_cons_of_ne (Ne.symm e)]
    rw [e1, e2]
    omega
theorem qs_congr {f g : Nat → Int} : ∀ n, (∀ a, a < n → f a = g a) → qs f n = qs g n := by
  intro n
  induction n with
  | zero => intro _; rfl
  | succ n ih =>
    intro h
    show qs f n + f n = qs g n + g n
    rw [ih fun a ha => h a (by omega), h n (Nat.lt_succ_self _)]
/-- All jobs are done, from a state on. -/
def Co (J : List (List Jb)) (nx : Nat → Nat) (o : List Nat) : Prop := ∀ a, a < J.length → nx a + o.count a = (be J a).length
theorem mL_same {J : List (List Jb)} {nx : Nat → Nat} {o o' : List Nat} (h : Vl J nx o) (h' : Vl J nx o') (hc : Co J nx o) (hc' : Co J nx o') : mL J nx o = mL J nx o' := by
  rw [mL_tot J o nx h, mL_tot J o' nx h']
  congr 1
  exact qs_congr _ fun a ha => by rw [hc a ha, hc' a ha]
theorem vl_lt {J : List (List Jb)} {a : Nat} : ∀ (o : List Nat) nx, Vl J nx o → a ∈ o → a < J.length := by
  intro o
  induction o with
  | nil => intro nx _ h; cases h
  | cons b o ih =>
    rintro nx ⟨h1, h2, h3⟩ h
    rcases List.mem_cons.1 h with rfl | h
    · exact h1
    · exact ih _ h3 h
theorem gre_ok {J : List (List Jb)} : ∀ s nx, (∀ i, nx i ≤ (be J i).length) → Fin J s nx → Vl J nx (gre J s nx) ∧ Co J nx (gre J s nx) := by
  intro s
  induction s with
  | zero =>
    intro nx hn hf
    refine ⟨trivial, fun a ha => ?_⟩
    have h1 : ¬ nx a < (be J a).length := fun h => gr_max.gr_none hn _ hf a ha h
    have := hn a
    show nx a + 0 = _
    omega
  | succ s ih =>
    intro nx hn hf
    cases hg : gr J nx J.length with
    | none =>
      rw [gre_none hg]
      refine ⟨trivial, fun a ha => ?_⟩
      have h1 : ¬ nx a < (be J a).length := fun h => gr_max.gr_none hn _ hg a ha h
      have := hn a
      show nx a + 0 = _
      omega
    | some q =>
      obtain ⟨p, c⟩ := q
      obtain ⟨g1, g2, g3⟩ := gr_spec J nx hn _ _ _ hg
      have hl := (ld_b (be J p) (nx p) g2).2
      rw [fin_some hg] at hf
      rw [gre_some hg]
      obtain ⟨h1, h2⟩ := ih (upd nx p c) (fun i => by
        by_cases e : i = p
        · rw [e, upd_self]; omega
        · rw [upd_ne _ _ e]; exact hn i) hf
      refine ⟨vl_rep g1 c nx (by omega) h1, fun a ha => ?_⟩
      have := h2 a ha
      rw [List.count_append, List.count_replicate]
      by_cases e : a = p
      · subst e
        rw [upd_self] at this
        simp
        omega
      · rw [upd_ne _ _ e] at this
        have e' : ¬ p = a := fun h => e h.symm
        simp [e']
        exact this
/-- NO ORDER DOES LESS HARM THAN THE LEADS. -/
theorem gre_min {J : List (List Jb)} (hJ : ∀ a, Hp (be J a)) : ∀ s nx, (∀ i, nx i ≤ (be J i).length) → Fin J s nx → ∀ o, Vl J nx o → Co J nx o → hL J nx 0 (gre J s nx) ≤ hL J nx 0 o := by
  intro s
  induction s with
  | zero =>
    intro nx hn hf o hv hc
    have : o = [] := by
      cases o with
      | nil => rfl
      | cons b o =>
        exfalso
        obtain ⟨h1, h2, _⟩ := hv
        exact gr_max.gr_none hn _ hf b h1 h2
    subst this
    exact Int.le_refl _
  | succ s ih =>
    intro nx hn hf o hv hc
    cases hg : gr J nx J.length with
    | none =>
      have : o = [] := by
        cases o with
        | nil => rfl
        | cons b o =>
          exfalso
          obtain ⟨h1, h2, _⟩ := hv
          exact gr_max.gr_none hn _ hg b h1 h2
      subst this
      rw [gre_none hg]
      exact Int.le_refl _
    | some q =>
      obtain ⟨p, c⟩ := q
      obtain ⟨g1, g2, g3⟩ := gr_spec J nx hn _ _ _ hg
      have hl := ld_b (be J p) (nx p) g2
      rw [← g3] at hl
      rw [fin_some hg] at hf
      rw [gre_some hg]
      have hn' : ∀ i, upd nx p c i ≤ (be J i).length := fun i => by
        by_cases e : i = p
        · rw [e, upd_self]; omega
        · rw [upd_ne _ _ e]; exact hn i
      have hHP : 0 < sh (be J p) (nx p) c := by have := sh_pos (hJ p) (nx p) c hl.2; omega
      have A1 : ∀ u, u ≤ c → sm (be J p) (nx p) u * sh (be J p) (nx p) c ≤ sm (be J p) (nx p) c * sh (be J p) (nx p) u := fun u hu => by
        have := ld_max (hJ p) g2 (u := u) (by omega)
        rw [← g3] at this
        exact this
      have A2 : ∀ a, a < J.length → ∀ t, upd nx p c a + t ≤ (be J a).length → sm (be J a) (upd nx p c a) t * sh (be J p) (nx p) c ≤ sm (be J p) (nx p) c * sh (be J a) (upd nx p c a) t := fun a ha t ht => by
        by_cases e : a = p
        · subst e
          rw [upd_self] at ht ⊢
          have h1 := ld_max (hJ a) g2 (u := c + t) (by omega)
          rw [← g3, s_add, s_add'] at h1
          have := Int.add_mul (sm (be J a) (nx a) c) (sm (be J a) (nx a + c) t) (sh (be J a) (nx a) c)
          have := Int.mul_add (sm (be J a) (nx a) c) (sh (be J a) (nx a) c) (sh (be J a) (nx a + c) t)
          omega
        · rw [upd_ne _ _ e] at ht ⊢
          rcases Nat.eq_zero_or_pos t with rfl | h0
          · simp [sm, sh]
          · have hla : nx a < (be J a).length := by omega
            have h1 := ld_max (hJ a) hla (u := t) ht
            have h2 := gr_max hJ hn _ _ _ hg a ha hla
            have h3 := ld_b (be J a) (nx a) hla
            have h4 := sh_pos (hJ a) (nx a) _ h3.2
            have h5 := sh_pos (hJ a) (nx a) t ht
            exact tr (d := sh (be J a) (nx a) (ld (be J a) (nx a))) (c := sm (be J a) (nx a) (ld (be J a) (nx a))) (by omega) (by omega) (by omega) h1 h2
      have hcp : c ≤ o.count p := by have := hc p g1; omega
      have hz : qh J (upd nx p c) (upd nx p c) = 0 := by
        have : ∀ n, qs (fun a => sh (be J a) (upd nx p c a) (upd nx p c a - upd nx p c a)) n = 0 := by
          intro n
          induction n with
          | zero => rfl
          | succ n ih => show qs _ n + sh (be J n) (upd nx p c n) (upd nx p c n - upd nx p c n) = 0; rw [ih, Nat.sub_self]; rfl
        exact this _
      have hz' : qm J (upd nx p c) (upd nx p c) = 0 := by
        have : ∀ n, qs (fun a => sm (be J a) (upd nx p c a) (upd nx p c a - upd nx p c a)) n = 0 := by
          intro n
          induction n with
          | zero => rfl
          | succ n ih => show qs _ n + sm (be J n) (upd nx p c n) (upd nx p c n - upd nx p c n) = 0; rw [ih, Nat.sub_self]; rfl
        exact this _
      have hcu : cu (upd nx p c) p c (nx p + 0) = nx := by
        obtain ⟨c', rfl⟩ : ∃ c', c = c' + 1 := ⟨c - 1, by omega⟩
        funext a
        by_cases e : a = p
        · rw [e, cu_p]; rfl
        · rw [cu_ne _ _ _ e, upd_ne _ _ e]
      obtain ⟨f1, f2⟩ := front (s0 := upd nx p c) hJ g1 (upd_self _ _ _) hl.2 A1 A2 o 0 c (upd nx p c) (by omega) (fun a => ⟨Nat.le_refl _, hn' a⟩) (fun _ => rfl) hcp (by rw [hcu]; exact hv)
      rw [hcu, hz, hz'] at f1
      have hcr : Co J (upd nx p c) (rem p c o) := fun a ha => by
        have h1 := rem_count a o c hcp
        have h2 := hc a ha
        by_cases e : a = p
        · subst e; rw [if_pos rfl] at h1; rw [upd_self]; omega
        · rw [if_neg e] at h1; rw [upd_ne _ _ e]; omega
      obtain ⟨v1, v2⟩ := gre_ok s _ hn' hf
      have i1 := ih _ hn' hf _ f2 hcr
      have i2 := mL_same v1 f2 v2 hcr
      have e1 := hL_rep J p (nx p) (gre J s (upd nx p c)) c 0 nx rfl
      have e0 : sh (be J p) (nx p) 0 = 0 := rfl
      rw [e0, Nat.zero_add] at e1
      rw [e1, ← Int.zero_add (sh (be J p) (nx p) c), hL_add, i2]
      have e3 : sm (be J p) (nx p) 0 = 0 := rfl
      rw [e0, e3] at f1
      have f3 : sh (be J p) (nx p) c * (wL (be J p) (nx p) 0 c + hL J (upd nx p c) 0 (rem p c o) + sh (be J p) (nx p) c * mL J (upd nx p c) (rem p c o)) ≤ sh (be J p) (nx p) c * hL J nx 0 o := by
        have : (0 : Int) + 0 = 0 := rfl
        rw [this] at f1
        grind
      have f4 := Int.le_of_mul_le_mul_left f3 hHP
      omega
where
  s_add {l : List Jb} {f c t : Nat} : sm l f (c + t) = sm l f c + sm l (f + c) t := by
    induction t with
    | zero => show sm l f c = sm l f c + 0; omega
    | succ t ih => rw [← Nat.add_assoc, sm_succ, ih, sm_succ, Nat.add_assoc]; omega
  s_add' {l : List Jb} {f c t : Nat} : sh l f (c + t) = sh l f c + sh l (f + c) t := by
    induction t with
    | zero => show sh l f c = sh l f c + 0; omega
    | succ t ih => rw [← Nat.add_assoc, sh_succ, ih, sh_succ, Nat.add_assoc]; omega

/-! ### orders as they are told -/
def toN (o : List Int) : List Nat := o.map Int.toNat
theorem toN_drop {o : List Int} {k : Nat} (h : k < o.length) : (toN o).drop k = (el o k).toNat :: (toN o).drop (k + 1) := by
  have h1 : k < (toN o).length := by simpa [toN] using h
  rw [List.drop_eq_getElem_cons h1]
  simp [toN, el_eq o k h]
theorem cnt_upd {o : List Int} {k : Nat} (h0 : 0 ≤ el o k) : upd (fun (b : Nat) => cnt o (b : Nat) k) (el o k).toNat 1 = fun (b : Nat) => cnt o (b : Nat) (k + 1) := by
  funext b
  by_cases e : b = (el o k).toNat
  · subst e
    rw [upd_self, cnt_succ, Int.toNat_of_nonneg h0, if_pos rfl]
  · rw [upd_ne _ _ e, cnt_succ, if_neg (by omega)]
    rfl
theorem hm_hL {J : List (List Jb)} {o : List Int} (h0 : ∀ i, i < o.length → 0 ≤ el o i) : ∀ d k, k + d = o.length → hL J (fun (b : Nat) => cnt o (b : Nat) k) (hr J o k) ((toN o).drop k) = hm J o o.length - hm J o k := by
  intro d
  induction d with
  | zero =>
    intro k hk
    have : (toN o).drop k = [] := List.drop_eq_nil_of_le (by simp [toN]; omega)
    rw [this, show k = o.length by omega]
    simp [hL]
  | succ d ih =>
    intro k hk
    have hk' : k < o.length := by omega
    rw [toN_drop hk', hL_cons, cnt_upd (h0 k hk')]
    have e1 : jb (be J (el o k).toNat) (cnt o (((el o k).toNat : Nat) : Int) k) = jbAt J o k := by
      unfold jbAt
      rw [Int.toNat_of_nonneg (h0 k hk')]
    rw [e1, ← hr_succ, ih (k + 1) (by omega), hm_succ]
    omega
theorem vl_of {J : List (List Jb)} {o : List Int} (hr' : Runs J o) : ∀ d k, k + d = o.length → Vl J (fun (b : Nat) => cnt o (b : Nat) k) ((toN o).drop k) := by
  intro d
  induction d with
  | zero =>
    intro k hk
    have : (toN o).drop k = [] := List.drop_eq_nil_of_le (by simp [toN]; omega)
    rw [this]; trivial
  | succ d ih =>
    intro k hk
    have hk' : k < o.length := by omega
    obtain ⟨⟨h1, h2⟩, h3⟩ := hr' k hk'
    rw [toN_drop hk']
    refine ⟨h2, ?_, by rw [cnt_upd h1]; exact ih (k + 1) (by omega)⟩
    show cnt o (((el o k).toNat : Nat) : Int) k < _
    rw [Int.toNat_of_nonneg h1]
    exact h3
theorem toN_count {a : Nat} : ∀ {o : List Int}, (∀ y ∈ o, 0 ≤ y) → (toN o).count a = o.count (a : Int) := by
  intro o
  induction o with
  | nil => intro _; rfl
  | cons y o ih =>
    intro h
    have h1 := ih fun z hz => h z (List.mem_cons_of_mem _ hz)
    have h2 := h y List.mem_cons_self
    show (y.toNat :: toN o).count a = _
    by_cases e : y = (a : Int)
    · subst e
      rw [Int.toNat_natCast, List.count_cons_self, List.count_cons_self, h1]
    · rw [List.count_cons_of_ne (by omega), List.count_cons_of_ne e, h1]
theorem state0 (o : List Int) : (fun (b : Nat) => cnt o (b : Nat) 0) = fun _ => 0 := rfl
/-- The best order, as a list of numbers. -/
def ordN (J : List (List Jb)) : Nat → List Nat
  | 0 => []
  | s + 1 => match gr J (nxt J s) J.length with
    | none => ordN J s
    | some (i, c) => ordN J s ++ List.replicate c i
theorem ordN_gre (J : List (List Jb)) : ∀ s r, gre J (s + r) (fun _ => 0) = ordN J s ++ gre J r (nxt J s) := by
  intro s
  induction s with
  | zero => intro r; rw [Nat.zero_add]; rfl
  | succ s ih =>
    intro r
    rw [show s + 1 + r = s + (r + 1) by omega, ih (r + 1)]
    cases hg : gr J (nxt J s) J.length with
    | none =>
      have e1 : ordN J (s + 1) = ordN J s := by
        show (match gr J (nxt J s) J.length with | none => ordN J s | some (i, c) => ordN J s ++ List.replicate c i) = _
        rw [hg]
      have e2 : nxt J (s + 1) = nxt J s := by
        show (match gr J (nxt J s) J.length with | none => nxt J s | some (i, c) => fun k => if k = i then nxt J s i + c else nxt J s k) = _
        rw [hg]
      rw [e1, e2, gre_none hg, gre_none hg]
    | some q =>
      obtain ⟨p, c⟩ := q
      have e1 : ordN J (s + 1) = ordN J s ++ List.replicate c p := by
        show (match gr J (nxt J s) J.length with | none => ordN J s | some (i, c) => ordN J s ++ List.replicate c i) = _
        rw [hg]
      rw [e1, nxt_some hg, gre_some hg, List.append_assoc]
      rfl
theorem fin_whole (J : List (List Jb)) : ∀ s r, Fin J (s + r) (fun _ => 0) ↔ Fin J r (nxt J s) := by
  intro s
  induction s with
  | zero => intro r; rw [Nat.zero_add]; rfl
  | succ s ih =>
    intro r
    rw [show s + 1 + r = s + (r + 1) by omega, ih (r + 1)]
    cases hg : gr J (nxt J s) J.length with
    | none =>
      have e2 : nxt J (s + 1) = nxt J s := by
        show (match gr J (nxt J s) J.length with | none => nxt J s | some (i, c) => fun k => if k = i then nxt J s i + c else nxt J s k) = _
        rw [hg]
      rw [e2]
      have h1 : Fin J (r + 1) (nxt J s) = True := by
        show (match gr J (nxt J s) J.length with | none => True | some (p, c) => Fin J r (upd (nxt J s) p c)) = _
        rw [hg]
      have h2 : Fin J r (nxt J s) ↔ True := by
        cases r with
        | zero => exact iff_of_true hg trivial
        | succ r =>
          have : Fin J (r + 1) (nxt J s) = True := by
            show (match gr J (nxt J s) J.length with | none => True | some (p, c) => Fin J r (upd (nxt J s) p c)) = _
            rw [hg]
          rw [this]
      rw [h1, h2]
    | some q =>
      obtain ⟨p, c⟩ := q
      rw [nxt_some hg, fin_some hg]
      rfl
theorem ord_toN (J : List (List Jb)) (s : Nat) : toN (ord J s) = ordN J s ∧ ∀ y ∈ ord J s, 0 ≤ y := by
  induction s with
  | zero => exact ⟨rfl, fun y hy => by cases hy⟩
  | succ s ih =>
    cases hg : gr J (nxt J s) J.length with
    | none =>
      have e1 : ord J (s + 1) = ord J s := by
        show (match gr J (nxt J s) J.length with | none => ord J s | some (i, c) => ord J s ++ List.replicate c (i : Int)) = _
        rw [hg]
      have e2 : ordN J (s + 1) = ordN J s := by
        show (match gr J (nxt J s) J.length with | none => ordN J s | some (i, c) => ordN J s ++ List.replicate c i) = _
        rw [hg]
      rw [e1, e2]; exact ih
    | some q =>
      obtain ⟨p, c⟩ := q
      have e2 : ordN J (s + 1) = ordN J s ++ List.replicate c p := by
        show (match gr J (nxt J s) J.length with | none => ordN J s | some (i, c) => ordN J s ++ List.replicate c i) = _
        rw [hg]
      rw [ord_some hg, e2]
      refine ⟨?_, fun y hy => ?_⟩
      · rw [← ih.1]; simp [toN]
      · rcases List.mem_append.1 hy with hy | hy
        · exact ih.2 y hy
        · have := List.eq_of_mem_replicate hy; omega
/-- The harm of the best order is the least of all. -/
theorem best_least {J : List (List Jb)} {s : Nat} {o : List Int} (hJ : ∀ a, Hp (be J a)) (hW : Whole J s) (hr' : Runs J o) (hc : ∀ b, b < J.length → cnt o (b : Nat) o.length = (be J b).length) :
    hm J (ord J s) (ord J s).length ≤ hm J o o.length := by
  obtain ⟨n1, n2⟩ := ord_toN J s
  have hg := ordN_gre J s 0
  have hf := (fin_whole J s 0).2 hW
  rw [Nat.add_zero] at hg hf
  have hg' : gre J s (fun _ => 0) = ordN J s := by rw [hg]; exact List.append_nil _
  have h0 : ∀ i, i < o.length → 0 ≤ el o i := fun i hi => (hr' i hi).1.1
  have h0' : ∀ i, i < (ord J s).length → 0 ≤ el (ord J s) i := fun i hi => n2 _ (by rw [el_eq _ _ hi]; exact List.getElem_mem hi)
  have e1 := hm_hL (J := J) h0 o.length 0 (Nat.zero_add _)
  have e2 := hm_hL (J := J) h0' (ord J s).length 0 (Nat.zero_add _)
  have v := vl_of hr' o.length 0 (Nat.zero_add _)
  rw [List.drop_zero] at e1 e2 v
  have hm0 : ∀ p, hm J p 0 = 0 := fun _ => rfl
  have hr0 : ∀ p, hr J p 0 = 0 := fun _ => rfl
  rw [hm0, hr0, Int.sub_zero] at e1 e2
  have hco : Co J (fun _ => 0) (toN o) := fun a ha => by
    have h1 := toN_count (a := a) (o := o) fun y hy => by
      obtain ⟨i, hi, e⟩ := List.mem_iff_getElem.1 hy
      rw [← e, ← el_eq o i hi]; exact h0 i hi
    show 0 + _ = _
    rw [h1, ← cnt_count, hc a ha]
    omega
  have := gre_min hJ s (fun _ => 0) (fun i => Nat.zero_le _) hf (toN o) v hco
  rw [hg', ← n1] at this
  rw [← e1, ← e2]
  exact this
end Go.Proofs.Ytgjgpcpghglnnaa.M
