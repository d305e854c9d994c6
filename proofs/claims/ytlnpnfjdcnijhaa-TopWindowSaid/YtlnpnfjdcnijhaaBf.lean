/-
  A region that draws its order, by what is known behind whatever operations have come up: one step for each operation, however many orders there are.
-/
import Derived.Test.YtlnpnfjdcnijhaaChecked
import Derived.Orders
import Derived.WalkKit
import Derived.WalkSpells
import Derived.Deep.Draws
import Derived.Deep.RegionHeld3
namespace Go.Proofs.Ytlnpnfjdcnijhaa
open Go
set_option linter.unusedVariables false

section
variable {P : Program} {ops : Array Oper} {Q : Exit → Act → World → Prop} {md : Region.Mode}

theorem wpOp_of_list {K : Act → World → Prop} {i : Nat} {o : Oper} {a : Act} {w : World} (hi : ops[i]? = some o)
    (h : ∀ Q' : Exit → Act → World → Prop, (∀ a w, K a w → Q' .normal a w) → wpList P ops Q' [o] a w) : wpOp P ops Q i K a w := by
  have h1 := h (fun e a w => e = .normal ∧ K a w) (fun a w hk => ⟨rfl, hk⟩)
  unfold wpList at h1
  unfold wpOp
  rw [hi]
  simp only
  split at h1
  · next hw =>
    rw [if_pos hw]
    rcases h1 with h1 | ⟨_, a', w', h2, _⟩
    · refine .inl ?_
      unfold Oper.wp at *
      generalize (execOp a.eval o).run P w = r at *
      cases r with
      | ok x w' =>
        cases x with
        | value v => exact h1.2
        | skip => exact h1.2
        | defer d => exact h1.2
        | enter f args =>
          refine Calls.mono h1 ?_
          intro e w'' he
          cases e with
          | returned v => exact he.2
          | panicked c => cases he.1
          | outgrown => obtain ⟨a', w3, h3, _⟩ := he; cases h3
        | row row args => exact Rows.mono h1 fun v w'' hv => hv.2
        | _ => exact h1.elim
      | halt x w' =>
        cases x with
        | panic v => cases h1.1
        | _ => exact h1.elim
    · cases h2
  · next hw =>
    rw [if_neg hw]
    exact h1.2

/-- Each edge that binds leads to an operation further ahead in the text. -/
def topB (md : Region.Mode) (ops : Array Oper) : Bool := (List.range ops.size).all fun i => match ops[i]? with | some o => o.after.all (fun e => !Region.binds md e || decide (e.on < i)) | none => true
theorem topB_spec (h : topB md ops = true) {i : Nat} {o : Oper} (ho : ops[i]? = some o) {e : Edge} (he : e ∈ o.after) (hb : Region.binds md e = true) : e.on < i := by
  unfold topB at h
  rw [List.all_eq_true] at h
  have h1 := h i (by simpa using (Array.getElem?_eq_some_iff.1 ho).1)
  rw [ho] at h1
  simp only [Array.all_eq_true_iff_forall_mem] at h1
  have h2 := h1 e he
  rw [hb] at h2
  simpa using h2
theorem all_of_ready (ht : topB md ops = true) {L : Array Bool} (hsz : L.size = ops.size) (hr : Region.ready md ops L = []) : ∀ n i, i < n → i < ops.size → L.getD i false = true := by
  intro n
  induction n with
  | zero => intro i hi; omega
  | succ n ih =>
    intro i hi hs
    rcases Nat.lt_succ_iff_lt_or_eq.1 hi with h' | rfl
    · exact ih i h' hs
    · cases hl : L.getD i false with
      | true => rfl
      | false =>
        exfalso
        have ho : ops[i]? = some ops[i] := Array.getElem?_eq_getElem hs
        have hm : i ∈ Region.ready md ops L := mem_ready.2 ⟨(by simpa [show i < L.size from hsz ▸ hs] using hl), _, ho, fun e he hb => by
          have h1 := topB_spec ht ho he hb
          exact ih e.on h1 (by omega)⟩
        rw [hr] at hm; cases hm
/-- How many have not come up. -/
def left (L : Array Bool) : Nat := L.toList.count false
theorem left_set {L : Array Bool} {i : Nat} (hi : i < L.size) (h : L.getD i false = false) : left (L.setIfInBounds i true) + 1 = left L := by
  unfold left
  have h0 : L[i] = false := by simpa [hi] using h
  rw [Array.toList_setIfInBounds]
  have hl : i < L.toList.length := by simpa using hi
  have := List.count_set (a := true) (b := false) (l := L.toList) (i := i) hl
  have hpos : 1 ≤ L.toList.count false := List.count_pos_iff.2 (by
    have : L.toList[i] = false := by simpa using h0
    rw [← this]; exact List.getElem_mem _)
  have e1 : L.toList[i] = false := by simpa using h0
  simp only [e1] at this
  rw [if_pos (by decide), if_neg (by decide)] at this
  rw [this]
  omega
theorem wpAny_inv (I : Array Bool → Act → World → Prop) (ht : topB md ops = true)
    (hstep : ∀ L a w, I L a w → ∀ i o, ops[i]? = some o → L.getD i false = false → (∀ e ∈ o.after, Region.binds md e = true → L.getD e.on false = true) →
      ∀ Q' : Exit → Act → World → Prop, (∀ a' w', I (L.setIfInBounds i true) a' w' → Q' .normal a' w') → wpList P ops Q' [o] a w)
    (hdone : ∀ L a w, I L a w → (∀ i, i < ops.size → L.getD i false = true) → Q .normal a w) :
    ∀ (fuel : Nat) (L : Array Bool) (a : Act) (w : World), L.size = ops.size → left L ≤ fuel → I L a w → wpAny P md ops Q fuel L a w
  | 0, L, a, w, hs, hf, hI => by
    have hall : ∀ i, i < ops.size → L.getD i false = true := fun i hi => by
      cases hl : L.getD i false with
      | true => rfl
      | false =>
        have := left_set (by omega) hl
        omega
    refine ⟨?_, hdone L a w hI hall⟩
    cases hr : Region.ready md ops L with
    | nil => rfl
    | cons j l =>
      exfalso
      have hj : j ∈ Region.ready md ops L := by rw [hr]; exact List.mem_cons_self
      obtain ⟨h0, o, ho, _⟩ := mem_ready.1 hj
      have hjs := (Array.getElem?_eq_some_iff.1 ho).1
      have h1 := hall j hjs
      have hjl : j < L.size := by omega
      simp [hjl] at h0 h1
      rw [h0] at h1; cases h1
  | fuel + 1, L, a, w, hs, hf, hI => by
    refine ⟨fun hr => hdone L a w hI fun i hi => all_of_ready ht hs hr (i + 1) i (by omega) hi, fun j hj => ?_⟩
    obtain ⟨h0, o, ho, hall⟩ := mem_ready.1 hj
    have hjs := (Array.getElem?_eq_some_iff.1 ho).1
    have hjl : j < L.size := by omega
    have h0' : L.getD j false = false := by simpa [hjl] using h0
    refine wpOp_of_list ho fun Q' hQ' => hstep L a w hI j o ho h0' hall Q' fun a' w' hI' => hQ' a' w' ?_
    exact wpAny_inv I ht hstep hdone fuel _ a' w' (by simpa using hs) (by have := left_set hjl h0'; omega) hI'
theorem wp_region_inv {id : Nat} {a : Act} {w : World} (I : Array Bool → Act → World → Prop) (hm : P.follows .mixedOrders = true) (ht : topB .any ops = true)
    (h0 : I (Array.replicate ops.size false) a w.drew)
    (hstep : ∀ L a w, I L a w → ∀ i o, ops[i]? = some o → L.getD i false = false → (∀ e ∈ o.after, Region.binds .any e = true → L.getD e.on false = true) →
      ∀ Q' : Exit → Act → World → Prop, (∀ a' w', I (L.setIfInBounds i true) a' w' → Q' .normal a' w') → wpList P ops Q' [o] a w)
    (hdone : ∀ L a w, I L a w → (∀ i, i < ops.size → L.getD i false = true) → Q .normal a w) :
    (Code.region id ops true).wp P Q a w := by
  refine wp_region_any hm (wpAny_inv I ht hstep hdone ops.size _ a _ (by simp) ?_ h0)
  unfold left
  simp
/-- What has come up, and one operation more. -/
@[reducible] def upd (g : Nat → Bool) (i : Nat) : Nat → Bool := fun j => bif Nat.beq j i then true else g j
theorem upd_got (L : Array Bool) {i : Nat} (hi : i < L.size) : (fun j => (L.setIfInBounds i true).getD j false) = upd (fun j => L.getD j false) i := by
  funext j
  unfold upd
  by_cases e : j = i
  · subst e
    simp [hi]
  · rw [getD_set_ne false (Ne.symm e)]
    simp [e]
theorem wp_region_g {id : Nat} {a : Act} {w : World} (I : (Nat → Bool) → Act → World → Prop) (hm : P.follows .mixedOrders = true) (ht : topB .any ops = true)
    (h0 : I (fun _ => false) a w.drew)
    (hstep : ∀ g a w, I g a w → ∀ i o, ops[i]? = some o → g i = false → (∀ e ∈ o.after, Region.binds .any e = true → g e.on = true) →
      ∀ Q' : Exit → Act → World → Prop, (∀ a' w', I (upd g i) a' w' → Q' .normal a' w') → wpList P ops Q' [o] a w)
    (hdone : ∀ g a w, I g a w → (∀ i, i < ops.size → g i = true) → Q .normal a w) :
    (Code.region id ops true).wp P Q a w := by
  refine wp_region_inv (fun L a w => L.size = ops.size ∧ I (fun j => L.getD j false) a w) hm ht ⟨by simp, ?_⟩ ?_ ?_
  · have : (fun j => (Array.replicate ops.size false).getD j false) = fun _ => false := by
      funext j
      simp only [Array.getD_eq_getD_getElem?, Array.getElem?_replicate]
      split <;> rfl
    rw [this]; exact h0
  · rintro L a w ⟨hs, hI⟩ i o ho hl hpre Q' hQ'
    have hi := (Array.getElem?_eq_some_iff.1 ho).1
    refine hstep _ a w hI i o ho hl hpre Q' fun a' w' h' => hQ' a' w' ⟨by simpa using hs, ?_⟩
    rw [upd_got L (by omega)]
    exact h'
  · rintro L a w ⟨hs, hI⟩ hall
    exact hdone _ a w hI hall
end
end Go.Proofs.Ytlnpnfjdcnijhaa
