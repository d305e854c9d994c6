/-
  A region inside an iterator's round whose last operations come in one forced order: one walk in the order of the text.
-/
import Derived.Test.YtnbgjgiknfcdkaaDoorChecked
import Derived.StillTailTactics
import Derived.RangeFuncCalls
import Derived.OrdersIn
import Derived.CallsIn
namespace Go.Proofs.YtnbgjgiknfcdkaaDoor
open Go
set_option linter.unusedVariables false

section
variable {l n : Nat} {P : Program} {ops : Array Oper} {Q Q0 : Exit → Act → World → Prop}

theorem rows_inRound {row : String} {args : Array Value} {w : World} {R : Value → World → Prop} (h : Rows P row args w R) : RowsIn (Fence.wide.inRound l) n P row args w R :=
  fun c cs _ => by
    obtain ⟨v, w', r, s⟩ := h c cs
    exact ⟨v, w', r, stepsIn_wide.2 s⟩
theorem wpIn_of_wp {o : Oper} {a : Act} {w : World} {K K' : Act → World → Prop} (hd : ∀ c, o.op ≠ .defer c) (hq : ∀ e a w, Q0 e a w → Q e a w) (hk : ∀ a w, K a w → K' a w) (h : o.wp P a w K Q0) : o.wpIn (Fence.wide.inRound l) n P a w K' Q := by
  refine ⟨fun _ _ => trivial, ?_⟩
  rw [Oper.semAt_eq _ _ _ hd]
  unfold Oper.wp at h
  generalize (execOp a.eval o).run P w = r at *
  cases r with
  | ok x w' =>
    cases x with
    | value v => exact hk _ _ h
    | skip => exact hk _ _ h
    | defer d => exact hk _ _ h
    | enter f args =>
      refine ⟨fun hh => (by cases hh), CallsIn.inRound l (callsIn_wide.2 (Calls.mono h ?_))⟩
      intro e w'' he
      cases e with
      | returned v => exact hk _ _ he
      | panicked c => exact hq _ _ _ he
      | outgrown => obtain ⟨a', w3, h3⟩ := he; exact ⟨a', w3, hq _ _ _ h3⟩
    | row row args => exact ⟨fun hh => (by cases hh), rows_inRound (Rows.mono h fun v w'' hv => hk _ _ hv)⟩
    | _ => exact h.elim
  | halt x w' =>
    cases x with
    | panic v => exact hq _ _ _ h
    | _ => exact h.elim

theorem wpAnyIn_of_wpAny (hd : ∀ (i : Nat) (o : Oper), ops[i]? = some o → ∀ c, o.op ≠ .defer c) (hno : ¬ LetsOut Q0) (hq : ∀ e a w, Q0 e a w → Q e a w) : ∀ (fuel : Nat) (listed : Array Bool) (a : Act) (w : World),
    wpAny P .any ops Q0 fuel listed a w → wpAnyIn (Fence.wide.inRound l) n P .any ops Q fuel listed a w
  | 0, listed, a, w, h => ⟨h.1, hq _ _ _ h.2⟩
  | fuel + 1, listed, a, w, h => by
    refine ⟨fun h0 => hq _ _ _ (h.1 h0), fun i hi => ?_⟩
    have h1 := h.2 i hi
    unfold wpOp at h1
    unfold wpOpIn
    cases ho : ops[i]? with
    | none =>
      rw [ho] at h1
      exact wpAnyIn_of_wpAny hd hno hq fuel _ a w h1
    | some o =>
      rw [ho] at h1
      simp only at h1 ⊢
      split at h1
      · next hw =>
        rw [if_pos hw]
        rcases h1 with h1 | ⟨_, h1⟩
        · exact wpIn_of_wp (hd i o ho) hq (fun a w h => wpAnyIn_of_wpAny hd hno hq fuel _ a w h) h1
        · exact absurd h1 hno
      · next hw =>
        rw [if_neg hw]
        exact ⟨fun _ _ => trivial, wpAnyIn_of_wpAny hd hno hq fuel _ _ w h1⟩

/-- No operation puts a call off. -/
def noDefer (l : List Oper) : Bool := l.all fun o => match o.op with | .defer _ => false | _ => true
theorem noDefer_spec {L : List Oper} (h : noDefer L = true) : ∀ (i : Nat) (o : Oper), L.toArray[i]? = some o → ∀ c, o.op ≠ .defer c := fun i o ho c e => by
  have h1 := List.all_eq_true.1 h o (by
    rw [List.getElem?_toArray] at ho
    exact List.mem_of_getElem? ho)
  rw [e] at h1
  cases h1

theorem wpIn_region_tail {id : Nat} {a : Act} {w : World} {L : List Oper} (N : Nat) (hm : P.follows .mixedOrders = true) (hB : Region.lexTailB .any L.toArray N = true) (hd : noDefer L = true) (hno : ¬ LetsOut Q0) (hq : ∀ e a w, Q0 e a w → Q e a w)
    (h : wpStill P L.toArray { w with drawn := w.drawn + 1 } (fun a' => wpList P L.toArray Q0 (L.drop N) a' { w with drawn := w.drawn + 1 }) (L.take N) a) : (Code.region id L.toArray true).wpIn (Fence.wide.inRound l) n P Q a w := by
  simp only [Region.lexTailB, Bool.and_eq_true, decide_eq_true_eq] at hB
  obtain ⟨⟨⟨⟨h1, h2⟩, h3⟩, h4⟩, h5⟩ := hB
  have e1 : (L.take N).length = N := by simp at h2; simp; omega
  have e2 : (L.drop N).length = L.toArray.size - N := by simp
  have start : HeadInv .any L.toArray N (Array.replicate L.toArray.size false) :=
    { size := by simp
      closed := fun j oj _ hl => by rw [getD_replicate_false] at hl; cases hl
      tail := fun t _ ht => getD_in (by simpa using ht) (getD_replicate_false _ _) }
  have head := wpAnyL_lex (md := .any) (g := L.toArray.size - N) h1 h3 h4 h2 (L.take N) 0 _ a
    (fun j hj => by rw [e1] at hj; simp [hj]) (by simpa using e1) start (by rw [e1]; exact h5) h
  have whole := wpAny_of_head (Q' := Q0) (g := L.toArray.size - N) (fun listed a' ⟨s1, s2⟩ => by
    have := wpAny_of_seq (md := .any) (Q' := Q0) (L.drop N) N listed a' { w with drawn := w.drawn + 1 } (fun j => by simp [List.getElem?_drop]) (by rw [e2]; exact s1) s2
    rwa [e2] at this) _ _ _ head
  rw [e1, Nat.add_sub_cancel' (Nat.le_of_lt h2)] at whole
  exact wpIn_region_any hm (wpAnyIn_of_wpAny (noDefer_spec hd) hno hq _ _ _ _ whole)
end
end Go.Proofs.YtnbgjgiknfcdkaaDoor
