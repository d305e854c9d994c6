/-
  Which lists are orders: the specification's functions.
-/
import Derived.Test.YtgjgpcpghglnnaaP
namespace Go.Proofs.Ytgjgpcpghglnnaa
open Go.RowKit Go.Deep M
set_option linter.unusedVariables false
set_option linter.unusedSimpArgs false

namespace M
/-- Is a list an order, as the specification counts? It looks at no more than 101 of them. -/
def IsO (J : List (List Jb)) (o : List Int) : Prop := (∀ i, i < min o.length 101 → 0 ≤ el o i ∧ el o i < J.length) ∧ ∀ b, b < J.length → cnt o (b : Nat) (min o.length 101) = (be J b).length
instance (J : List (List Jb)) (o : List Int) : Decidable (IsO J o) := by unfold IsO; infer_instance
def ordB (J : List (List Jb)) (o : List Int) : Bool := decide (IsO J o)
end M

/-- The numbers of jobs named. -/
structure IsW (w : World) (n : Nat) (f : Nat → Int) (X : World) : Prop where
  below : Below w.heap.size w X
  named : BlI X w.heap.size n f
theorem IsW.drewN {w X : World} {n : Nat} {f : Nat → Int} (h : IsW w n f X) (k : Nat) : IsW w n f (X.drewN k) := ⟨below_drewN h.below k, h.named.to rfl⟩
theorem IsW.set {w X : World} {n i : Nat} {f : Nat → Int} (h : IsW w n f X) (hi : i < n) (z : Int) : IsW w n (fun k => if k = i then z else f k) (X.setCell ⟨w.heap.size, i, none⟩ (.int .i64 z)) :=
  ⟨h.below.setCell (Nat.le_refl _) _, h.named.set hi z⟩
theorem IsW.congr {w X : World} {n : Nat} {f f' : Nat → Int} (h : IsW w n f X) (e : ∀ k, k < n → f k = f' k) : IsW w n f' X := ⟨h.below, h.named.congr e⟩

set_option maxRecDepth 100000 in
set_option maxHeartbeats 8000000 in
theorem isOrder_ref (B : Nat) (A Ao : Option Addr) (c co : Nat) (D : List Bc) (o : List Int) (w : World) (h : Bcs w B A D) (ho : Row w B Ao o) (hB : B ≤ w.heap.size) (hv : vJ (bl D)) :
    Calls Try.prog 53 #[.slice A D.length c, .slice Ao o.length co] w fun e w' => e = .returned (.bool (ordB (bl D) o)) ∧ Below w.heap.size w w' := by
  have h63 := h.1
  have ho63 := ho.1
  have hlen := bl_len D
  have hn6 : D.length ≤ 6 := by have := hv.1.2; rw [hlen] at this; exact this
  have hbl := fun i (hi : i < D.length) => Nat.le_trans (be_le (show i < (bl D).length by rw [hlen]; exact hi)) hv.2.1
  have hat := fun X (hX : Below w.heap.size w X) k (hk : k < D.length) => (h.below (hX.mono hB)).at_ k hk
  have hoa := fun X (hX : Below w.heap.size w X) k (hk : k < o.length) => (ho.below (hX.mono hB)).at_ k hk
  have hcs := fun b k => cnt_succ o b k
  have hcl := fun b k => cnt_le o b k
  have hf1 : ∀ k, k < min o.length 101 → ¬ (0 ≤ el o k ∧ el o k < D.length) → ordB (bl D) o = false := fun k hk hh => decide_eq_false fun hv => hh (by have := hv.1 k hk; rw [hlen] at this; exact this)
  have hf2 : ∀ b, b < D.length → ¬ cnt o (b : Nat) (min o.length 101) = (be (bl D) b).length → ordB (bl D) o = false := fun b hb hh => decide_eq_false fun hv => hh (hv.2 b (by rw [hlen]; exact hb))
  have hft : (∀ i, i < min o.length 101 → 0 ≤ el o i ∧ el o i < D.length) → (∀ b, b < D.length → cnt o (b : Nat) (min o.length 101) = (be (bl D) b).length) → ordB (bl D) o = true := fun h1 h2 => decide_eq_true ⟨by rw [hlen]; exact h1, by rw [hlen]; exact h2⟩
  have hmk := run_mkI w D.length (by omega)
  have hW0 : IsW w D.length (fun b => (cnt o (b : Nat) 0 : Nat)) (mkI w D.length) := ⟨mkI_below w _, (mkI_blk w D.length).congr fun i _ => rfl⟩
  obtain ⟨R, hR⟩ : ∃ R, R = ordB (bl D) o := ⟨_, rfl⟩
  rw [← hR] at hf1 hf2 hft ⊢
  obtain ⟨J, hJ⟩ : ∃ J, J = bl D := ⟨_, rfl⟩
  rw [← hJ] at hat hf2 hft hbl
  obtain ⟨n, hn⟩ : ∃ n, n = D.length := ⟨_, rfl⟩
  obtain ⟨m, hm⟩ : ∃ m, m = o.length := ⟨_, rfl⟩
  rw [← hn] at h63 hn6 hbl hat hf1 hf2 hft hmk hW0 ⊢
  rw [← hm] at ho63 hoa hf1 hf2 hft ⊢
  obtain ⟨K, hK⟩ : ∃ K, K = min m 101 := ⟨_, rfl⟩
  rw [← hK] at hf1 hf2 hft
  obtain ⟨Y1, hY1⟩ : ∃ Y, Y = mkI w n := ⟨_, rfl⟩
  rw [← hY1] at hmk hW0
  have hKl : ∀ k : Nat, (k < m ∧ k ≤ 100) ↔ k < K := fun k => by rw [hK]; omega
  replace hY1 := Lib.hid hY1
  replace hK := Lib.hid hK
  replace hKl := Lib.hid hKl
  replace hn := Lib.hid hn
  replace hm := Lib.hid hm
  replace hJ := Lib.hid hJ
  replace hR := Lib.hid hR
  replace hlen := Lib.hid hlen
  replace hbl := Lib.hid hbl
  replace hat := Lib.hid hat
  replace hoa := Lib.hid hoa
  replace hcs := Lib.hid hcs
  replace hcl := Lib.hid hcl
  replace hf1 := Lib.hid hf1
  replace hf2 := Lib.hid hf2
  replace hft := Lib.hid hft
  replace hW0 := Lib.hid hW0
  replace hv := Lib.hid hv
  replace h := Lib.hid h
  replace ho := Lib.hid ho
  go_enter Try.func53, Try.ntmps53
  go_wp2
  clear hmk
  go_loopw [6] (fun i X => ∃ k : Nat, k ≤ K ∧ i = .int .i64 (k : Nat) ∧ IsW w n (fun b => (cnt o (b : Nat) k : Nat)) X ∧ ∀ j, j < k → 0 ≤ el o j ∧ el o j < n) (fun i _ => K - (intOf i).toNat)
  case atStart => exact ⟨0, by omega, rfl, hW0.out, fun j hj => absurd hj (Nat.not_lt_zero _)⟩
  case round =>
    clear hW0
    obtain ⟨k, hk, rfl, hW, hel⟩ := hrel
    have hkk := hKl.out k
    by_cases hlk : k < K
    · obtain ⟨hkm, hk1⟩ := hkk.2 hlk
      obtain ⟨bo, oo, rfl, hbo, u0⟩ := hoa.out wr hW.below k hkm
      have hff := hf1.out k hlk
      have hel' := fun hh => (fun (j : Nat) (hj : j < k + 1) => show 0 ≤ el o j ∧ el o j < n by
        rcases Nat.lt_succ_iff_lt_or_eq.1 hj with h' | rfl
        · exact hel j h'
        · exact hh)
      have hcs' := fun b => hcs.out b k
      obtain ⟨z, hz⟩ : ∃ z, z = el o k := ⟨_, rfl⟩
      rw [← hz] at u0 hff hel' hcs'
      replace hel := Lib.hid hel
      replace hel' := Lib.hid hel'
      clear hkk
      by_cases z0 : z < 0
      · have hRR := hff (by omega)
        subst hRR
        have hend := Lib.hid hW.below
        replace hW := Lib.hid hW
        replace hz := Lib.hid hz
        replace hcs' := Lib.hid hcs'
        clear hff
        go_wp2
        go_ret
        exact ⟨rfl, hend.out⟩
      · by_cases zn : (n : Int) ≤ z
        · have hRR := hff (by omega)
          subst hRR
          have hend := Lib.hid hW.below
          replace hW := Lib.hid hW
          replace hz := Lib.hid hz
          replace hcs' := Lib.hid hcs'
          clear hff
          go_wp2
          go_ret
          exact ⟨rfl, hend.out⟩
        · obtain ⟨bn, rfl⟩ := Int.eq_ofNat_of_zero_le (show 0 ≤ z by omega)
          have hbn : bn < n := by omega
          have nx0 := hW.named.cell hbn
          have n0 := hW.named.fz bn
          have n1 := hW.named.lt
          have hcl' := hcl.out (bn : Nat) k
          have hW2 := hW.set hbn ((cnt o (bn : Nat) k + 1 : Nat) : Int)
          have hW3 := Lib.hid (show IsW w n (fun b => (cnt o (b : Nat) (k + 1) : Nat)) _ from hW2.congr fun q _ => by
            rw [hcs' q]
            by_cases e : q = bn
            · subst e; simp
            · rw [if_neg e, if_neg (show ¬ (bn : Int) = (q : Int) by omega)]; simp)
          have hs3 := hel'.out (by omega)
          obtain ⟨q, hq⟩ : ∃ q, q = cnt o (bn : Nat) k := ⟨_, rfl⟩
          simp only [← hq] at nx0 hcl' hW3
          replace hq := Lib.hid hq
          replace hs3 := Lib.hid hs3
          replace hW := Lib.hid hW
          replace hz := Lib.hid hz
          replace hcs' := Lib.hid hcs'
          clear hff hW2
          go_wp2
          go_roundw
          case rel => exact ⟨k + 1, by omega, by go_num, hW3.out, hs3.out⟩
          case measure => simp [intOf]; omega
    · have hk' : k = K := by omega
      subst hk'
      have hno : ¬ (k < m ∧ k ≤ 100) := fun hh => hlk (hkk.1 hh)
      replace hel := Lib.hid hel
      replace hW := Lib.hid hW
      clear hkk
      have hno' : k < m → ¬ k ≤ 100 := fun a b => hno ⟨a, b⟩
      by_cases hkm : k < m
      all_goals
        try have hk1 := hno' hkm
        clear hno hno'
        go_wp2
        go_loopw [7] (fun i X => ∃ t : Nat, t ≤ n ∧ i = .int .i64 (t : Nat) ∧ IsW w n (fun b => (cnt o (b : Nat) k : Nat)) X ∧ ∀ j, j < t → cnt o (j : Nat) k = (be J j).length) (fun i _ => n - (intOf i).toNat)
        case atStart => exact ⟨0, by omega, rfl, hW.out, fun j hj => absurd hj (Nat.not_lt_zero _)⟩
        case round =>
          clear hW
          obtain ⟨t, ht, rfl, hW, hct⟩ := hrel
          by_cases hlt : t < n
          · obtain ⟨b, o', rfl, hb, e0, hjb⟩ := hat.out wr hW.below t hlt
            have nx0 := hW.named.cell hlt
            have hff := hf2.out t hlt
            have hb12 := hbl.out t hlt
            have hcl' := hcl.out (t : Nat) k
            have hct' := fun hh => (fun (j : Nat) (hj : j < t + 1) => show cnt o (j : Nat) k = (be J j).length by
              rcases Nat.lt_succ_iff_lt_or_eq.1 hj with h' | rfl
              · exact hct j h'
              · exact hh)
            obtain ⟨q, hq⟩ : ∃ q, q = cnt o (t : Nat) k := ⟨_, rfl⟩
            simp only [← hq] at nx0 hcl' hff hct'
            obtain ⟨L, hL⟩ : ∃ L, L = (be J t).length := ⟨_, rfl⟩
            rw [← hL] at e0 hff hct' hb12
            obtain ⟨A2, hA2⟩ : ∃ A2, A2 = (bc D t).A := ⟨_, rfl⟩
            obtain ⟨c2, hc2⟩ : ∃ c2, c2 = (bc D t).c := ⟨_, rfl⟩
            rw [← hA2, ← hc2] at e0
            replace hA2 := Lib.hid hA2
            replace hc2 := Lib.hid hc2
            have hWd := Lib.hid (fun k => hW.drewN k)
            have hlt2 := hW.named.lt
            replace hW := Lib.hid hW
            replace hq := Lib.hid hq
            replace hL := Lib.hid hL
            replace hjb := Lib.hid hjb
            replace hct := Lib.hid hct
            by_cases e : q = L
            · have hs3 := Lib.hid (hct' e)
              subst e
              clear hff hct'
              go_wp2_with fail
              go_quiet (fail)
              go_wp2
              go_roundw
              case rel => exact ⟨t + 1, by omega, by go_num, hWd.out _, hs3.out⟩
              case measure => simp [intOf]; omega
            · have hRR := hff e
              subst hRR
              clear hff hct'
              have e' : ¬ (q : Int) = (L : Int) := by omega
              go_wp2_with fail
              go_quiet (fail)
              go_wp2
              go_ret
              exact ⟨rfl, (hWd.out _).below⟩
          · have ht' : t = n := by omega
            subst ht'
            have hRR := hft.out hel.out hct
            subst hRR
            have hend := Lib.hid hW.below
            replace hW := Lib.hid hW
            replace hct := Lib.hid hct
            go_wp2
            go_ret
            exact ⟨rfl, hend.out⟩
end Go.Proofs.Ytgjgpcpghglnnaa
