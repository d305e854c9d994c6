/-
  The first pair of rounds that never meet, by program and specification; whether two of a list never meet.
-/
import Derived.Test.YtlnpnfjdcnijhaaE
namespace Go.Proofs.Ytlnpnfjdcnijhaa
open Go.RowKit Go.Deep M
set_option linter.unusedVariables false
set_option linter.unusedSimpArgs false

namespace M
/-- Two rounds of a list never meet. -/
def nvB (l : List Rd) (i k : Nat) : Bool := nevN (rd l i).a.toNat (rd l i).e.toNat (rd l k).a.toNat (rd l k).e.toNat
/-- No pair before some place never meets. -/
def NoB (l : List Rd) (i : Nat) : Prop := ∀ i' k', i' < i → i' < k' → k' < l.length → nvB l i' k' = false
def NoK (l : List Rd) (i k : Nat) : Prop := ∀ k', i < k' → k' < k → nvB l i k' = false
/-- What Never answers. -/
def NevP (l : List Rd) (r : Int × Int × Int) : Prop :=
  (validR l = false ∧ r = (0, 0, 51)) ∨
  (validR l = true ∧ ∃ i k : Nat, (i < k ∧ k < l.length) ∧ nvB l i k = true ∧ NoB l i ∧ NoK l i k ∧ r = ((i : Int), (k : Int), 0)) ∨
  (validR l = true ∧ NoB l l.length ∧ r = (0, 0, 5))
theorem NevP.uniq {l : List Rd} {r s : Int × Int × Int} (h : NevP l r) (h' : NevP l s) : r = s := by
  rcases h with ⟨v, rfl⟩ | ⟨v, i, k, ⟨h1, h2⟩, h3, h4, h5, rfl⟩ | ⟨v, h1, rfl⟩ <;>
    rcases h' with ⟨v', rfl⟩ | ⟨v', i', k', ⟨g1, g2⟩, g3, g4, g5, rfl⟩ | ⟨v', g1, rfl⟩
  all_goals first | rfl | (rw [v] at v'; cases v'; done) | skip
  · have e1 : i = i' := by
      rcases Nat.lt_trichotomy i i' with h | h | h
      · have := g4 i k h h1 h2; rw [h3] at this; cases this
      · exact h
      · have := h4 i' k' h g1 g2; rw [g3] at this; cases this
    subst e1
    have e2 : k = k' := by
      rcases Nat.lt_trichotomy k k' with h | h | h
      · have := g5 k h1 h; rw [h3] at this; cases this
      · exact h
      · have := h5 k' g1 h; rw [g3] at this; cases this
    subst e2; rfl
  · have := g1 i k (by omega) h1 h2; rw [h3] at this; cases this
  · have := h1 i' k' (by omega) g1 g2; rw [g3] at this; cases this
theorem noB_zero (l : List Rd) : NoB l 0 := fun _ _ h => absurd h (Nat.not_lt_zero _)
theorem noK_zero (l : List Rd) (i : Nat) : NoK l i (i + 1) := fun _ h1 h2 => absurd h1 (by omega)
theorem noB_succ {l : List Rd} {i : Nat} (h : NoB l i) (h' : NoK l i l.length) : NoB l (i + 1) := fun a b h1 h2 h3 => by
  rcases Nat.lt_succ_iff_lt_or_eq.1 h1 with h4 | rfl
  · exact h a b h4 h2 h3
  · exact h' b h2 h3
theorem noK_succ {l : List Rd} {i k : Nat} (h : NoK l i k) (h' : nvB l i k = false) : NoK l i (k + 1) := fun b h1 h2 => by
  rcases Nat.lt_succ_iff_lt_or_eq.1 h2 with h3 | rfl
  · exact h b h1 h3
  · exact h'
end M
/-- Two rounds of valid ones, as the calls see them. -/
theorem vR_nat {l : List Rd} (h : vR l) {i : Nat} (hi : i < l.length) : ∃ a e : Nat, (rd l i).a = a ∧ (rd l i).e = e ∧ (rd l i).a.toNat = a ∧ (rd l i).e.toNat = e ∧ a < e ∧ e ≤ 1000 := by
  obtain ⟨⟨g1, g2⟩, g3, g4⟩ := h.2 i hi
  obtain ⟨a, ha⟩ := Int.eq_ofNat_of_zero_le g3
  obtain ⟨e, he⟩ := Int.eq_ofNat_of_zero_le (show 0 ≤ (rd l i).e by omega)
  exact ⟨a, e, ha, he, by rw [ha]; rfl, by rw [he]; rfl, by omega, by omega⟩

set_option maxRecDepth 100000 in
set_option maxHeartbeats 4000000 in
theorem Never_any (B : Nat) (A : Option Addr) (c : Nat) (l : List Rd) (w : World) (h : Rds w B A l) (hB : B ≤ w.heap.size) :
    Calls Try.prog 51 #[.slice A l.length c] w fun e w' => ∃ r, NevP l r ∧ e = .returned (M3 r) ∧ Below w.heap.size w w' := by
  have h63 := h.1
  have hc := checked_any B A c l true w h hB
  cases hv : validR l with
  | false =>
    rw [show errR l true = 51 by unfold errR; rw [hv]; simp] at hc
    have hP := Lib.hid (show NevP l (0, 0, 51) from .inl ⟨hv, rfl⟩)
    replace hc := Lib.hid hc
    replace hv := Lib.hid hv
    go_enter Try.func51, Try.ntmps51
    go_wp2_with fail
    refine hc.out.mono ?_
    rintro e w1 ⟨rfl, hb1⟩
    go_wp2
    exact bodyPost_ret (v := .tuple #[.int .i64 0, .int .i64 0, .int .i64 51]) (by simp [results, Try.results51, go_sem]) rfl ⟨_, hP.out, rfl, hb1⟩
  | true =>
    rw [show errR l true = 0 by unfold errR; rw [hv]; simp] at hc
    have hvr := validR_iff.1 hv
    replace hc := Lib.hid hc
    replace hvr := Lib.hid hvr
    replace hv := Lib.hid hv
    go_enter Try.func51, Try.ntmps51
    go_wp2_with fail
    refine hc.out.mono ?_
    rintro e w1 ⟨rfl, hb1⟩
    replace hb1 := Lib.hid hb1
    go_wp2
    go_loopw [15] (fun v wr => ∃ i : Nat, i ≤ l.length ∧ v = .int .i64 (i : Nat) ∧ NoB l i ∧ Below w.heap.size w wr) (fun v _ => l.length - (intOf v).toNat)
    case atStart => exact ⟨0, Nat.zero_le _, rfl, noB_zero l, hb1.out⟩
    case round =>
      obtain ⟨i, hi, rfl, hno, hw⟩ := hrel
      replace hno := Lib.hid hno
      replace hw := Lib.hid hw
      by_cases hlt : i < l.length
      · go_wp2
        go_loopw [7] (fun v X => ∃ k : Nat, i < k ∧ k ≤ l.length ∧ v = .int .i64 (k : Nat) ∧ NoK l i k ∧ Below w.heap.size w X) (fun v _ => l.length - (intOf v).toNat)
        case atStart => exact ⟨i + 1, by omega, by omega, by go_num, noK_zero l i, hw.out⟩
        case round =>
          obtain ⟨k, hik, hk, rfl, hnk, hX⟩ := hrel
          by_cases hlk : k < l.length
          · have hrow := h.below (hX.mono hB)
            obtain ⟨bb, o, rfl, hbb, ci0, ci1⟩ := hrow.at_ i hlt
            obtain ⟨bb', o', he, hbb', ck0, ck1⟩ := hrow.at_ k hlk
            injection he with he
            injection he with he1 he2 he3
            subst he1 he2
            have hall : ∀ X', Below w.heap.size w X' → (X'.cell? ⟨bb, o + i * 2, none⟩ = some (.int .i64 (rd l i).a) ∧ X'.cell? ⟨bb, o + i * 2 + 1, none⟩ = some (.int .i64 (rd l i).e)) ∧ X'.cell? ⟨bb, o + k * 2, none⟩ = some (.int .i64 (rd l k).a) ∧ X'.cell? ⟨bb, o + k * 2 + 1, none⟩ = some (.int .i64 (rd l k).e) := fun X' hX' => by
              have hq := h.below (hX'.mono hB)
              obtain ⟨b1, o1, e1, _, p0, p1⟩ := hq.at_ i hlt
              obtain ⟨b2, o2, e2, _, q0, q1⟩ := hq.at_ k hlk
              injection e1 with e1
              injection e1 with e11 e12 e13
              injection e2 with e2
              injection e2 with e21 e22 e23
              subst e11 e12 e21 e22
              exact ⟨⟨p0, p1⟩, q0, q1⟩
            obtain ⟨a, e, ha, he, ha', he', hae, he10⟩ := vR_nat hvr.out hlt
            obtain ⟨b, n, hb, hn, hb', hn', hbn, hn10⟩ := vR_nat hvr.out hlk
            have hnv : nvB l i k = nevN a e b n := by unfold nvB; rw [ha', he', hb', hn']
            rw [ha, he, hb, hn] at hall
            rw [ha] at ci0
            rw [he] at ci1
            rw [hb] at ck0
            rw [hn] at ck1
            have c91 : ∀ W, _ := fun W => neverMeet_any a e b n W hae he10 hbn hn10
            rw [← hnv] at c91
            unfold rdN at c91
            have h8 : Below w.heap.size w (World.drew wr) := below_drew hX
            have k0 := hall _ h8
            clear ha he hb hn ha' he' hb' hn' hnv
            replace c91 := Lib.hid c91
            replace hall := Lib.hid hall
            replace hX := Lib.hid hX
            replace hrow := Lib.hid hrow
            cases hq : nvB l i k with
            | true =>
              rw [hq] at c91
              have hP := Lib.hid (show NevP l ((i : Int), (k : Int), 0) from .inr (.inl ⟨hv.out, i, k, ⟨hik, hlk⟩, hq, hno.out, hnk, rfl⟩))
              replace hnk := Lib.hid hnk
              go_wp2_with fail
              go_region_held3 (fun X => (X.cell? ⟨bb, o + i * 2, none⟩ = some (.int .i64 (a : Nat)) ∧ X.cell? ⟨bb, o + i * 2 + 1, none⟩ = some (.int .i64 (e : Nat))) ∧ X.cell? ⟨bb, o + k * 2, none⟩ = some (.int .i64 (b : Nat)) ∧ X.cell? ⟨bb, o + k * 2 + 1, none⟩ = some (.int .i64 (n : Nat)))
                (first | with_reducible exact k0 | with_reducible exact k1)
                (first | (go_at_call 91; refine (c91.out _).mono ?_; rintro _ X1 ⟨rfl, hb2⟩; have h9 := h8.trans (hb2.mono h8.size); have k1 := hall.out _ h9))
              go_wp2
              exact bodyPost_ret (v := .tuple #[.int .i64 i, .int .i64 k, .int .i64 0]) (by simp [results, Try.results51, go_sem]) rfl ⟨_, hP.out, rfl, h9⟩
            | false =>
              rw [hq] at c91
              have hs := Lib.hid (noK_succ hnk hq)
              replace hnk := Lib.hid hnk
              replace hq := Lib.hid hq
              go_wp2_with fail
              go_region_held3 (fun X => (X.cell? ⟨bb, o + i * 2, none⟩ = some (.int .i64 (a : Nat)) ∧ X.cell? ⟨bb, o + i * 2 + 1, none⟩ = some (.int .i64 (e : Nat))) ∧ X.cell? ⟨bb, o + k * 2, none⟩ = some (.int .i64 (b : Nat)) ∧ X.cell? ⟨bb, o + k * 2 + 1, none⟩ = some (.int .i64 (n : Nat)))
                (first | with_reducible exact k0 | with_reducible exact k1)
                (first | (go_at_call 91; refine (c91.out _).mono ?_; rintro _ X1 ⟨rfl, hb2⟩; have h9 := h8.trans (hb2.mono h8.size); have k1 := hall.out _ h9))
              go_wp2
              go_roundw
              case rel => exact ⟨k + 1, by omega, by omega, by go_num, hs.out, h9⟩
              case measure => simp [intOf]; omega
          · have hk' : k = l.length := by omega
            subst hk'
            have hs := Lib.hid (noB_succ hno.out hnk)
            replace hnk := Lib.hid hnk
            replace hX := Lib.hid hX
            go_wp2
            go_roundw
            case rel => exact ⟨i + 1, by omega, by go_num, hs.out, hX.out⟩
            case measure => simp [intOf]; omega
      · have hi' : i = l.length := by omega
        subst hi'
        have hP := Lib.hid (show NevP l (0, 0, 5) from .inr (.inr ⟨hv.out, hno.out, rfl⟩))
        go_wp2
        exact bodyPost_ret (v := .tuple #[.int .i64 0, .int .i64 0, .int .i64 5]) (by simp [results, Try.results51, go_sem]) rfl ⟨_, hP.out, rfl, hw.out⟩

set_option maxRecDepth 100000 in
set_option maxHeartbeats 4000000 in
theorem Never_ref (B : Nat) (A : Option Addr) (c : Nat) (l : List Rd) (w : World) (h : Rds w B A l) (hB : B ≤ w.heap.size) :
    Calls Try.prog 52 #[.slice A l.length c] w fun e w' => ∃ r, NevP l r ∧ e = .returned (M3 r) ∧ Below w.heap.size w w' := by
  have h63 := h.1
  have hc := AreRounds_ref B A c l w h hB
  cases hv : validR l with
  | false =>
    rw [hv] at hc
    have hP := Lib.hid (show NevP l (0, 0, 51) from .inl ⟨hv, rfl⟩)
    replace hc := Lib.hid hc
    replace hv := Lib.hid hv
    go_enter Try.func52, Try.ntmps52
    go_wp2_with fail
    refine hc.out.mono ?_
    rintro e w1 ⟨rfl, hb1⟩
    go_wp2
    exact bodyPost_ret (v := .tuple #[.int .i64 0, .int .i64 0, .int .i64 51]) (by simp [results, Try.results52, go_sem]) rfl ⟨_, hP.out, rfl, hb1⟩
  | true =>
    rw [hv] at hc
    have hvr := validR_iff.1 hv
    replace hc := Lib.hid hc
    replace hvr := Lib.hid hvr
    replace hv := Lib.hid hv
    go_enter Try.func52, Try.ntmps52
    go_wp2_with fail
    refine hc.out.mono ?_
    rintro e w1 ⟨rfl, hb1⟩
    replace hb1 := Lib.hid hb1
    go_wp2
    go_loopw [12] (fun v wr => ∃ i : Nat, i ≤ l.length ∧ v = .int .i64 (i : Nat) ∧ NoB l i ∧ Below w.heap.size w wr) (fun v _ => l.length - (intOf v).toNat)
    case atStart => exact ⟨0, Nat.zero_le _, rfl, noB_zero l, hb1.out⟩
    case round =>
      obtain ⟨i, hi, rfl, hno, hw⟩ := hrel
      replace hno := Lib.hid hno
      replace hw := Lib.hid hw
      by_cases hlt : i < l.length
      · go_wp2
        go_loopw [6] (fun v X => ∃ k : Nat, i < k ∧ k ≤ l.length ∧ v = .int .i64 (k : Nat) ∧ NoK l i k ∧ Below w.heap.size w X) (fun v _ => l.length - (intOf v).toNat)
        case atStart => exact ⟨i + 1, by omega, by omega, by go_num, noK_zero l i, hw.out⟩
        case round =>
          obtain ⟨k, hik, hk, rfl, hnk, hX⟩ := hrel
          by_cases hlk : k < l.length
          · have hrow := h.below (hX.mono hB)
            obtain ⟨bb, o, rfl, hbb, ci0, ci1⟩ := hrow.at_ i hlt
            obtain ⟨bb', o', he, hbb', ck0, ck1⟩ := hrow.at_ k hlk
            injection he with he
            injection he with he1 he2 he3
            subst he1 he2
            have hall : ∀ X', Below w.heap.size w X' → (X'.cell? ⟨bb, o + i * 2, none⟩ = some (.int .i64 (rd l i).a) ∧ X'.cell? ⟨bb, o + i * 2 + 1, none⟩ = some (.int .i64 (rd l i).e)) ∧ X'.cell? ⟨bb, o + k * 2, none⟩ = some (.int .i64 (rd l k).a) ∧ X'.cell? ⟨bb, o + k * 2 + 1, none⟩ = some (.int .i64 (rd l k).e) := fun X' hX' => by
              have hq := h.below (hX'.mono hB)
              obtain ⟨b1, o1, e1, _, p0, p1⟩ := hq.at_ i hlt
              obtain ⟨b2, o2, e2, _, q0, q1⟩ := hq.at_ k hlk
              injection e1 with e1
              injection e1 with e11 e12 e13
              injection e2 with e2
              injection e2 with e21 e22 e23
              subst e11 e12 e21 e22
              exact ⟨⟨p0, p1⟩, q0, q1⟩
            obtain ⟨a, e, ha, he, ha', he', hae, he10⟩ := vR_nat hvr.out hlt
            obtain ⟨b, n, hb, hn, hb', hn', hbn, hn10⟩ := vR_nat hvr.out hlk
            have hnv : nvB l i k = nevN a e b n := by unfold nvB; rw [ha', he', hb', hn']
            rw [ha, he, hb, hn] at hall
            rw [ha] at ci0
            rw [he] at ci1
            rw [hb] at ck0
            rw [hn] at ck1
            have c91 : ∀ W, _ := fun W => never_ref a e b n W hae he10 hbn hn10
            rw [← hnv] at c91
            unfold rdN at c91
            have h8 : Below w.heap.size w (World.drew wr) := below_drew hX
            have k0 := hall _ h8
            clear ha he hb hn ha' he' hb' hn' hnv
            replace c91 := Lib.hid c91
            replace hall := Lib.hid hall
            replace hX := Lib.hid hX
            replace hrow := Lib.hid hrow
            cases hq : nvB l i k with
            | true =>
              rw [hq] at c91
              have hP := Lib.hid (show NevP l ((i : Int), (k : Int), 0) from .inr (.inl ⟨hv.out, i, k, ⟨hik, hlk⟩, hq, hno.out, hnk, rfl⟩))
              replace hnk := Lib.hid hnk
              go_wp2_with fail
              go_region_held3 (fun X => (X.cell? ⟨bb, o + i * 2, none⟩ = some (.int .i64 (a : Nat)) ∧ X.cell? ⟨bb, o + i * 2 + 1, none⟩ = some (.int .i64 (e : Nat))) ∧ X.cell? ⟨bb, o + k * 2, none⟩ = some (.int .i64 (b : Nat)) ∧ X.cell? ⟨bb, o + k * 2 + 1, none⟩ = some (.int .i64 (n : Nat)))
                (first | with_reducible exact k0 | with_reducible exact k1)
                (first | (go_at_call 92; refine (c91.out _).mono ?_; rintro _ X1 ⟨rfl, hb2⟩; have h9 := h8.trans (hb2.mono h8.size); have k1 := hall.out _ h9))
              go_wp2
              exact bodyPost_ret (v := .tuple #[.int .i64 i, .int .i64 k, .int .i64 0]) (by simp [results, Try.results52, go_sem]) rfl ⟨_, hP.out, rfl, h9⟩
            | false =>
              rw [hq] at c91
              have hs := Lib.hid (noK_succ hnk hq)
              replace hnk := Lib.hid hnk
              replace hq := Lib.hid hq
              go_wp2_with fail
              go_region_held3 (fun X => (X.cell? ⟨bb, o + i * 2, none⟩ = some (.int .i64 (a : Nat)) ∧ X.cell? ⟨bb, o + i * 2 + 1, none⟩ = some (.int .i64 (e : Nat))) ∧ X.cell? ⟨bb, o + k * 2, none⟩ = some (.int .i64 (b : Nat)) ∧ X.cell? ⟨bb, o + k * 2 + 1, none⟩ = some (.int .i64 (n : Nat)))
                (first | with_reducible exact k0 | with_reducible exact k1)
                (first | (go_at_call 92; refine (c91.out _).mono ?_; rintro _ X1 ⟨rfl, hb2⟩; have h9 := h8.trans (hb2.mono h8.size); have k1 := hall.out _ h9))
              go_wp2
              go_roundw
              case rel => exact ⟨k + 1, by omega, by omega, by go_num, hs.out, h9⟩
              case measure => simp [intOf]; omega
          · have hk' : k = l.length := by omega
            subst hk'
            have hs := Lib.hid (noB_succ hno.out hnk)
            replace hnk := Lib.hid hnk
            replace hX := Lib.hid hX
            go_wp2
            go_roundw
            case rel => exact ⟨i + 1, by omega, by go_num, hs.out, hX.out⟩
            case measure => simp [intOf]; omega
      · have hi' : i = l.length := by omega
        subst hi'
        have hP := Lib.hid (show NevP l (0, 0, 5) from .inr (.inr ⟨hv.out, hno.out, rfl⟩))
        go_wp2
        exact bodyPost_ret (v := .tuple #[.int .i64 0, .int .i64 0, .int .i64 5]) (by simp [results, Try.results52, go_sem]) rfl ⟨_, hP.out, rfl, hw.out⟩
end Go.Proofs.Ytlnpnfjdcnijhaa
