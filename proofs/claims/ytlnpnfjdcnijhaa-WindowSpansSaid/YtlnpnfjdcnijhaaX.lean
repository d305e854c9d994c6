/-
  The longest span at which a window is open: by program and specification.
-/
import Derived.Test.YtlnpnfjdcnijhaaS
import Derived.Test.YtlnpnfjdcnijhaaV
namespace Go.Proofs.Ytlnpnfjdcnijhaa
open Go.RowKit Go.Deep M
set_option linter.unusedVariables false
set_option linter.unusedSimpArgs false

namespace M
/-- How many hours the span has that begins at an hour. -/
def spanN (f : Int → Bool) (p : Nat) (h : Int) : Nat := if f (h - 1) = true then 0 else ((List.range p).find? (fun n : Nat => !f (h + n))).getD 0
theorem span_zero {f : Int → Bool} {p : Nat} {h : Int} (h1 : f (h - 1) = true) : spanN f p h = 0 := by unfold spanN; rw [if_pos h1]
theorem span_spec {f : Int → Bool} {p : Nat} {h : Int} (hp : 1 ≤ p) (hper : f (h - 1 + p) = f (h - 1)) (h1 : f (h - 1) = false) :
    (∀ j : Nat, j < spanN f p h → f (h + j) = true) ∧ f (h + spanN f p h) = false ∧ spanN f p h < p := by
  unfold spanN
  rw [if_neg (by rw [h1]; simp)]
  cases e : (List.range p).find? (fun n : Nat => !f (h + n)) with
  | none =>
    exfalso
    rw [List.find?_range_eq_none] at e
    have := e (p - 1) (by omega)
    rw [show h + ((p - 1 : Nat) : Int) = h - 1 + p by omega, hper, h1] at this
    simp at this
  | some n =>
    rw [List.find?_range_eq_some] at e
    obtain ⟨e1, e2, e3⟩ := e
    simp only [Option.getD_some]
    exact ⟨fun j hj => by simpa using e3 j hj, by simpa using e1, by simpa using e2⟩
theorem span_shut {f : Int → Bool} {p : Nat} {h : Int} (hp : 1 ≤ p) (hper : f (h - 1 + p) = f (h - 1)) (h0 : f h = false) : spanN f p h = 0 := by
  cases h1 : f (h - 1) with
  | true => exact span_zero h1
  | false =>
    obtain ⟨a, b, c⟩ := span_spec hp hper h1
    rcases Nat.eq_zero_or_pos (spanN f p h) with e | e
    · exact e
    · have := a 0 e
      rw [show h + ((0 : Nat) : Int) = h by omega, h0] at this; cases this
/-- The longest of the spans that begin at the first hours. -/
def lgN (f : Int → Bool) (p : Nat) : Nat → Nat × Nat
  | 0 => (0, 0)
  | k + 1 => if (lgN f p k).2 < spanN f p (k : Int) then (k, spanN f p (k : Int)) else lgN f p k
theorem lgN_succ (f : Int → Bool) (p k : Nat) : lgN f p (k + 1) = if (lgN f p k).2 < spanN f p (k : Int) then (k, spanN f p (k : Int)) else lgN f p k := rfl
theorem lgN_le {f : Int → Bool} {p : Nat} (hs : ∀ k : Nat, spanN f p (k : Int) ≤ p) : ∀ k, (lgN f p k).1 ≤ k ∧ (lgN f p k).2 ≤ p := by
  intro k
  induction k with
  | zero => exact ⟨Nat.le_refl _, Nat.zero_le _⟩
  | succ k ih =>
    rw [lgN_succ]
    split
    · exact ⟨by simp, hs k⟩
    · exact ⟨by omega, ih.2⟩
def longO (p : Nat) (f : Int → Bool) : Int × Int × Int := if (lgN f p p).2 = 0 then (0, 0, 5) else ((((lgN f p p).1 : Nat) : Int), (((lgN f p p).2 : Nat) : Int), 0)
def longR (x : Wn) : Int × Int × Int := if winB x 3600 = true then longO x.p.toNat (opB x) else (0, 0, 50)
theorem opB_per {x : Wn} {p : Nat} (hp : x.p = (p : Int)) (h : Int) : opB x (h + p) = opB x h := by
  unfold opB; rw [hp, Int.add_emod_right]
theorem span_le {f : Int → Bool} {p : Nat} (hp : 1 ≤ p) (hper : ∀ h, f (h + p) = f h) (h : Int) : spanN f p h ≤ p := by
  cases h1 : f (h - 1) with
  | true => rw [span_zero h1]; exact Nat.zero_le _
  | false => exact Nat.le_of_lt (span_spec hp (hper _) h1).2.2
end M

set_option maxRecDepth 100000 in
set_option maxHeartbeats 2000000 in
theorem span_any (B : Nat) (p : Nat) (F : Value) (f : Int → Bool) (h : Nat) (w : World) (hO : Opn w B F f) (hB : B ≤ w.heap.size) (hp : 1 ≤ p ∧ p ≤ 4000) (hper : ∀ h, f (h + p) = f h) (hh : h ≤ 4000) :
    Calls Try.prog 107 #[.agg #[.int .i64 p, F], .int .i64 h] w fun e w' => e = .returned (.int .i64 (spanN f p h : Nat)) ∧ Below w.heap.size w w' := by
  obtain ⟨g, caps, rfl, hen, hcall⟩ := hO
  have hx := BxO.new w p (.func (Fn.func g) #[] caps)
  have c0 := hx.c0
  have c1 := hx.c1
  have hb0 := ba1 w (.cells #[.int .i64 p, .func (Fn.func g) #[] caps] 74)
  have hone := hcall _ (hb0.mono hB) (Nat.le_trans hB hb0.size) ((h : Int) - 1) (by omega)
  have hz := @span_zero f p (h : Int)
  have hsp := @span_spec f p (h : Int) hp.1 (hper _)
  generalize spanN f p (h : Int) = N at *
  replace hx := Lib.hid hx
  have hb0' := Lib.hid hb0
  clear hb0 hper
  replace hcall := Lib.hid hcall
  cases hq : f ((h : Int) - 1) with
  | true =>
    rw [hq] at hone
    have hN := hz hq
    subst hN
    clear hz hsp
    replace hone := Lib.hid hone
    replace hq := Lib.hid hq
    go_enter Try.func107, Try.ntmps107
    go_wp2_with fail
    refine hone.out.mono ?_
    rintro e w1 ⟨rfl, hb1⟩
    go_wp2
    go_ret
    exact ⟨rfl, hb0'.out.trans (hb1.mono hb0'.out.size)⟩
  | false =>
    rw [hq] at hone
    obtain ⟨s1, s2, s3⟩ := hsp hq
    clear hz hsp
    obtain ⟨p1, p4⟩ := hp
    have hN4 : N ≤ 4000 := by omega
    replace hone := Lib.hid hone
    replace hq := Lib.hid hq
    replace s1 := Lib.hid s1
    replace s2 := Lib.hid s2
    go_enter Try.func107, Try.ntmps107
    go_wp2_with fail
    refine hone.out.mono ?_
    rintro e w1 ⟨rfl, hb1⟩
    have hw1 := hb0'.out.trans (hb1.mono hb0'.out.size)
    have hx1 := hx.out.up hb1
    clear c0 c1
    replace hw1 := Lib.hid hw1
    replace hx1 := Lib.hid hx1
    replace hb1 := Lib.hid hb1
    go_wp2
    go_loopw [5] (fun v X => ∃ n : Nat, n ≤ N ∧ v = .int .i64 (n : Nat) ∧ Below w.heap.size w X ∧ BxO X w.heap.size p (.func (Fn.func g) #[] caps)) (fun v _ => N - (intOf v).toNat)
    case atStart => exact ⟨0, Nat.zero_le _, rfl, hw1.out, hx1.out⟩
    case round =>
      obtain ⟨n, hn, rfl, hw, hbx⟩ := hrel
      have c0 := hbx.c0
      have c1 := hbx.c1
      have hc := hcall.out wr (hw.mono hB) (Nat.le_trans hB hw.size) ((h : Int) + n) (by omega)
      by_cases hlt : n < N
      · rw [s1.out n hlt] at hc
        replace hc := Lib.hid hc
        replace hw := Lib.hid hw
        replace hbx := Lib.hid hbx
        go_wp2_with fail
        refine hc.out.mono ?_
        rintro e w2 ⟨rfl, hb2⟩
        have hw2 := hw.out.trans (hb2.mono hw.out.size)
        have hbx2 := hbx.out.up hb2
        replace hw2 := Lib.hid hw2
        replace hbx2 := Lib.hid hbx2
        replace hb2 := Lib.hid hb2
        go_wp2
        go_roundw
        case rel => exact ⟨n + 1, by omega, by go_num, hw2.out, hbx2.out⟩
        case measure => simp [intOf]; omega
      · have hn' : n = N := by omega
        subst hn'
        rw [s2.out] at hc
        replace hc := Lib.hid hc
        replace hw := Lib.hid hw
        replace hbx := Lib.hid hbx
        go_wp2_with fail
        refine hc.out.mono ?_
        rintro e w2 ⟨rfl, hb2⟩
        have hw2 := hw.out.trans (hb2.mono hw.out.size)
        go_wp2
        go_ret
        exact ⟨rfl, hw2⟩

set_option maxRecDepth 100000 in
set_option maxHeartbeats 2000000 in
theorem longest_any (B : Nat) (p : Nat) (F : Value) (f : Int → Bool) (w : World) (hO : Opn w B F f) (hB : B ≤ w.heap.size) (hp : 1 ≤ p ∧ p ≤ 4000) (hper : ∀ h, f (h + p) = f h) :
    Calls Try.prog 84 #[.agg #[.int .i64 p, F]] w fun e w' => e = .returned (.tuple #[.int .i64 ((lgN f p p).1 : Nat), .int .i64 ((lgN f p p).2 : Nat)]) ∧ Below w.heap.size w w' := by
  have hx := BxO.new w p F
  have c0 := hx.c0
  have c1 := hx.c1
  have hb0 := ba1 w (.cells #[.int .i64 p, F] 74)
  have hle := @lgN_le f p (fun k => span_le hp.1 hper _)
  have hcall : ∀ (k : Nat), k ≤ 4000 → ∀ X, Below w.heap.size w X → _ := fun k hk X hX => span_any B p F f k X (hO.up (hX.mono hB) hB) (Nat.le_trans hB hX.size) hp hper hk
  have hss := fun k => lgN_succ f p k
  have hsl := fun k : Nat => span_le hp.1 hper (k : Int)
  obtain ⟨p1, p4⟩ := hp
  replace hx := Lib.hid hx
  replace hb0 := Lib.hid hb0
  replace hcall := Lib.hid hcall
  replace hle := Lib.hid hle
  replace hss := Lib.hid hss
  replace hsl := Lib.hid hsl
  replace hO := Lib.hid hO
  clear hper
  obtain ⟨g, caps, hF, _⟩ := hO.out
  subst hF
  go_enter Try.func84, Try.ntmps84
  go_wp2
  go_loopw [2, 3, 8] (fun a b v X => ∃ k : Nat, k ≤ p ∧ v = .int .i64 (k : Nat) ∧ a = .int .i64 ((lgN f p k).1 : Nat) ∧ b = .int .i64 ((lgN f p k).2 : Nat) ∧ Below w.heap.size w X ∧ BxO X w.heap.size p (.func (Fn.func g) #[] caps)) (fun _ _ v _ => p - (intOf v).toNat)
  case atStart => exact ⟨0, Nat.zero_le _, rfl, rfl, rfl, hb0.out, hx.out⟩
  case round =>
    obtain ⟨k, hk, rfl, rfl, rfl, hw, hbx⟩ := hrel
    clear c0 c1
    have c0 := hbx.c0
    have c1 := hbx.c1
    obtain ⟨l1, l2⟩ := hle.out k
    by_cases hlt : k < p
    · have hc := hcall.out k (by omega) wr hw
      have hs := hss.out k
      have hn := hsl.out k
      obtain ⟨m, hm⟩ : ∃ m, m = spanN f p (k : Int) := ⟨_, rfl⟩
      rw [← hm] at hc hs hn
      obtain ⟨L, hL⟩ : ∃ L, L = lgN f p k := ⟨_, rfl⟩
      rw [← hL] at l1 l2 hs ⊢
      obtain ⟨L1, L2⟩ := L
      simp only [] at l1 l2 hs ⊢
      clear hm hL
      by_cases hgt : L2 < m
      · rw [if_pos hgt] at hs
        replace hs := Lib.hid hs
        replace hc := Lib.hid hc
        replace hw := Lib.hid hw
        replace hbx := Lib.hid hbx
        go_wp2_with fail
        refine hc.out.mono ?_
        rintro e w2 ⟨rfl, hb2⟩
        have hw2 := hw.out.trans (hb2.mono hw.out.size)
        have hbx2 := hbx.out.up hb2
        replace hw2 := Lib.hid hw2
        replace hbx2 := Lib.hid hbx2
        replace hb2 := Lib.hid hb2
        go_wp2
        go_roundw
        case rel => exact ⟨k + 1, by omega, by go_num, by rw [hs.out], by rw [hs.out], hw2.out, hbx2.out⟩
        case measure => simp [intOf]; omega
      · rw [if_neg hgt] at hs
        replace hs := Lib.hid hs
        replace hc := Lib.hid hc
        replace hw := Lib.hid hw
        replace hbx := Lib.hid hbx
        go_wp2_with fail
        refine hc.out.mono ?_
        rintro e w2 ⟨rfl, hb2⟩
        have hw2 := hw.out.trans (hb2.mono hw.out.size)
        have hbx2 := hbx.out.up hb2
        replace hw2 := Lib.hid hw2
        replace hbx2 := Lib.hid hbx2
        replace hb2 := Lib.hid hb2
        go_wp2
        go_roundw
        case rel => exact ⟨k + 1, by omega, by go_num, by rw [hs.out], by rw [hs.out], hw2.out, hbx2.out⟩
        case measure => simp [intOf]; omega
    · have hk' : k = p := by omega
      subst hk'
      replace hw := Lib.hid hw
      replace hbx := Lib.hid hbx
      go_wp2
      exact bodyPost_ret (v := .tuple #[.int .i64 ((lgN f k k).1 : Nat), .int .i64 ((lgN f k k).2 : Nat)]) (by simp [results, Try.results84, go_sem]) rfl ⟨rfl, hw.out⟩
def L3 (t : Int × Int × Int) : Value := .tuple #[.int .i64 t.1, .int .i64 t.2.1, .int .i64 t.2.2]
set_option maxRecDepth 100000 in
set_option maxHeartbeats 2000000 in
theorem Longest_any (B : Nat) (A : Option Addr) (c : Nat) (x : Wn) (w : World) (h : Row w B A x.hs) (hB : B ≤ w.heap.size) :
    Calls Try.prog 41 #[wnV x.p A x.hs.length c] w fun e w' => e = .returned (L3 (longR x)) ∧ Below w.heap.size w w' := by
  have h63 := h.1
  have hW := onW_new w x.p A x.hs.length c
  have c0 := hW.box.c0
  have c1 := hW.box.c1
  have c63 := chk_one h hB hW true 3600 (by omega)
  rw [show (w.alloc (.cells #[.int .i64 x.p, .slice A x.hs.length c] 24)).heap.size = w.heap.size + 1 by simp] at c63
  unfold wnV at *
  replace hW := Lib.hid hW
  unfold L3
  cases hv : winB x 3600 with
  | false =>
    have hR : longR x = (0, 0, 50) := by unfold longR; rw [hv]; simp
    rw [hR]
    have he : errW [⟨x, A, c⟩] 3600 true = 50 := by unfold errW; rw [wnsB1, hv]; simp
    rw [he] at c63
    replace c63 := Lib.hid c63
    replace hv := Lib.hid hv
    replace hR := Lib.hid hR
    replace he := Lib.hid he
    go_enter Try.func41, Try.ntmps41
    go_wp2_with fail
    refine c63.out.mono ?_
    rintro e X1 ⟨rfl, hX1⟩
    go_wp2
    exact bodyPost_ret (v := .tuple #[.int .i64 0, .int .i64 0, .int .i64 50]) (by simp [results, Try.results41, go_sem]) rfl ⟨rfl, hX1.below⟩
  | true =>
    obtain ⟨⟨p1, p2⟩, _⟩ := winB_iff.1 hv
    obtain ⟨p, hp⟩ := Int.eq_ofNat_of_zero_le (show 0 ≤ x.p by omega)
    have hR : longR x = longO p (opB x) := by unfold longR; rw [hv, hp, Int.toNat_natCast]; simp
    rw [hR]
    have he : errW [⟨x, A, c⟩] 3600 true = 0 := by unfold errW; rw [wnsB1, hv]; simp
    rw [he] at c63
    have hop : ∀ X, OnW w x.p A x.hs.length c X → Calls Try.prog 65 #[wnV x.p A x.hs.length c] X (OpenR X x.p (opB x)) := fun X hX => openingOf_any B A c x X (h.below (hX.below.mono hB)) (Nat.le_trans hB hX.below.size) hv
    unfold wnV at hop
    have hlg : ∀ F X, Opn X X.heap.size F (opB x) → Calls Try.prog 84 #[.agg #[.int .i64 x.p, F]] X _ := fun F X hO => by
      rw [hp]
      exact longest_any X.heap.size p F (opB x) X hO (Nat.le_refl _) (by omega) (opB_per hp)
    unfold longO
    obtain ⟨L, hL⟩ : ∃ L, L = lgN (opB x) p p := ⟨_, rfl⟩
    rw [← hL] at hlg ⊢
    obtain ⟨L1, L2⟩ := L
    simp only [] at hlg ⊢
    clear hL
    replace c63 := Lib.hid c63
    replace hv := Lib.hid hv
    replace hR := Lib.hid hR
    replace he := Lib.hid he
    replace hop := Lib.hid hop
    replace hlg := Lib.hid hlg
    replace hp := Lib.hid hp
    by_cases h0 : L2 = 0
    · rw [if_pos h0]
      subst h0
      go_enter Try.func41, Try.ntmps41
      go_wp2_with fail
      refine c63.out.mono ?_
      rintro e X1 ⟨rfl, hX1⟩
      have f0 := hX1.box.c0
      have f1 := hX1.box.c1
      have ho := Lib.hid (hop.out _ hX1)
      replace hX1 := Lib.hid hX1
      go_wp2_with fail
      refine ho.out.mono ?_
      rintro e X2 ⟨F, rfl, hb2, hO⟩
      have hl := Lib.hid (hlg.out F X2 hO)
      replace hO := Lib.hid hO
      go_wp2_with fail
      refine hl.out.mono ?_
      rintro e X3 ⟨rfl, hb3⟩
      have hz := hX1.out.below.trans ((hb2.trans (hb3.mono hb2.size)).mono hX1.out.below.size)
      go_wp2
      exact bodyPost_ret (v := .tuple #[.int .i64 0, .int .i64 0, .int .i64 5]) (by simp [results, Try.results41, go_sem]) rfl ⟨rfl, hz⟩
    · rw [if_neg h0]
      have h0' : ((L2 : Int) == 0) = false := by simp; omega
      have h0i : ¬ ((L2 : Int) = 0) := by omega
      go_enter Try.func41, Try.ntmps41
      go_wp2_with fail
      refine c63.out.mono ?_
      rintro e X1 ⟨rfl, hX1⟩
      have f0 := hX1.box.c0
      have f1 := hX1.box.c1
      have ho := Lib.hid (hop.out _ hX1)
      replace hX1 := Lib.hid hX1
      go_wp2_with fail
      refine ho.out.mono ?_
      rintro e X2 ⟨F, rfl, hb2, hO⟩
      have hl := Lib.hid (hlg.out F X2 hO)
      replace hO := Lib.hid hO
      go_wp2_with fail
      refine hl.out.mono ?_
      rintro e X3 ⟨rfl, hb3⟩
      have hz := hX1.out.below.trans ((hb2.trans (hb3.mono hb2.size)).mono hX1.out.below.size)
      go_wp2
      exact bodyPost_ret (v := .tuple #[.int .i64 L1, .int .i64 L2, .int .i64 0]) (by simp [results, Try.results41, go_sem]) rfl ⟨rfl, hz⟩
end Go.Proofs.Ytlnpnfjdcnijhaa
