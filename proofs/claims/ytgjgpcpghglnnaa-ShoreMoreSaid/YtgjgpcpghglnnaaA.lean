/-
  Which jobs are valid; a piece that goes on by a job, and the rates of two pieces.
-/
import Derived.Test.YtgjgpcpghglnnaaData
namespace Go.Proofs.Ytgjgpcpghglnnaa
open Go.RowKit Go.Deep M
set_option linter.unusedVariables false
set_option linter.unusedSimpArgs false

/-- A box of a job. -/
def Bxj (w : World) (b : Nat) (x : Jb) : Prop := w.heap[b]? = some (.cells #[.int .i64 x.h, .int .i64 x.m] 54 (0, 0))
theorem Bxj.new (w : World) (x : Jb) : Bxj (w.alloc (.cells #[.int .i64 x.h, .int .i64 x.m] 54)) w.heap.size x := heap_alloc_new w _
theorem Bxj.lt {w : World} {b : Nat} {x : Jb} (h : Bxj w b x) : b < w.heap.size := blk_lt h
theorem Bxj.c0 {w : World} {b : Nat} {x : Jb} (h : Bxj w b x) : w.cell? ⟨b, 0, none⟩ = some (.int .i64 x.h) := by simp [World.cell?, show w.heap[b]? = _ from h]
theorem Bxj.c1 {w : World} {b : Nat} {x : Jb} (h : Bxj w b x) : w.cell? ⟨b, 1, none⟩ = some (.int .i64 x.m) := by simp [World.cell?, show w.heap[b]? = _ from h]
theorem Bxj.up {w w' : World} {b : Nat} {x : Jb} (h : Bxj w b x) (hb : Below w.heap.size w w') : Bxj w' b x := (hb.block b h.lt).trans h

set_option maxRecDepth 100000 in
set_option maxHeartbeats 4000000 in
theorem Valid_any (B : Nat) (A : Option Addr) (c : Nat) (D : List Bc) (w : World) (h : Bcs w B A D) (hB : B ≤ w.heap.size) (hL : ∀ i, i < D.length → (be (bl D) i).length ≤ 100) :
    Calls Try.prog 18 #[.slice A D.length c] w fun e w' => e = .returned (.bool (valB (bl D))) ∧ Below w.heap.size w w' := by
  have h63 := h.1
  have hlen := bl_len D
  have hb1 : ¬ (1 ≤ D.length ∧ D.length ≤ 6) → valB (bl D) = false := fun hh => decide_eq_false fun hv => hh (by have := hv.1; rw [hlen] at this; exact this)
  have hb2 : ∀ k, k ≤ D.length → 12 < tn (bl D) k → valB (bl D) = false := fun k hk hh => decide_eq_false fun hv => by
    have h1 := hv.2.1
    have h2 := tn_mono (bl D) (show k ≤ (bl D).length by rw [hlen]; exact hk)
    omega
  have hb3 : ∀ k, k < D.length → ∀ q, q < (be (bl D) k).length → ¬ okJ (jb (be (bl D) k) q) → valB (bl D) = false := fun k hk q hq hh => decide_eq_false fun hv => hh (hv.2.2 k (by rw [hlen]; exact hk) q hq)
  have hgd : (1 ≤ D.length ∧ D.length ≤ 6) → tn (bl D) D.length ≤ 12 → Bok (bl D) D.length → valB (bl D) = true := fun a b c => decide_eq_true ⟨by rw [hlen]; exact a, by rw [hlen]; exact b, by rw [hlen]; exact c⟩
  obtain ⟨J, hJ⟩ : ∃ J, J = bl D := ⟨_, rfl⟩
  obtain ⟨n, hn⟩ : ∃ n, n = D.length := ⟨_, rfl⟩
  obtain ⟨V, hV⟩ : ∃ V, V = valB (bl D) := ⟨_, rfl⟩
  rw [← hV] at hb1 hb2 hb3 hgd ⊢
  rw [← hn] at hL h63 hb1 hb2 hb3 hgd ⊢
  rw [← hJ] at hL hb2 hb3 hgd
  have hat := fun X (hX : Below w.heap.size w X) k (hk : k < n) => (h.below (hX.mono hB)).at_ k (hn ▸ hk)
  rw [← hJ] at hat
  replace hV := Lib.hid hV
  replace hn := Lib.hid hn
  replace hJ := Lib.hid hJ
  replace hb1 := Lib.hid hb1
  replace hb2 := Lib.hid hb2
  replace hb3 := Lib.hid hb3
  replace hgd := Lib.hid hgd
  replace hL := Lib.hid hL
  replace hat := Lib.hid hat
  replace h := Lib.hid h
  clear hlen
  have hz := Lib.hid (show tn J 0 = 0 from rfl)
  have hts := Lib.hid (tn_succ J)
  have hw0 := Lib.hid (Below.refl w.heap.size w)
  by_cases hl1 : 1 ≤ n
  · by_cases hl2 : n ≤ 6
    · clear hb1
      go_enter Try.func18, Try.ntmps18
      go_wp2
      go_loopw [3, 18] (fun s i X => ∃ k : Nat, k ≤ n ∧ i = .int .i64 (k : Nat) ∧ s = .int .i64 (tn J k : Nat) ∧ tn J k ≤ 12 ∧ Bok J k ∧ Below w.heap.size w X) (fun _ i _ => n - (intOf i).toNat)
      case atStart => exact ⟨0, by omega, rfl, by rw [hz.out]; rfl, by rw [hz.out]; omega, bok_zero _, hw0.out⟩
      case round =>
        obtain ⟨k, hk, rfl, rfl, ht, hok, hX⟩ := hrel
        by_cases hlk : k < n
        · obtain ⟨b, o, rfl, hb, e0, hjb⟩ := hat.out wr hX k hlk
          have hl100 := hL.out k hlk
          have hs := hts.out k
          have hb2k := hb2.out (k + 1) (by omega)
          have hb3k := hb3.out k hlk
          have hok' := fun hh => bok_succ hok (k := k) hh
          have hjat := fun X (hX : Below w.heap.size w X) => (show Jbs X B (bc D k).A (be J k) from by
            obtain ⟨b, o, _, _, _, hjb⟩ := hat.out X hX k hlk
            exact hjb)
          obtain ⟨T, hT⟩ : ∃ T, T = tn J k := ⟨_, rfl⟩
          obtain ⟨T2, hT2⟩ : ∃ T2, T2 = tn J (k + 1) := ⟨_, rfl⟩
          rw [← hT, ← hT2] at hs
          rw [← hT] at ht ⊢
          rw [← hT2] at hb2k
          generalize (bc D k).A = Ak at *
          generalize (bc D k).c = ck at *
          obtain ⟨l, hl⟩ : ∃ l, l = be J k := ⟨_, rfl⟩
          rw [← hl] at e0 hjb hl100 hs hb3k hok' hjat
          obtain ⟨m, hm⟩ : ∃ m, m = l.length := ⟨_, rfl⟩
          rw [← hm] at e0 hl100 hs hb3k hok'
          have hTi : (T : Int) + (m : Int) = (T2 : Int) := by omega
          have hT9 : T2 ≤ 200 := by omega
          replace hT := Lib.hid hT
          replace hT2 := Lib.hid hT2
          replace hl := Lib.hid hl
          replace hm := Lib.hid hm
          replace hs := Lib.hid hs
          replace hok := Lib.hid hok
          replace hok' := Lib.hid hok'
          replace hjat := Lib.hid hjat
          replace hb3k := Lib.hid hb3k
          replace hjb := Lib.hid hjb
          by_cases h12 : 12 < T2
          · have hf := hb2k h12
            subst hf
            replace hX := Lib.hid hX
            clear hb2k
            go_wp2
            go_ret
            exact ⟨rfl, hX.out⟩
          · clear hb2k
            have hX0 := Lib.hid hX
            clear hX
            go_wp2
            go_loopw [30] (fun i X => ∃ q : Nat, q ≤ m ∧ i = .int .i64 (q : Nat) ∧ Oks l q ∧ Below w.heap.size w X) (fun i _ => m - (intOf i).toNat)
            case atStart => exact ⟨0, by omega, rfl, oks_zero _, hX0.out⟩
            case round =>
              clear hX0
              obtain ⟨q, hq, rfl, hel, hX⟩ := hrel
              by_cases hlq : q < m
              · obtain ⟨b', o', rfl, hb', d0, d1⟩ := (hjat.out wr hX).at_ q (hm.out ▸ hlq)
                have hsc := fun hh => oks_succ hel (k := q) hh
                have hbd := hb3k.out q hlq
                generalize jb l q = x at *
                have hend := Lib.hid (bel_trans hX (ba1 wr (.cells #[.int .i64 x.h, .int .i64 x.m] 54)))
                replace hX := Lib.hid hX
                replace hel := Lib.hid hel
                by_cases c1 : x.h < 1
                · have hf := hbd (fun hh => by have := hh.1.1; omega)
                  subst hf
                  clear hsc hbd
                  go_wp2
                  go_ret
                  exact ⟨rfl, hend.out⟩
                · by_cases c2 : 100 < x.h
                  · have hf := hbd (fun hh => by have := hh.1.2; omega)
                    subst hf
                    clear hsc hbd
                    go_wp2
                    go_ret
                    exact ⟨rfl, hend.out⟩
                  · by_cases c3 : x.m < 0
                    · have hf := hbd (fun hh => by have := hh.2.1; omega)
                      subst hf
                      clear hsc hbd
                      go_wp2
                      go_ret
                      exact ⟨rfl, hend.out⟩
                    · by_cases c4 : 100 < x.m
                      · have hf := hbd (fun hh => by have := hh.2.2; omega)
                        subst hf
                        clear hsc hbd
                        go_wp2
                        go_ret
                        exact ⟨rfl, hend.out⟩
                      · have hs2 := Lib.hid (hsc ⟨⟨by omega, by omega⟩, by omega, by omega⟩)
                        clear hsc hbd
                        go_wp2
                        go_roundw
                        case rel => exact ⟨q + 1, by omega, by go_num, hs2.out, hend.out⟩
                        case measure => simp [intOf]; omega
              · have hq' : q = m := by omega
                subst hq'
                have hok2 := Lib.hid (hok'.out hel)
                replace hX := Lib.hid hX
                replace hel := Lib.hid hel
                have h12' : T2 ≤ 12 := by omega
                go_wp2
                go_roundw
                case rel => exact ⟨k + 1, by omega, by go_num, by rw [← hT2.out], by rw [← hT2.out]; exact h12', hok2.out, hX.out⟩
                case measure => simp [intOf]; omega
        · have hk' : k = n := by omega
          subst hk'
          have hf := hgd.out ⟨hl1, hl2⟩ ht hok
          subst hf
          replace hX := Lib.hid hX
          replace hok := Lib.hid hok
          go_wp2
          go_ret
          exact ⟨rfl, hX.out⟩
    · have hf := hb1.out (fun hh => hl2 hh.2)
      subst hf
      go_enter Try.func18, Try.ntmps18
      go_wp2
      go_ret
      exact ⟨rfl, hw0.out⟩
  · have hf := hb1.out (fun hh => hl1 hh.1)
    subst hf
    go_enter Try.func18, Try.ntmps18
    go_wp2
    go_ret
    exact ⟨rfl, hw0.out⟩

/-- The error of jobs. -/
def errV (J : List (List Jb)) : Int := if valB J = true then 0 else 60
set_option maxHeartbeats 1000000 in
theorem checked_any (B : Nat) (A : Option Addr) (c : Nat) (D : List Bc) (w : World) (h : Bcs w B A D) (hB : B ≤ w.heap.size) (hL : ∀ i, i < D.length → (be (bl D) i).length ≤ 100) :
    Calls Try.prog 51 #[.slice A D.length c] w fun e w' => e = .returned (.int .i64 (errV (bl D))) ∧ Below w.heap.size w w' := by
  have hv := Valid_any B A c D w h hB hL
  unfold errV
  generalize valB (bl D) = q at *
  replace hv := Lib.hid hv
  go_enter Try.func51, Try.ntmps51
  go_wp2_with fail
  refine hv.out.mono ?_
  rintro e w1 ⟨rfl, hb⟩
  replace hb := Lib.hid hb
  cases q with
  | true =>
    go_wp2
    go_ret
    exact ⟨rfl, hb.out⟩
  | false =>
    go_wp2
    go_ret
    exact ⟨rfl, hb.out⟩

/-! ### pieces -/
/-- A piece as a value. -/
def pcV (h m : Int) (last : Int) : Value := .agg #[.int .i64 h, .int .i64 m, .int .i64 last]
def Bxp (w : World) (b : Nat) (h m last : Int) : Prop := w.heap[b]? = some (.cells #[.int .i64 h, .int .i64 m, .int .i64 last] 74 (0, 0))
theorem Bxp.new (w : World) (h m last : Int) : Bxp (w.alloc (.cells #[.int .i64 h, .int .i64 m, .int .i64 last] 74)) w.heap.size h m last := heap_alloc_new w _
theorem Bxp.lt {w : World} {b : Nat} {h m last : Int} (x : Bxp w b h m last) : b < w.heap.size := blk_lt x
theorem Bxp.c0 {w : World} {b : Nat} {h m last : Int} (x : Bxp w b h m last) : w.cell? ⟨b, 0, none⟩ = some (.int .i64 h) := by simp [World.cell?, show w.heap[b]? = _ from x]
theorem Bxp.c1 {w : World} {b : Nat} {h m last : Int} (x : Bxp w b h m last) : w.cell? ⟨b, 1, none⟩ = some (.int .i64 m) := by simp [World.cell?, show w.heap[b]? = _ from x]
theorem Bxp.c2 {w : World} {b : Nat} {h m last : Int} (x : Bxp w b h m last) : w.cell? ⟨b, 2, none⟩ = some (.int .i64 last) := by simp [World.cell?, show w.heap[b]? = _ from x]
theorem Bxp.fz {w : World} {b : Nat} {h m last : Int} (x : Bxp w b h m last) (k : Nat) : w.frozen? ⟨b, k, none⟩ = false := by simp [World.frozen?, show w.heap[b]? = _ from x]
theorem Bxp.to {w w' : World} {b : Nat} {h m last : Int} (x : Bxp w b h m last) (hb : w'.heap[b]? = w.heap[b]?) : Bxp w' b h m last := hb.trans x
theorem Bxp.up {w w' : World} {b : Nat} {h m last : Int} (x : Bxp w b h m last) (hb : Below w.heap.size w w') : Bxp w' b h m last := x.to (hb.block b x.lt)
theorem Bxp.set {w : World} {b : Nat} {h m last : Int} (x : Bxp w b h m last) (h' m' last' : Int) : Bxp (((w.setCell ⟨b, 0, none⟩ (.int .i64 h')).setCell ⟨b, 1, none⟩ (.int .i64 m')).setCell ⟨b, 2, none⟩ (.int .i64 last')) b h' m' last' := by
  unfold Bxp at *
  simp [World.setCell, Array.getElem?_modify, x]
theorem set3_far {X : World} {b g : Nat} (h : g ≠ b) (v0 v1 v2 : Value) : (((X.setCell ⟨b, 0, none⟩ v0).setCell ⟨b, 1, none⟩ v1).setCell ⟨b, 2, none⟩ v2).heap[g]? = X.heap[g]? := by
  have h' : ¬ b = g := fun e => h e.symm
  simp [World.setCell, Array.getElem?_modify, h']
theorem set3_below {B : Nat} {w X : World} {b : Nat} (h : Below B w X) (hb : B ≤ b) (v0 v1 v2 : Value) : Below B w (((X.setCell ⟨b, 0, none⟩ v0).setCell ⟨b, 1, none⟩ v1).setCell ⟨b, 2, none⟩ v2) :=
  ((h.setCell hb v0).setCell hb v1).setCell hb v2

set_option maxRecDepth 100000 in
set_option maxHeartbeats 2000000 in
theorem with_any (h m last : Int) (x : Jb) (w : World) (hh : 0 ≤ h ∧ h ≤ 100000) (hm : 0 ≤ m ∧ m ≤ 100000) (hl : 0 ≤ last ∧ last ≤ 100000) (hx : okJ x) :
    Calls Try.prog 85 #[.agg #[.int .i64 h, .int .i64 m, .int .i64 last], .agg #[.int .i64 x.h, .int .i64 x.m]] w fun e w' => e = .returned (.agg #[.int .i64 (h + x.h), .int .i64 (m + x.m), .int .i64 (last + 1)]) ∧ Below w.heap.size w w' := by
  obtain ⟨⟨x1, x2⟩, x3, x4⟩ := hx
  obtain ⟨xh, xm⟩ := x
  simp only [] at *
  have hb3 : Below w.heap.size w (((w.alloc (.cells #[.int .i64 h, .int .i64 m, .int .i64 last] 74)).alloc (.cells #[.int .i64 xh, .int .i64 xm] 54)).alloc (.cells #[.int .i64 0, .int .i64 0, .int .i64 0] 74)) := ((Below.refl _ _).alloc (Nat.le_refl _) _).alloc (by simp) _ |>.alloc (by simp; omega) _
  have hfin := Lib.hid (set3_below hb3 (show w.heap.size ≤ w.heap.size + 1 + 1 by omega) (.int .i64 (h + xh)) (.int .i64 (m + xm)) (.int .i64 (last + 1)))
  have hb4 := Lib.hid (show Below w.heap.size w (((w.alloc (.cells #[.int .i64 h, .int .i64 m, .int .i64 last] 74)).alloc (.cells #[.int .i64 xh, .int .i64 xm] 54)).alloc (.cells #[.int .i64 (h + xh), .int .i64 (m + xm), .int .i64 (last + 1)] 74)) from ((Below.refl _ _).alloc (Nat.le_refl _) _).alloc (by simp) _ |>.alloc (by simp; omega) _)
  replace hb3 := Lib.hid hb3
  go_enter Try.func85, Try.ntmps85
  go_wp2
  exact bodyPost_ret (v := .agg #[.int .i64 (h + xh), .int .i64 (m + xm), .int .i64 (last + 1)]) (by simp [results, Try.results85, go_sem]) rfl ⟨rfl, by first | exact hfin.out | exact hb4.out⟩

set_option maxRecDepth 100000 in
set_option maxHeartbeats 2000000 in
theorem below_any (h m last h' m' last' : Int) (w : World) (hh : 0 ≤ h ∧ h ≤ 100000) (hm : 0 ≤ m ∧ m ≤ 100000) (hh' : 0 ≤ h' ∧ h' ≤ 100000) (hm' : 0 ≤ m' ∧ m' ≤ 100000) (q : Bool) (hq : q = decide (m * h' < m' * h)) :
    Calls Try.prog 86 #[.agg #[.int .i64 h, .int .i64 m, .int .i64 last], .agg #[.int .i64 h', .int .i64 m', .int .i64 last']] w fun e w' => e = .returned (.bool q) ∧ Below w.heap.size w w' := by
  have hb2 : Below w.heap.size w ((w.alloc (.cells #[.int .i64 h, .int .i64 m, .int .i64 last] 74)).alloc (.cells #[.int .i64 h', .int .i64 m', .int .i64 last'] 74)) := ((Below.refl _ _).alloc (Nat.le_refl _) _).alloc (by simp) _
  have p1 : 0 ≤ m * h' ∧ m * h' ≤ 100000 * 100000 := ⟨Int.mul_nonneg hm.1 hh'.1, Int.mul_le_mul hm.2 hh'.2 hh'.1 (by omega)⟩
  have p2 : 0 ≤ m' * h ∧ m' * h ≤ 100000 * 100000 := ⟨Int.mul_nonneg hm'.1 hh.1, Int.mul_le_mul hm'.2 hh.2 hh.1 (by omega)⟩
  obtain ⟨a, ha⟩ : ∃ a, a = m * h' := ⟨_, rfl⟩
  obtain ⟨b, hb⟩ : ∃ a, a = m' * h := ⟨_, rfl⟩
  rw [← ha] at p1 hq
  rw [← hb] at p2 hq
  have w1 : IntKind.i64.wrap (m * h') = a := by rw [← ha]; exact IntWalk.i64_in _ (by omega)
  have w2 : IntKind.i64.wrap (m' * h) = b := by rw [← hb]; exact IntWalk.i64_in _ (by omega)
  have v1 : m * h' = a := ha.symm
  have v2 : m' * h = b := hb.symm
  replace ha := Lib.hid ha
  replace hb := Lib.hid hb
  replace hb2 := Lib.hid hb2
  by_cases hlt : a < b
  · rw [decide_eq_true hlt] at hq
    subst hq
    go_enter Try.func86, Try.ntmps86
    go_wp2
    go_ret
    exact ⟨rfl, hb2.out⟩
  · rw [decide_eq_false hlt] at hq
    subst hq
    go_enter Try.func86, Try.ntmps86
    go_wp2
    go_ret
    exact ⟨rfl, hb2.out⟩
end Go.Proofs.Ytgjgpcpghglnnaa
