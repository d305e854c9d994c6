/-
  Which jobs are valid, and the lead of a beach: the specification's functions.
-/
import Derived.Test.YtgjgpcpghglnnaaG
namespace Go.Proofs.Ytgjgpcpghglnnaa
open Go.RowKit Go.Deep M
set_option linter.unusedVariables false
set_option linter.unusedSimpArgs false

def Bxq (w : World) (b : Nat) (h m last : Int) : Prop := w.heap[b]? = some (.cells #[.int .i64 h, .int .i64 m, .int .i64 last] 78 (0, 0))
theorem Bxq.new (w : World) (h m last : Int) : Bxq (w.alloc (.cells #[.int .i64 h, .int .i64 m, .int .i64 last] 78)) w.heap.size h m last := heap_alloc_new w _
theorem Bxq.lt {w : World} {b : Nat} {h m last : Int} (x : Bxq w b h m last) : b < w.heap.size := blk_lt x
theorem Bxq.c0 {w : World} {b : Nat} {h m last : Int} (x : Bxq w b h m last) : w.cell? ⟨b, 0, none⟩ = some (.int .i64 h) := by simp [World.cell?, show w.heap[b]? = _ from x]
theorem Bxq.c1 {w : World} {b : Nat} {h m last : Int} (x : Bxq w b h m last) : w.cell? ⟨b, 1, none⟩ = some (.int .i64 m) := by simp [World.cell?, show w.heap[b]? = _ from x]
theorem Bxq.c2 {w : World} {b : Nat} {h m last : Int} (x : Bxq w b h m last) : w.cell? ⟨b, 2, none⟩ = some (.int .i64 last) := by simp [World.cell?, show w.heap[b]? = _ from x]
theorem Bxq.fz {w : World} {b : Nat} {h m last : Int} (x : Bxq w b h m last) (k : Nat) : w.frozen? ⟨b, k, none⟩ = false := by simp [World.frozen?, show w.heap[b]? = _ from x]
theorem Bxq.to {w w' : World} {b : Nat} {h m last : Int} (x : Bxq w b h m last) (hb : w'.heap[b]? = w.heap[b]?) : Bxq w' b h m last := hb.trans x
theorem Bxq.up {w w' : World} {b : Nat} {h m last : Int} (x : Bxq w b h m last) (hb : Below w.heap.size w w') : Bxq w' b h m last := x.to (hb.block b x.lt)
theorem Bxq.set {w : World} {b : Nat} {h m last : Int} (x : Bxq w b h m last) (h' m' last' : Int) : Bxq (((w.setCell ⟨b, 0, none⟩ (.int .i64 h')).setCell ⟨b, 1, none⟩ (.int .i64 m')).setCell ⟨b, 2, none⟩ (.int .i64 last')) b h' m' last' := by
  unfold Bxq at *
  simp [World.setCell, Array.getElem?_modify, x]

set_option maxRecDepth 100000 in
set_option maxHeartbeats 2000000 in
theorem Count_ref (B : Nat) (A : Option Addr) (c : Nat) (D : List Bc) (w : World) (h : Bcs w B A D) (hn6 : D.length ≤ 6) (hL : ∀ i, i < D.length → (be (bl D) i).length ≤ 100) :
    Calls Try.prog 54 #[.slice A D.length c] w fun e w' => e = .returned (.int .i64 (tn (bl D) D.length : Nat)) ∧ w = w' := by
  have hat := fun k (hk : k < D.length) => h.at_ k hk
  have hts := tn_succ (bl D)
  have hz := Lib.hid (show tn (bl D) 0 = 0 from rfl)
  obtain ⟨J, hJ⟩ : ∃ J, J = bl D := ⟨_, rfl⟩
  rw [← hJ] at hL hat hts hz ⊢
  obtain ⟨n, hn⟩ : ∃ n, n = D.length := ⟨_, rfl⟩
  rw [← hn] at hL hat hn6 ⊢
  obtain ⟨R, hR⟩ : ∃ R, R = tn J n := ⟨_, rfl⟩
  rw [← hR]
  replace hR := Lib.hid hR
  replace hn := Lib.hid hn
  replace hJ := Lib.hid hJ
  replace hL := Lib.hid hL
  replace hat := Lib.hid hat
  replace hts := Lib.hid hts
  replace h := Lib.hid h
  go_enter Try.func54, Try.ntmps54
  go_wp2
  go_loop [3, 4] (fun s i => ∃ k : Nat, k ≤ n ∧ i = .int .i64 (k : Nat) ∧ s = .int .i64 (tn J k : Nat) ∧ tn J k ≤ 100 * k) (fun _ i => n - (intOf i).toNat)
  case atStart => exact ⟨0, by omega, rfl, by rw [hz.out]; rfl, by rw [hz.out]; omega⟩
  case round =>
    obtain ⟨k, hk, rfl, rfl, ht⟩ := hrel
    by_cases hlk : k < n
    · obtain ⟨b, o, rfl, hb, e0, hjb⟩ := hat.out k hlk
      have l100 := hL.out k hlk
      have hs := hts.out k
      obtain ⟨T, hT⟩ : ∃ T, T = tn J k := ⟨_, rfl⟩
      obtain ⟨T2, hT2⟩ : ∃ T, T = tn J (k + 1) := ⟨_, rfl⟩
      rw [← hT, ← hT2] at hs
      rw [← hT] at ht ⊢
      generalize (be J k).length = L at *
      have hLi : (L : Int) ≤ 100 := by omega
      have hLn : ¬ (100 < (L : Int)) := by omega
      have hTi : (T : Int) + (L : Int) = (T2 : Int) := by omega
      have hT9 : T ≤ 600 ∧ T2 ≤ 700 := by omega
      have ht2 : T2 ≤ 100 * (k + 1) := by omega
      replace hT := Lib.hid hT
      replace hT2 := Lib.hid hT2
      replace hs := Lib.hid hs
      replace hjb := Lib.hid hjb
      go_wp2
      go_round
      case rel => exact ⟨k + 1, by omega, by go_num, by rw [← hT2.out], by rw [← hT2.out]; exact ht2⟩
      case measure => simp [intOf]; omega
    · have hk' : k = n := by omega
      subst hk'
      rw [← hR.out]
      go_wp2
      go_ret
      exact ⟨rfl, rfl⟩

set_option maxRecDepth 100000 in
set_option maxHeartbeats 4000000 in
theorem Valid_ref (B : Nat) (A : Option Addr) (c : Nat) (D : List Bc) (w : World) (h : Bcs w B A D) (hB : B ≤ w.heap.size) (hL : ∀ i, i < D.length → (be (bl D) i).length ≤ 100) :
    Calls Try.prog 19 #[.slice A D.length c] w fun e w' => e = .returned (.bool (valB (bl D))) ∧ Below w.heap.size w w' := by
  have h63 := h.1
  have hlen := bl_len D
  have hb1 : ¬ (1 ≤ D.length ∧ D.length ≤ 6) → valB (bl D) = false := fun hh => decide_eq_false fun hv => hh (by have := hv.1; rw [hlen] at this; exact this)
  have hb2 : ∀ k, k ≤ D.length → 12 < tn (bl D) k → valB (bl D) = false := fun k hk hh => decide_eq_false fun hv => by
    have h1 := hv.2.1
    have h2 := tn_mono (bl D) (show k ≤ (bl D).length by rw [hlen]; exact hk)
    omega
  have hb3 : ∀ k, k < D.length → ∀ q, q < (be (bl D) k).length → ¬ okJ (jb (be (bl D) k) q) → valB (bl D) = false := fun k hk q hq hh => decide_eq_false fun hv => hh (hv.2.2 k (by rw [hlen]; exact hk) q hq)
  have hgd : (1 ≤ D.length ∧ D.length ≤ 6) → tn (bl D) D.length ≤ 12 → Bok (bl D) D.length → valB (bl D) = true := fun a b c => decide_eq_true ⟨by rw [hlen]; exact a, by rw [hlen]; exact b, by rw [hlen]; exact c⟩
  have c54 := fun hn6 => Count_ref B A c D w h hn6 hL
  obtain ⟨J, hJ⟩ : ∃ J, J = bl D := ⟨_, rfl⟩
  obtain ⟨n, hn⟩ : ∃ n, n = D.length := ⟨_, rfl⟩
  obtain ⟨V, hV⟩ : ∃ V, V = valB (bl D) := ⟨_, rfl⟩
  rw [← hV] at hb1 hb2 hb3 hgd ⊢
  rw [← hn] at hL h63 hb1 hb2 hb3 hgd c54 ⊢
  rw [← hJ] at hL hb2 hb3 hgd c54
  have hat := fun X (hX : Below w.heap.size w X) k (hk : k < n) => (h.below (hX.mono hB)).at_ k (hn ▸ hk)
  rw [← hJ] at hat
  replace hV := Lib.hid hV
  replace hn := Lib.hid hn
  replace hJ := Lib.hid hJ
  replace hb1 := Lib.hid hb1
  replace hb2 := Lib.hid hb2
  replace hb3 := Lib.hid hb3
  replace hgd := Lib.hid hgd
  replace hL := Lib.hid hL
  replace hat := Lib.hid hat
  replace h := Lib.hid h
  clear hlen
  have hz := Lib.hid (show tn J 0 = 0 from rfl)
  have hts := Lib.hid (tn_succ J)
  have hw0 := Lib.hid (Below.refl w.heap.size w)
  by_cases hl1 : 1 ≤ n
  · by_cases hl2 : n ≤ 6
    · clear hb1
      have k54 := Lib.hid (c54 hl2)
      clear c54
      obtain ⟨T9, hT9⟩ : ∃ T, T = tn J n := ⟨_, rfl⟩
      have hgd' := hgd.out ⟨hl1, hl2⟩
      have hb2n := hb2.out n (Nat.le_refl _)
      rw [← hT9] at k54 hgd' hb2n
      have k54' := k54.out
      clear k54
      by_cases h12 : 12 < T9
      · have hf := hb2n h12
        subst hf
        clear hgd' hb2n
        replace k54' := Lib.hid k54'
        replace hT9 := Lib.hid hT9
        go_enter Try.func19, Try.ntmps19
        go_wp2_with fail
        refine k54'.out.mono ?_
        rintro e X ⟨rfl, rfl⟩
        go_wp2
        go_ret
        exact ⟨rfl, hw0.out⟩
      · have h12' : T9 ≤ 12 := by omega
        have hgd2 := Lib.hid (hgd' h12')
        clear hgd' hb2n
        replace k54' := Lib.hid k54'
        replace hT9 := Lib.hid hT9
        go_enter Try.func19, Try.ntmps19
        go_wp2_with fail
        refine k54'.out.mono ?_
        rintro e X ⟨rfl, rfl⟩
        clear k54'
        go_wp2
        go_loopw [3] (fun i X => ∃ k : Nat, k ≤ n ∧ i = .int .i64 (k : Nat) ∧ Bok J k ∧ Below w.heap.size w X) (fun i _ => n - (intOf i).toNat)
        case atStart => exact ⟨0, by omega, rfl, bok_zero _, hw0.out⟩
        case round =>
          obtain ⟨k, hk, rfl, hok, hX⟩ := hrel
          by_cases hlk : k < n
          · have hl100 := hL.out k hlk
            have hb3k := hb3.out k hlk
            have hok' := fun hh => bok_succ hok (k := k) hh
            have hjat := fun X (hX : Below w.heap.size w X) => hat.out X hX k hlk
            generalize (bc D k).A = Ak at *
            generalize (bc D k).c = ck at *
            obtain ⟨l, hl⟩ : ∃ l, l = be J k := ⟨_, rfl⟩
            rw [← hl] at hl100 hb3k hok' hjat
            obtain ⟨m, hm⟩ : ∃ m, m = l.length := ⟨_, rfl⟩
            rw [← hm] at hl100 hb3k hok' hjat
            replace hl := Lib.hid hl
            replace hm := Lib.hid hm
            replace hok := Lib.hid hok
            replace hok' := Lib.hid hok'
            replace hjat := Lib.hid hjat
            replace hb3k := Lib.hid hb3k
            have hX0 := Lib.hid hX
            clear hX
            go_wp2
            go_loopw [4] (fun i X => ∃ q : Nat, q ≤ m ∧ i = .int .i64 (q : Nat) ∧ Oks l q ∧ Below w.heap.size w X) (fun i _ => m - (intOf i).toNat)
            case atStart => exact ⟨0, by omega, rfl, oks_zero _, hX0.out⟩
            case round =>
              clear hX0
              obtain ⟨q, hq, rfl, hel, hX⟩ := hrel
              obtain ⟨b, o, rfl, hb, e0, hjb⟩ := hjat.out wr hX
              by_cases hlq : q < m
              · obtain ⟨b', o', rfl, hb', d0, d1⟩ := hjb.at_ q (hm.out ▸ hlq)
                have hsc := fun hh => oks_succ hel (k := q) hh
                have hbd := hb3k.out q hlq
                generalize jb l q = x at *
                have hend := Lib.hid (bel_trans hX (ba1 wr (.cells #[.int .i64 x.h, .int .i64 x.m] 54)))
                replace hX := Lib.hid hX
                replace hel := Lib.hid hel
                replace hjb := Lib.hid hjb
                by_cases c1 : x.h < 1
                · have hf := hbd (fun hh => by have := hh.1.1; omega)
                  subst hf
                  clear hsc hbd
                  go_wp2
                  go_ret
                  exact ⟨rfl, hend.out⟩
                · by_cases c2 : 100 < x.h
                  · have hf := hbd (fun hh => by have := hh.1.2; omega)
                    subst hf
                    clear hsc hbd
                    go_wp2
                    go_ret
                    exact ⟨rfl, hend.out⟩
                  · by_cases c3 : x.m < 0
                    · have hf := hbd (fun hh => by have := hh.2.1; omega)
                      subst hf
                      clear hsc hbd
                      go_wp2
                      go_ret
                      exact ⟨rfl, hend.out⟩
                    · by_cases c4 : 100 < x.m
                      · have hf := hbd (fun hh => by have := hh.2.2; omega)
                        subst hf
                        clear hsc hbd
                        go_wp2
                        go_ret
                        exact ⟨rfl, hend.out⟩
                      · have hs2 := Lib.hid (hsc ⟨⟨by omega, by omega⟩, by omega, by omega⟩)
                        clear hsc hbd
                        go_wp2
                        go_roundw
                        case rel => exact ⟨q + 1, by omega, by go_num, hs2.out, hend.out⟩
                        case measure => simp [intOf]; omega
              · have hq' : q = m := by omega
                subst hq'
                have hok2 := Lib.hid (hok'.out hel)
                replace hX := Lib.hid hX
                replace hel := Lib.hid hel
                replace hjb := Lib.hid hjb
                go_wp2
                go_roundw
                case rel => exact ⟨k + 1, by omega, by go_num, hok2.out, hX.out⟩
                case measure => simp [intOf]; omega
          · have hk' : k = n := by omega
            subst hk'
            have hf := hgd2.out hok
            subst hf
            replace hX := Lib.hid hX
            replace hok := Lib.hid hok
            go_wp2
            go_ret
            exact ⟨rfl, hX.out⟩
    · have hf := hb1.out (fun hh => hl2 hh.2)
      subst hf
      go_enter Try.func19, Try.ntmps19
      go_wp2
      go_ret
      exact ⟨rfl, hw0.out⟩
  · have hf := hb1.out (fun hh => hl1 hh.1)
    subst hf
    go_enter Try.func19, Try.ntmps19
    go_wp2
    go_ret
    exact ⟨rfl, hw0.out⟩


/-- The boxes of lead: the result, the piece so far, the best one. -/
structure LfW (w : World) (h m last h' m' last' : Int) (X : World) : Prop where
  below : Below w.heap.size w X
  r : Bxq X w.heap.size 0 0 0
  p : Bxq X (w.heap.size + 1) h m last
  q : Bxq X (w.heap.size + 1 + 1) h' m' last'
theorem LfW.up {w X Y : World} {h m last h' m' last' : Int} (x : LfW w h m last h' m' last' X) (hb : Below X.heap.size X Y) : LfW w h m last h' m' last' Y := ⟨bel_trans x.below hb, x.r.up hb, x.p.up hb, x.q.up hb⟩
theorem LfW.drew {w X : World} {h m last h' m' last' : Int} (x : LfW w h m last h' m' last' X) : LfW w h m last h' m' last' X.drew := ⟨below_drewN x.below 1, x.r.to rfl, x.p.to rfl, x.q.to rfl⟩
theorem LfW.setp {w X : World} {h m last h' m' last' : Int} (x : LfW w h m last h' m' last' X) (a b c : Int) : LfW w a b c h' m' last' (((X.setCell ⟨w.heap.size + 1, 0, none⟩ (.int .i64 a)).setCell ⟨w.heap.size + 1, 1, none⟩ (.int .i64 b)).setCell ⟨w.heap.size + 1, 2, none⟩ (.int .i64 c)) :=
  ⟨set3_below x.below (Nat.le_succ _) _ _ _, x.r.to (set3_far (by omega) _ _ _), x.p.set a b c, x.q.to (set3_far (by omega) _ _ _)⟩
theorem LfW.setq {w X : World} {h m last h' m' last' : Int} (x : LfW w h m last h' m' last' X) (a b c : Int) : LfW w h m last a b c (((X.setCell ⟨w.heap.size + 1 + 1, 0, none⟩ (.int .i64 a)).setCell ⟨w.heap.size + 1 + 1, 1, none⟩ (.int .i64 b)).setCell ⟨w.heap.size + 1 + 1, 2, none⟩ (.int .i64 c)) :=
  ⟨set3_below x.below (by omega) _ _ _, x.r.to (set3_far (by omega) _ _ _), x.p.to (set3_far (by omega) _ _ _), x.q.set a b c⟩
theorem lfW_new (w : World) (h m last : Int) : LfW w h m last 0 0 0 (((w.alloc (.cells #[.int .i64 0, .int .i64 0, .int .i64 0] 78)).alloc (.cells #[.int .i64 h, .int .i64 m, .int .i64 last] 78)).alloc (.cells #[.int .i64 0, .int .i64 0, .int .i64 0] 78)) := by
  have e1 : (w.alloc (.cells #[.int .i64 0, .int .i64 0, .int .i64 0] 78)).heap.size = w.heap.size + 1 := by simp
  have e2 : ((w.alloc (.cells #[.int .i64 0, .int .i64 0, .int .i64 0] 78)).alloc (.cells #[.int .i64 h, .int .i64 m, .int .i64 last] 78)).heap.size = w.heap.size + 1 + 1 := by simp
  have r0 := Bxq.new w 0 0 0
  have p0 := Bxq.new (w.alloc (.cells #[.int .i64 0, .int .i64 0, .int .i64 0] 78)) h m last
  have q0 := Bxq.new ((w.alloc (.cells #[.int .i64 0, .int .i64 0, .int .i64 0] 78)).alloc (.cells #[.int .i64 h, .int .i64 m, .int .i64 last] 78)) 0 0 0
  rw [e1] at p0
  rw [e2] at q0
  exact ⟨((Below.refl _ _).alloc (Nat.le_refl _) _).alloc (by simp) _ |>.alloc (by simp; omega) _, (r0.up (ba1 _ _)).up (ba1 _ _), p0.up (ba1 _ _), q0⟩
namespace M
/-- How many jobs the best piece has, of those with at most j jobs. -/
def bj (l : List Jb) (f : Nat) : Nat → Nat
  | 0 => 0
  | j + 1 => bk l f j
theorem bj_b (l : List Jb) (f j : Nat) : bj l f j ≤ j := by
  cases j with
  | zero => exact Nat.le_refl _
  | succ j => exact (bk_b l f j).2
/-- The last job of it, 0 at first. -/
def bjl (l : List Jb) (f : Nat) : Nat → Nat
  | 0 => 0
  | j + 1 => f + bk l f j - 1
theorem bj_step (l : List Jb) (f j : Nat) (hj : 1 ≤ j) : bj l f (j + 1) = if sm l f (j + 1) * sh l f (bj l f j) < sm l f (bj l f j) * sh l f (j + 1) then bj l f j else j + 1 := by
  cases j with
  | zero => omega
  | succ j => exact bk_succ l f j
end M

set_option maxRecDepth 100000 in
set_option maxHeartbeats 4000000 in
theorem lead_ref (B : Nat) (A : Option Addr) (c : Nat) (l : List Jb) (f : Nat) (w : World) (h : Jbs w B A l) (hB : B ≤ w.heap.size) (hf : f < l.length) (h12 : l.length ≤ 12) (hok : Oks l l.length) (hc : l.length ≤ c) :
    Calls Try.prog 70 #[.slice A l.length c, .int .i64 (f : Nat)] w fun e w' => e = .returned (.agg #[.int .i64 (sm l f (ld l f)), .int .i64 (sh l f (ld l f)), .int .i64 ((f + ld l f - 1 : Nat) : Int)]) ∧ Below w.heap.size w w' := by
  have h63 := h.1
  have hsb := s_b (f := f) hok
  have hbb := bj_b l f
  have hbs := bj_step l f
  have hs1 := sh_succ l f
  have hm1 := sm_succ l f
  obtain ⟨n, hn⟩ : ∃ n, n = l.length := ⟨_, rfl⟩
  obtain ⟨m, hm⟩ : ∃ m, m + 1 = n - f := ⟨n - f - 1, by omega⟩
  have hld : ld l f = bj l f (m + 1) := by unfold ld; rw [← hn, show n - f - 1 = m by omega]; rfl
  have hll : f + ld l f - 1 = bjl l f (m + 1) := by rw [hld]; rfl
  have hat := fun X (hX : Below w.heap.size w X) j (hj : f + j < n) => (h.below (hX.mono hB)).at_ (f + j) (hn ▸ hj)
  have hbl1 : ∀ j, 1 ≤ j → bjl l f j = f + bj l f j - 1 := fun j hj => by cases j with | zero => omega | succ j => rfl
  rw [hll, hld, ← hn]
  rw [← hn] at h63 hf h12 hc hsb hok
  have hfm : f + (m + 1) = n := by omega
  have hm12 : m ≤ 12 := by omega
  have hW := lfW_new w 0 0 ((f : Int) - 1)
  have hz1 := Lib.hid (show sh l f 0 = 0 ∧ sm l f 0 = 0 ∧ bj l f 0 = 0 ∧ bjl l f 0 = 0 from ⟨rfl, rfl, rfl, rfl⟩)
  obtain ⟨RH, hRH⟩ : ∃ z, z = sh l f (bj l f (m + 1)) := ⟨_, rfl⟩
  obtain ⟨RM, hRM⟩ : ∃ z, z = sm l f (bj l f (m + 1)) := ⟨_, rfl⟩
  obtain ⟨RL, hRL⟩ : ∃ z, z = bjl l f (m + 1) := ⟨_, rfl⟩
  rw [← hRH, ← hRM, ← hRL]
  have hbs1 := Lib.hid (show bj l f 1 = 1 ∧ bjl l f 1 = f from ⟨rfl, rfl⟩)
  replace hn := Lib.hid hn
  replace hm := Lib.hid hm
  replace hfm := Lib.hid hfm
  replace hat := Lib.hid hat
  replace hsb := Lib.hid hsb
  replace hbb := Lib.hid hbb
  replace hbs := Lib.hid hbs
  replace hs1 := Lib.hid hs1
  replace hm1 := Lib.hid hm1
  replace hld := Lib.hid hld
  replace hll := Lib.hid hll
  replace hbl1 := Lib.hid hbl1
  replace hRH := Lib.hid hRH
  replace hRM := Lib.hid hRM
  replace hRL := Lib.hid hRL
  replace hW := Lib.hid hW
  replace hok := Lib.hid hok
  go_enter Try.func70, Try.ntmps70
  go_wp2
  go_loopw [7] (fun i X => ∃ j : Nat, j ≤ m + 1 ∧ i = .int .i64 ((f + j : Nat) : Int) ∧ LfW w (sm l f j) (sh l f j) ((f : Int) + j - 1) (sm l f (bj l f j)) (sh l f (bj l f j)) (bjl l f j : Nat) X) (fun i _ => n - (intOf i).toNat)
  case atStart => exact ⟨0, by omega, rfl, by
    obtain ⟨a, b, c, d⟩ := hz1.out
    rw [c, d, a, b]
    simpa using hW.out⟩
  case round =>
    clear hW
    obtain ⟨j, hj, rfl, hX⟩ := hrel
    by_cases hlj : j < m + 1
    · obtain ⟨b, o, rfl, hb, d0, d1⟩ := hat.out wr hX.below j (by have := hfm.out; omega)
      have hxo := hok.out (f + j) (by have := hfm.out; omega)
      have sj := hs1.out j
      have mj := hm1.out j
      obtain ⟨⟨g1, g2⟩, g3, g4⟩ := hsb.out j (by have := hfm.out; omega)
      obtain ⟨⟨g5, g6⟩, g7, g8⟩ := hsb.out (j + 1) (by have := hfm.out; omega)
      have bb := hbb.out j
      obtain ⟨⟨g9, ga⟩, gb, gc⟩ := hsb.out (bj l f j) (by have := hfm.out; omega)
      have bjs := hbs.out j
      generalize jb l (f + j) = x at *
      obtain ⟨i', hi'⟩ : ∃ i', i' = f + j := ⟨_, rfl⟩
      rw [← hi'] at d0 d1 ⊢
      obtain ⟨P, hP⟩ : ∃ P, P = sh l f j := ⟨_, rfl⟩
      obtain ⟨PM, hPM⟩ : ∃ P, P = sm l f j := ⟨_, rfl⟩
      obtain ⟨P2, hP2⟩ : ∃ P, P = sh l f (j + 1) := ⟨_, rfl⟩
      obtain ⟨PM2, hPM2⟩ : ∃ P, P = sm l f (j + 1) := ⟨_, rfl⟩
      obtain ⟨Q, hQ⟩ : ∃ P, P = sh l f (bj l f j) := ⟨_, rfl⟩
      obtain ⟨QM, hQM⟩ : ∃ P, P = sm l f (bj l f j) := ⟨_, rfl⟩
      obtain ⟨QL, hQL⟩ : ∃ P, P = bjl l f j := ⟨_, rfl⟩
      rw [← hP, ← hP2] at sj
      rw [← hPM, ← hPM2] at mj
      rw [← hPM2, ← hQ, ← hQM, ← hP2] at bjs
      rw [← hP] at g1 g2
      rw [← hPM] at g3 g4
      rw [← hP2] at g5 g6
      rw [← hPM2] at g7 g8
      rw [← hQ] at g9 ga
      rw [← hQM] at gb gc
      rw [← hP, ← hPM, ← hQ, ← hQM, ← hQL] at hX
      obtain ⟨Lc, hLc⟩ : ∃ P : Int, P = (f : Int) + j - 1 := ⟨_, rfl⟩
      rw [← hLc] at hX
      have hP9 : (0 ≤ P ∧ P ≤ 2000) ∧ (0 ≤ PM ∧ PM ≤ 2000) ∧ (0 ≤ P2 ∧ P2 ≤ 2000) ∧ (0 ≤ PM2 ∧ PM2 ≤ 2000) ∧ (0 ≤ Q ∧ Q ≤ 2000) ∧ 0 ≤ QM ∧ QM ≤ 2000 := by omega
      obtain ⟨⟨x1, x2⟩, x3, x4⟩ := hxo
      have p1 : 0 ≤ PM2 * Q ∧ PM2 * Q ≤ 2000 * 2000 := ⟨Int.mul_nonneg (by omega) (by omega), Int.mul_le_mul (by omega) (by omega) (by omega) (by omega)⟩
      have p2 : 0 ≤ QM * P2 ∧ QM * P2 ≤ 2000 * 2000 := ⟨Int.mul_nonneg (by omega) (by omega), Int.mul_le_mul (by omega) (by omega) (by omega) (by omega)⟩
      obtain ⟨U, hU⟩ : ∃ U, U = PM2 * Q := ⟨_, rfl⟩
      obtain ⟨V, hV⟩ : ∃ U, U = QM * P2 := ⟨_, rfl⟩
      rw [← hU] at p1 bjs
      rw [← hV] at p2 bjs
      have w1 : IntKind.i64.wrap (PM2 * Q) = U := by rw [← hU]; exact IntWalk.i64_in _ (by omega)
      have w2 : IntKind.i64.wrap (QM * P2) = V := by rw [← hV]; exact IntWalk.i64_in _ (by omega)
      have w3 : IntKind.i64.wrap (PM + x.m) = PM2 := by rw [mj]; exact IntWalk.i64_in _ (by omega)
      have w4 : IntKind.i64.wrap (P + x.h) = P2 := by rw [sj]; exact IntWalk.i64_in _ (by omega)
      have v1 : PM2 * Q = U := hU.symm
      have v2 : QM * P2 = V := hV.symm
      have v3 : PM + x.m = PM2 := mj.symm
      have v4 : P + x.h = P2 := sj.symm
      clear g1 g2 g3 g4 g5 g6 g7 g8 g9 ga gb gc
      have i9 : i' ≤ 20 := by have := hfm.out; omega
      have hin : i' < n := by have := hfm.out; omega
      have hLn : ((i' : Nat) : Int) = (f : Int) + (j + 1 : Nat) - 1 := by omega
      have u0 := hX.p.c0
      have u1 := hX.p.c1
      have u3 := hX.p.fz 0
      have u4 := hX.p.fz 1
      have u5 := hX.p.fz 2
      have u2 := hX.p.c2
      have u6 := hX.p.lt
      have hX4 := hX.drew.setp PM2 P2 (i' : Nat)
      have hX4d := (hX.setp PM2 P2 (i' : Nat)).drew
      have hij := hi'
      replace hi' := Lib.hid hi'
      replace hX := Lib.hid hX
      replace hP := Lib.hid hP
      replace hPM := Lib.hid hPM
      replace hP2 := Lib.hid hP2
      replace hPM2 := Lib.hid hPM2
      replace hQ := Lib.hid hQ
      replace hQM := Lib.hid hQM
      replace hQL := Lib.hid hQL
      replace hLc := Lib.hid hLc
      replace hLn := Lib.hid hLn
      replace hU := Lib.hid hU
      replace hV := Lib.hid hV
      replace sj := Lib.hid sj
      replace mj := Lib.hid mj
      replace bb := Lib.hid bb
      replace hij := Lib.hid hij
      replace bjs := Lib.hid bjs
      replace hX4 := Lib.hid hX4
      replace hX4d := Lib.hid hX4d
      go_wp2_with fail
      go_region
      all_goals
        have hZ := hX4d.out
        clear u0 u1 u2 u3 u4 u5 u6 d0 d1
        generalize World.drew (((wr.setCell ⟨w.heap.size + 1, 0, none⟩ (.int .i64 PM2)).setCell ⟨w.heap.size + 1, 1, none⟩ (.int .i64 P2)).setCell ⟨w.heap.size + 1, 2, none⟩ (.int .i64 (i' : Nat))) = Z at hZ ⊢
        have a0 := hZ.p.c0
        have a1 := hZ.p.c1
        have a2 := hZ.p.c2
        have b0 := hZ.q.c0
        have b1 := hZ.q.c1
        have b2 := hZ.q.c2
        have b3 := hZ.q.fz 0
        have b4 := hZ.q.fz 1
        have b5 := hZ.q.fz 2
        have b6 := hZ.q.lt
        have hS := Lib.hid (hZ.setq PM2 P2 (i' : Nat))
        replace hZ := Lib.hid hZ
        by_cases j0 : j = 0
        · have hif : i' = f := by have := hij.out; omega
          have hrel0 := Lib.hid (show LfW w (sm l f (j + 1)) (sh l f (j + 1)) ((f : Int) + (j + 1 : Nat) - 1) (sm l f (bj l f (j + 1))) (sh l f (bj l f (j + 1))) (bjl l f (j + 1) : Nat) _ from by
            rw [← hPM2.out, ← hP2.out, ← hLn.out]
            have e1 : bj l f (j + 1) = j + 1 := by subst j0; exact hbs1.out.1
            have e2 : bjl l f (j + 1) = i' := by rw [hif]; subst j0; exact hbs1.out.2
            rw [e1, e2, ← hPM2.out, ← hP2.out]
            exact hS.out)
          have hii : ((i' : Int) == (f : Int)) = true := by rw [beq_iff_eq]; omega
          replace hif := Lib.hid hif
          have hi2 : ((f + (j + 1) : Nat) : Int) = (i' : Int) + 1 := by have := hij.out; omega
          replace hi2 := Lib.hid hi2
          go_wp2
          go_roundw
          case rel => exact ⟨j + 1, by omega, by first | (rw [hi2.out]; done) | (rw [hi2.out]; first | rfl | go_num), hrel0.out⟩
          case measure => first | (rw [show ((i' : Int) + 1) = ((i' + 1 : Nat) : Int) by omega]; simp [intOf]; done) | (rw [show ((i' : Int) + 1) = ((i' + 1 : Nat) : Int) by omega]; simp [intOf]; omega) | (simp [intOf]; omega)
        · have hbj := bjs.out (by omega)
          have hii : ((i' : Int) == (f : Int)) = false := by rw [beq_eq_false_iff_ne]; have := hij.out; omega
          have hi2 := Lib.hid (show ((f + (j + 1) : Nat) : Int) = (i' : Int) + 1 by have := hij.out; omega)
          by_cases hlt : U < V
          · rw [if_pos hlt] at hbj
            have hrel0 := Lib.hid (show LfW w (sm l f (j + 1)) (sh l f (j + 1)) ((f : Int) + (j + 1 : Nat) - 1) (sm l f (bj l f (j + 1))) (sh l f (bj l f (j + 1))) (bjl l f (j + 1) : Nat) _ from by
              rw [← hPM2.out, ← hP2.out, ← hLn.out]
              have e2 : bjl l f (j + 1) = bjl l f j := by rw [hbl1.out (j + 1) (by omega), hbl1.out j (by omega), hbj]
              rw [e2, hbj, ← hQM.out, ← hQ.out, ← hQL.out]
              exact hZ.out)
            have hge : ¬ (V ≤ U) := by omega
            replace hbj := Lib.hid hbj
            go_wp2
            go_roundw
            case rel => exact ⟨j + 1, by omega, by first | (rw [hi2.out]; done) | (rw [hi2.out]; first | rfl | go_num), hrel0.out⟩
            case measure => first | (rw [show ((i' : Int) + 1) = ((i' + 1 : Nat) : Int) by omega]; simp [intOf]; done) | (rw [show ((i' : Int) + 1) = ((i' + 1 : Nat) : Int) by omega]; simp [intOf]; omega) | (simp [intOf]; omega)
          · rw [if_neg hlt] at hbj
            have hrel0 := Lib.hid (show LfW w (sm l f (j + 1)) (sh l f (j + 1)) ((f : Int) + (j + 1 : Nat) - 1) (sm l f (bj l f (j + 1))) (sh l f (bj l f (j + 1))) (bjl l f (j + 1) : Nat) _ from by
              rw [← hPM2.out, ← hP2.out, ← hLn.out]
              have e2 : bjl l f (j + 1) = i' := by rw [hbl1.out (j + 1) (by omega), hbj]; have := hij.out; omega
              rw [e2, hbj, ← hPM2.out, ← hP2.out]
              exact hS.out)
            have hge : V ≤ U := by omega
            replace hbj := Lib.hid hbj
            go_wp2
            go_roundw
            case rel => exact ⟨j + 1, by omega, by first | (rw [hi2.out]; done) | (rw [hi2.out]; first | rfl | go_num), hrel0.out⟩
            case measure => first | (rw [show ((i' : Int) + 1) = ((i' + 1 : Nat) : Int) by omega]; simp [intOf]; done) | (rw [show ((i' : Int) + 1) = ((i' + 1 : Nat) : Int) by omega]; simp [intOf]; omega) | (simp [intOf]; omega)
    · have hj' : j = m + 1 := by omega
      subst hj'
      rw [← hRH.out, ← hRM.out, ← hRL.out] at hX
      have q0 := hX.q.c0
      have q1 := hX.q.c1
      have q2 := hX.q.c2
      have r0 := hX.r.c0
      have r1 := hX.r.c1
      have r2 := hX.r.c2
      have f0 := hX.r.fz 0
      have f1 := hX.r.fz 1
      have f2 := hX.r.fz 2
      have rl := hX.r.lt
      have hend := Lib.hid (set3_below hX.below (Nat.le_refl w.heap.size) (.int .i64 RM) (.int .i64 RH) (.int .i64 (RL : Nat)))
      have y := hX.r.set RM RH (RL : Nat)
      have y0 := y.c0
      have y1 := y.c1
      have y2 := y.c2
      have hnf : ((f + (m + 1) : Nat) : Int) = (n : Int) := by have := hfm.out; omega
      rw [hnf]
      replace hnf := Lib.hid hnf
      replace y := Lib.hid y
      replace hX := Lib.hid hX
      go_wp2
      exact bodyPost_ret (v := .agg #[.int .i64 RM, .int .i64 RH, .int .i64 (RL : Nat)]) (by simp [results, Try.results70, go_sem, y0, y1, y2]) rfl ⟨rfl, hend.out⟩
end Go.Proofs.Ytgjgpcpghglnnaa
