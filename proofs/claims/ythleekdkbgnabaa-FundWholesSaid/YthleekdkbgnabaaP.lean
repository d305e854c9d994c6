/-
  Equal awards: the specification's function, which pays one after the other.
-/
import Derived.Test.YthleekdkbgnabaaO
import Derived.Test.YthleekdkbgnabaaMathC
namespace Go.Proofs.Ythleekdkbgnabaa
open Go.RowKit Go.Deep M
set_option linter.unusedVariables false
set_option linter.unusedSimpArgs false

def boolOf : Value → Bool | .bool b => b | _ => false
theorem AwW.put {w X : World} {n g i : Nat} {l : List Int} {b : Nat → Bool} (h : AwW w n g (pf l b) X) (hi : i < n) : AwW w n g (pf l (putB b i)) ((X.setCell ⟨g, i * 2, none⟩ (.int .i64 (el l i))).setCell ⟨g, i * 2 + 1, none⟩ (.int .i64 1)) :=
  (h.set hi ⟨el l i, 1⟩).congr fun j _ => pf_put l b i j

theorem upto_same {n k : Nat} {F f : Nat → Rt} {w X : World} {g : Nat} (h : AwW w n g (upto k F f) X) (e : F k = f k) : AwW w n g (upto (k + 1) F f) X := h.congr fun i _ => by
  rw [← upto_succ]
  by_cases hi : i = k
  · subst hi; rw [if_pos rfl, upto_at, e]
  · rw [if_neg hi]
set_option maxRecDepth 100000 in
set_option maxHeartbeats 8000000 in
theorem equal_ref (B : Nat) (A : Option Addr) (c : Nat) (l : List Int) (e : Int) (w : World) (h : Row w B A l) (hB : B ≤ w.heap.size) (hk : okE l e) :
    Calls Try.prog 69 #[.slice A l.length c, .int .i64 e] w fun r w' => ∃ g, r = .returned (.slice (some ⟨g, 0, none⟩) l.length l.length) ∧ AwW w l.length g (eqL l e) w' := by
  have h63 := h.1
  have hn := val_len hk.1
  have hsm := sm_b hk.1
  have he := hk.2
  have hat := fun X (hX : Below w.heap.size w X) k (hk : k < l.length) => (h.below (hX.mono hB)).at_ k hk
  have hx := fun k (hkl : k < l.length) => hk.1.2 k hkl
  have hmk := run_mkR w l.length (by omega)
  have hpd0 := pd_zero l hk.2.1
  have hput := fun b r k i (hp : Pd l e b r k) (hi : i < l.length) hb hle => @pd_put l e r b k i hp (fun j hj => (hk.1.2 j hj).1) hi hb hle
  have hend := fun b r k (hp : Pd l e b r k) hu i (hi : i < l.length) => @pf_end l e r b k hk.1 hk.2.1 hp hu i hi
  have hlf := fun b r k (hp : Pd l e b r k) => (⟨by rw [hp.left]; exact cu_le b l.length, hp.pos⟩ : k ≤ l.length ∧ 0 ≤ r)
  have hpos := fun b r k i (hp : Pd l e b r k) (hi : i < l.length) (hb : b i = false) => (by rw [hp.left]; exact cu_pos hi hb : 1 ≤ k)
  have hW0 : AwW w l.length w.heap.size (pf l fun _ => false) (mkR w l.length) := ⟨mkR_below _ _, Nat.le_refl _, mkR_blk _ _⟩
  have kr := fun X (x : Int) (hx : okC x) => Ratio_ref x 1 X (by unfold okC at hx; omega) (by omega)
  have ks := fun X (r : Int) (k : Nat) (hr : 0 ≤ r ∧ r ≤ 8000) (hk : 1 ≤ k ∧ k ≤ 8) => Ratio_ref r k X (by omega) (by omega)
  generalize eqL l e = F at *
  generalize sm l = S at *
  generalize l.length = n at *
  have he0 := he.1
  have he8 : e ≤ 8000 := by omega
  obtain ⟨g, hg⟩ : ∃ g, g = w.heap.size := ⟨_, rfl⟩
  rw [← hg] at hmk hW0
  obtain ⟨Y, hY⟩ : ∃ Y, Y = mkR w n := ⟨_, rfl⟩
  rw [← hY] at hmk hW0
  replace hg := Lib.hid hg
  replace hY := Lib.hid hY
  replace hat := Lib.hid hat
  replace hx := Lib.hid hx
  replace hpd0 := Lib.hid hpd0
  replace hput := Lib.hid hput
  replace hend := Lib.hid hend
  replace hlf := Lib.hid hlf
  replace hpos := Lib.hid hpos
  replace hW0 := Lib.hid hW0
  replace kr := Lib.hid kr
  replace ks := Lib.hid ks
  replace h := Lib.hid h
  replace hk := Lib.hid hk
  replace he := Lib.hid he
  replace hsm := Lib.hid hsm
  obtain ⟨hn1, hn8⟩ := hn
  go_enter Try.func69, Try.ntmps69
  go_wp2
  go_loopw [8, 6, 7, 9] (fun a r k _ wr => ∃ (q : Bool) (b : Nat → Bool) (y : Int) (m : Nat), a = .bool q ∧ r = .int .i64 y ∧ k = .int .i64 (m : Nat) ∧ y ≤ 8000 ∧ Pd l e b y m ∧ AwW w n g (pf l b) wr ∧ (q = false → ∀ i, i < n → b i = false → y < el l i * (m : Int))) (fun a _ k _ _ => 2 * (intOf k).toNat + (if boolOf a = true then 1 else 0))
  case atStart => exact ⟨true, fun _ => false, e, n, rfl, rfl, rfl, he8, hpd0.out, hW0.out, fun hh => by cases hh⟩
  case round =>
    clear hW0 hpd0
    obtain ⟨q, b, y, m, rfl, rfl, rfl, hy8, hP, hW, hq⟩ := hrel
    cases q with
    | true =>
      clear hq
      have hst := Lib.hid (show ∃ (q : Bool) (b' : Nat → Bool) (y' : Int) (m' k : Nat), Value.bool false = .bool q ∧ Value.int .i64 y = .int .i64 y' ∧ Value.int .i64 (m : Nat) = .int .i64 (m' : Nat) ∧ Value.int .i64 0 = .int .i64 (k : Nat) ∧ y' ≤ 8000 ∧ k ≤ n ∧ m' ≤ m ∧ Pd l e b' y' m' ∧ AwW w n g (pf l b') wr ∧ (q = false → m' = m ∧ ∀ i, i < k → b' i = false → y' < el l i * (m' : Int)) ∧ (q = true → m' < m) from
        ⟨false, b, y, m, 0, rfl, rfl, rfl, rfl, hy8, by omega, by omega, hP, hW, fun _ => ⟨rfl, fun i hi => absurd hi (by omega)⟩, fun hh => by cases hh⟩)
      replace hP := Lib.hid hP
      replace hW := Lib.hid hW
      go_wp2
      go_loopw [8, 6, 7, 9] (fun a r k i wr => ∃ (q : Bool) (b' : Nat → Bool) (y' : Int) (m' k' : Nat), a = .bool q ∧ r = .int .i64 y' ∧ k = .int .i64 (m' : Nat) ∧ i = .int .i64 (k' : Nat) ∧ y' ≤ 8000 ∧ k' ≤ n ∧ m' ≤ m ∧ Pd l e b' y' m' ∧ AwW w n g (pf l b') wr ∧ (q = false → m' = m ∧ ∀ i, i < k' → b' i = false → y' < el l i * (m' : Int)) ∧ (q = true → m' < m)) (fun _ _ _ i _ => n - (intOf i).toNat)
      case atStart => exact hst.out
      case round =>
        clear hst hW hP
        obtain ⟨q, b', y', m', k', rfl, rfl, rfl, rfl, hy8', hkn', hmm', hP, hW, hq0, hq1⟩ := hrel
        by_cases hkn : k' < n
        · have c1 := hW.blk.c1 hkn
          have c0 := hW.blk.c0 hkn
          have hlt := hW.blk.lt
          have hkn2 : (k' : Int) < (n : Int) := by omega
          cases hb : b' k' with
          | true =>
            have e1 : (pf l b' k').d = 1 := by unfold pf; rw [if_pos hb]
            rw [e1] at c1
            have hrl := Lib.hid (And.intro hP (And.intro hW (And.intro (show q = false → m' = m ∧ ∀ i, i < k' + 1 → b' i = false → y' < el l i * (m' : Int) from fun hh => ⟨(hq0 hh).1, fun i hi hbi => by
              rcases Nat.lt_succ_iff_lt_or_eq.1 hi with h' | rfl
              · exact (hq0 hh).2 i h' hbi
              · rw [hb] at hbi; cases hbi⟩) hq1)))
            clear c0 e1
            replace hP := Lib.hid hP
            replace hW := Lib.hid hW
            replace hq0 := Lib.hid hq0
            replace hq1 := Lib.hid hq1
            replace hb := Lib.hid hb
            go_wp2
            go_roundw
            case rel => exact ⟨q, b', y', m', k' + 1, rfl, rfl, rfl, by simp, hy8', by omega, hmm', hrl.out.1, hrl.out.2.1, hrl.out.2.2.1, hrl.out.2.2.2⟩
            case measure => simp [intOf]; omega
          | false =>
            have e1 : (pf l b' k').d = 0 := by unfold pf; rw [hb]; rfl
            have e0 : (pf l b' k').n = 0 := by unfold pf; rw [hb]; rfl
            rw [e1] at c1
            rw [e0] at c0
            obtain ⟨bA, o, rfl, hbA, a0⟩ := hat.out wr hW.below k' hkn
            have hxk := hx.out k' hkn
            obtain ⟨hmn, hy0⟩ := hlf.out _ _ _ hP
            have hm8 : m' ≤ 8 := by omega
            have hxk' := hxk
            unfold okC at hxk'
            have p1 : el l k' * (m' : Int) ≤ 1000 * (m' : Int) := Int.mul_le_mul_of_nonneg_right hxk'.2 (by omega)
            have p2 : 0 ≤ el l k' * (m' : Int) := Int.mul_nonneg hxk'.1 (by omega)
            have hpu := hput.out _ _ _ k' hP hkn hb
            obtain ⟨pm, hpm⟩ : ∃ z, z = el l k' * (m' : Int) := ⟨_, rfl⟩
            have w1 : IntKind.i64.wrap (el l k' * (m' : Int)) = pm := by rw [← hpm]; exact IntWalk.i64_in _ (by omega)
            rw [← hpm] at p1 p2 hpu
            by_cases hc : pm ≤ y'
            · obtain ⟨hm1, hxy, hP2⟩ := hpu hc
              have kk := kr.out wr _ hxk
              rw [mk_one] at kk
              unfold rtV at kk
              simp only at kk
              have hmc : (m' : Int) - 1 = ((m' - 1 : Nat) : Int) := by omega
              have w2 : IntKind.i64.wrap ((m' : Int) - 1) = ((m' - 1 : Nat) : Int) := by rw [← hmc]; exact IntWalk.i64_in _ (by omega)
              have w3 : IntKind.i64.wrap (y' - el l k') = y' - el l k' := IntWalk.i64_in _ (by omega)
              have hW2 : ∀ X, Below wr.heap.size wr X → AwW w n g (pf l b') X := fun X hX => hW.up hX
              have hfin : ∀ X, Below wr.heap.size wr X → AwW w n g (pf l (putB b' k')) ((X.setCell ⟨g, k' * 2, none⟩ (.int .i64 (el l k'))).setCell ⟨g, k' * 2 + 1, none⟩ (.int .i64 1)) := fun X hX => (hW.up hX).put hkn
              have hA := fun X (hX : AwW w n g (pf l (putB b' k')) X) => hat.out X hX.below k' hkn
              have hlt2 : m' - 1 < m := by omega
              obtain ⟨m1, hm1e⟩ : ∃ z, z = m' - 1 := ⟨_, rfl⟩
              rw [← hm1e] at hmc w2 hlt2 hP2
              obtain ⟨x, hxe⟩ : ∃ x, x = el l k' := ⟨_, rfl⟩
              rw [← hxe] at a0 hxk' hxy hP2 kk w1 w3 hfin hA hpm
              obtain ⟨y2, hy2⟩ : ∃ z, z = y' - x := ⟨_, rfl⟩
              rw [← hy2] at hP2
              have w3' : IntKind.i64.wrap (y' - x) = y2 := by rw [hy2]; exact w3
              have hy28 : y2 ≤ 8000 := by omega
              clear w3
              replace kk := Lib.hid kk
              replace hW2 := Lib.hid hW2
              replace hfin := Lib.hid hfin
              replace hA := Lib.hid hA
              replace hm1e := Lib.hid hm1e
              replace hxe := Lib.hid hxe
              replace hy2 := Lib.hid hy2
              replace hpm := Lib.hid hpm
              replace hpu := Lib.hid hpu
              replace hP2 := Lib.hid hP2
              replace hP := Lib.hid hP
              replace hW := Lib.hid hW
              replace hq0 := Lib.hid hq0
              replace hq1 := Lib.hid hq1
              replace hb := Lib.hid hb
              replace hxk := Lib.hid hxk
              replace hmc := Lib.hid hmc
              clear e0 e1
              go_wp2_with fail
              refine kk.out.mono ?_
              rintro _ X2 ⟨rfl, hb2⟩
              have hW3 := hW2.out X2 hb2
              have z0 := hW3.blk.c0 hkn
              have z1 := hW3.blk.c1 hkn
              rw [show (pf l b' k').n = 0 by unfold pf; rw [hb.out]; rfl] at z0
              rw [show (pf l b' k').d = 0 by unfold pf; rw [hb.out]; rfl] at z1
              have z2 := hW3.blk.fz (k' * 2)
              have z3 := hW3.blk.fz (k' * 2 + 1)
              have hl3 := hW3.blk.lt
              have hW4 := hfin.out X2 hb2
              obtain ⟨bA', o', heA, _, a1⟩ := hA.out _ hW4
              cases heA
              replace hW3 := Lib.hid hW3
              replace hW4 := Lib.hid hW4
              replace hb2 := Lib.hid hb2
              go_wp2
              go_roundw
              case rel => exact ⟨true, putB b' k', y2, m1, k' + 1, rfl, rfl, rfl, by simp, hy28, by omega, by omega, hP2.out, hW4.out, (fun hh => by cases hh), fun _ => hlt2⟩
              case measure => simp [intOf]; omega
            · have hrl := Lib.hid (And.intro hP (And.intro hW (And.intro (show q = false → m' = m ∧ ∀ i, i < k' + 1 → b' i = false → y' < el l i * (m' : Int) from fun hh => ⟨(hq0 hh).1, fun i hi hbi => by
                rcases Nat.lt_succ_iff_lt_or_eq.1 hi with h' | rfl
                · exact (hq0 hh).2 i h' hbi
                · rw [← hpm]; omega⟩) hq1)))
              replace hP := Lib.hid hP
              replace hW := Lib.hid hW
              replace hq0 := Lib.hid hq0
              replace hq1 := Lib.hid hq1
              replace hb := Lib.hid hb
              replace hpm := Lib.hid hpm
              replace hpu := Lib.hid hpu
              replace hxk := Lib.hid hxk
              clear e0 e1
              go_wp2
              go_roundw
              case rel => exact ⟨q, b', y', m', k' + 1, rfl, rfl, rfl, by simp, hy8', by omega, hmm', hrl.out.1, hrl.out.2.1, hrl.out.2.2.1, hrl.out.2.2.2⟩
              case measure => simp [intOf]; omega
        · have : k' = n := by omega
          subst this
          have hrl := Lib.hid (And.intro hP (And.intro hW (And.intro hq0 hq1)))
          replace hP := Lib.hid hP
          replace hW := Lib.hid hW
          replace hq0 := Lib.hid hq0
          replace hq1 := Lib.hid hq1
          go_wp2
          go_roundw
          case rel => exact ⟨q, b', y', m', rfl, rfl, rfl, hy8', hrl.out.1, hrl.out.2.1, fun hh => (hrl.out.2.2.1 hh).2⟩
          case measure =>
            cases q with
            | true => have := hrl.out.2.2.2 rfl; simp [intOf, boolOf]; omega
            | false => have := (hrl.out.2.2.1 rfl).1; simp [intOf, boolOf]; omega
    | false =>
      have hu := hq rfl
      have hF := fun i hi => hend.out b y m hP hu i hi
      have hW1 := Lib.hid (hW.start (F := F))
      obtain ⟨hmn, hy0⟩ := hlf.out _ _ _ hP
      have hps := fun i hi hb => hpos.out _ _ _ i hP hi hb
      have hm8 : m ≤ 8 := by omega
      replace hF := Lib.hid hF
      replace hu := Lib.hid hu
      replace hP := Lib.hid hP
      replace hW := Lib.hid hW
      replace hq := Lib.hid hq
      replace hps := Lib.hid hps
      go_wp2
      go_loopw [10] (fun i wr => ∃ k : Nat, k ≤ n ∧ i = .int .i64 (k : Nat) ∧ AwW w n g (upto k F (pf l b)) wr) (fun i _ => n - (intOf i).toNat)
      case atStart => exact ⟨0, by omega, rfl, hW1.out⟩
      case round =>
        clear hW1
        obtain ⟨k, hkk, rfl, hW⟩ := hrel
        by_cases hkn : k < n
        · obtain ⟨c0, c1, f0, f1⟩ := hW.cells hkn
          have hlt := hW.blk.lt
          have hkn2 : (k : Int) < (n : Int) := by omega
          obtain ⟨ht, hf⟩ := hF.out k hkn
          cases hb : b k with
          | true =>
            have e1 : (pf l b k).d = 1 := by unfold pf; rw [if_pos hb]
            have e2 : F k = pf l b k := by rw [ht hb]; unfold pf; rw [if_pos hb]
            rw [e1] at c1
            have hW2 := Lib.hid (upto_same hW e2)
            clear c0 e1 e2 ht hf
            replace hW := Lib.hid hW
            replace hb := Lib.hid hb
            go_wp2
            go_roundw
            case rel => exact ⟨k + 1, by omega, by simp, hW2.out⟩
            case measure => simp [intOf]; omega
          | false =>
            have e1 : (pf l b k).d = 0 := by unfold pf; rw [hb]; rfl
            have e0 : (pf l b k).n = 0 := by unfold pf; rw [hb]; rfl
            rw [e1] at c1
            rw [e0] at c0
            have hm1 := hps.out k hkn hb
            have kk := ks.out wr y m ⟨hy0, hy8⟩ ⟨hm1, hm8⟩
            rw [← hf hb] at kk
            unfold rtV at kk
            have hW2 : ∀ X, Below wr.heap.size wr X → AwW w n g (upto k F (pf l b)) X := fun X hX => hW.up hX
            clear ht hf
            replace kk := Lib.hid kk
            replace hW2 := Lib.hid hW2
            replace hW := Lib.hid hW
            replace hb := Lib.hid hb
            replace e0 := Lib.hid e0
            replace e1 := Lib.hid e1
            go_wp2_with fail
            refine kk.out.mono ?_
            rintro _ X2 ⟨rfl, hb2⟩
            have hW3 := hW2.out X2 hb2
            obtain ⟨z0, z1, z2, z3⟩ := hW3.cells hkn
            rw [e0.out] at z0
            rw [e1.out] at z1
            have hl3 := hW3.blk.lt
            have hW4 := Lib.hid (hW3.step hkn)
            replace hW3 := Lib.hid hW3
            replace hb2 := Lib.hid hb2
            go_wp2
            go_roundw
            case rel => exact ⟨k + 1, by omega, by simp, hW4.out⟩
            case measure => simp [intOf]; omega
        · have : k = n := by omega
          subst this
          have hfin := Lib.hid hW.fin
          replace hW := Lib.hid hW
          go_wp2
          go_ret
          exact ⟨g, rfl, hfin.out⟩
end Go.Proofs.Ythleekdkbgnabaa
