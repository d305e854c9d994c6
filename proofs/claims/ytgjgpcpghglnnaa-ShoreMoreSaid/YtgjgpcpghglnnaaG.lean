/-
  The rate of a piece in lowest terms: the program's rate, the specification's ratio.
-/
import Derived.Test.YtgjgpcpghglnnaaF
import Derived.Test.YtgjgpcpghglnnaaMathB
namespace Go.Proofs.Ytgjgpcpghglnnaa
open Go.RowKit Go.Deep M
set_option linter.unusedVariables false
set_option linter.unusedSimpArgs false

namespace M
theorem gcd_step (i j : Nat) : Nat.gcd i j = Nat.gcd j (i % j) := by rw [Nat.gcd_comm, Nat.gcd_rec, Nat.gcd_comm]
theorem tdiv_nat (a b : Nat) : ((a : Int)).tdiv (b : Int) = ((a / b : Nat) : Int) := rfl
end M

set_option maxHeartbeats 1000000 in
theorem divisor_any (a b : Nat) (w : World) (ha : a ≤ 2000) (hb : b ≤ 2000) : Calls Try.prog 87 #[.int .i64 a, .int .i64 b] w fun e w' => e = .returned (.int .i64 (Nat.gcd a b : Nat)) ∧ ∃ n, w' = w.drewN n := by
  obtain ⟨g, hg⟩ : ∃ g, Nat.gcd a b = g := ⟨_, rfl⟩
  rw [hg]
  go_enter Try.func87, Try.ntmps87
  go_wp2
  go_loopw [0, 1] (fun x y wr => ∃ i j n : Nat, x = .int .i64 i ∧ y = .int .i64 j ∧ i ≤ 2000 ∧ j ≤ 2000 ∧ Nat.gcd i j = g ∧ wr = w.drewN n) (fun _ y _ => (intOf y).toNat)
  case atStart => exact ⟨a, b, 0, rfl, rfl, ha, hb, hg, rfl⟩
  case round =>
    obtain ⟨i, j, n, rfl, rfl, hi, hj, hgg, hw⟩ := hrel
    replace hw := Lib.hid hw
    by_cases h0 : j = 0
    · subst h0
      rw [Nat.gcd_zero_right] at hgg
      subst hgg
      have h0' : (((0 : Nat) : Int) != 0) = false := by simp
      go_wp2
      go_ret
      exact ⟨rfl, n, hw.out⟩
    · have h0' : ((j : Int) != 0) = true := by simp; omega
      have h1 : ¬ ((j : Int) = 0) := by omega
      have h2 : (1 : Int) ≤ (j : Int) := by omega
      have hm : i % j < j := Nat.mod_lt _ (by omega)
      have hgg' := Lib.hid ((gcd_step i j).symm.trans hgg)
      have he : ((i : Int)).tmod (j : Int) = ((i % j : Nat) : Int) := rfl
      clear hgg
      go_wp2_with fail
      go_quiet (fail)
      go_wp2
      try rw [he]
      go_roundw
      case rel => exact ⟨j, i % j, n + nq, rfl, rfl, hj, by omega, hgg'.out, by rw [hw.out, World.drewN_drewN]⟩
      case measure => simp [intOf]; omega

/-- A box of a ratio. -/
def Bxr (w : World) (b : Nat) (n d : Int) : Prop := w.heap[b]? = some (.cells #[.int .i64 n, .int .i64 d] 40 (0, 0))
theorem Bxr.new (w : World) (n d : Int) : Bxr (w.alloc (.cells #[.int .i64 n, .int .i64 d] 40)) w.heap.size n d := heap_alloc_new w _
theorem Bxr.lt {w : World} {b : Nat} {n d : Int} (h : Bxr w b n d) : b < w.heap.size := blk_lt h
theorem Bxr.c0 {w : World} {b : Nat} {n d : Int} (h : Bxr w b n d) : w.cell? ⟨b, 0, none⟩ = some (.int .i64 n) := by simp [World.cell?, show w.heap[b]? = _ from h]
theorem Bxr.c1 {w : World} {b : Nat} {n d : Int} (h : Bxr w b n d) : w.cell? ⟨b, 1, none⟩ = some (.int .i64 d) := by simp [World.cell?, show w.heap[b]? = _ from h]
theorem Bxr.fz {w : World} {b : Nat} {n d : Int} (h : Bxr w b n d) (k : Nat) : w.frozen? ⟨b, k, none⟩ = false := by simp [World.frozen?, show w.heap[b]? = _ from h]
theorem Bxr.to {w w' : World} {b : Nat} {n d : Int} (h : Bxr w b n d) (hb : w'.heap[b]? = w.heap[b]?) : Bxr w' b n d := hb.trans h
theorem Bxr.up {w w' : World} {b : Nat} {n d : Int} (h : Bxr w b n d) (hb : Below w.heap.size w w') : Bxr w' b n d := h.to (hb.block b h.lt)
theorem Bxr.set {w : World} {b : Nat} {n d : Int} (h : Bxr w b n d) (n' d' : Int) : Bxr ((w.setCell ⟨b, 0, none⟩ (.int .i64 n')).setCell ⟨b, 1, none⟩ (.int .i64 d')) b n' d' := by
  unfold Bxr at *
  simp [World.setCell, Array.getElem?_modify, h]
theorem set2_far {X : World} {b g : Nat} (h : g ≠ b) (v0 v1 : Value) : ((X.setCell ⟨b, 0, none⟩ v0).setCell ⟨b, 1, none⟩ v1).heap[g]? = X.heap[g]? := by
  have h' : ¬ b = g := fun e => h e.symm
  simp [World.setCell, Array.getElem?_modify, h']
theorem set2_below {B : Nat} {w X : World} {b : Nat} (h : Below B w X) (hb : B ≤ b) (v0 v1 : Value) : Below B w ((X.setCell ⟨b, 0, none⟩ v0).setCell ⟨b, 1, none⟩ v1) := (h.setCell hb v0).setCell hb v1

set_option maxRecDepth 100000 in
set_option maxHeartbeats 2000000 in
theorem rate_any (h m : Nat) (last : Int) (w : World) (h1 : 1 ≤ h) (h2 : h ≤ 2000) (m2 : m ≤ 2000) :
    Calls Try.prog 69 #[.agg #[.int .i64 h, .int .i64 m, .int .i64 last]] w fun e w' => e = .returned (.agg #[.int .i64 (m / Nat.gcd m h : Nat), .int .i64 (h / Nat.gcd m h : Nat)]) ∧ Below w.heap.size w w' := by
  have hg1 : 1 ≤ Nat.gcd m h := Nat.gcd_pos_of_pos_right _ h1
  have k87 := fun X => divisor_any m h X m2 h2
  have hp := Bxp.new w h m last
  have hb0 := ba1 w (.cells #[.int .i64 h, .int .i64 m, .int .i64 last] 74)
  have hr := Bxr.new (w.alloc (.cells #[.int .i64 h, .int .i64 m, .int .i64 last] 74)) 0 0
  rw [show (w.alloc (.cells #[.int .i64 h, .int .i64 m, .int .i64 last] 74)).heap.size = w.heap.size + 1 by simp] at hr
  have hp2 := hp.up (ba1 _ (.cells #[.int .i64 0, .int .i64 0] 40))
  have hb2 := bel_trans hb0 (ba1 (w.alloc (.cells #[.int .i64 h, .int .i64 m, .int .i64 last] 74)) (.cells #[.int .i64 0, .int .i64 0] 40))
  generalize hgg : Nat.gcd m h = g at *
  have td1 := tdiv_nat m g
  have td2 := tdiv_nat h g
  have q1 : m / g ≤ m := Nat.div_le_self _ _
  have q2 : h / g ≤ h := Nat.div_le_self _ _
  generalize m / g = N at *
  generalize h / g = D at *
  have g1 : ¬ ((g : Int) = 0) := by omega
  have g2 : ¬ (g = 0) := by omega
  have g3 : (1 : Int) ≤ (g : Int) := by omega
  obtain ⟨Y, hY⟩ : ∃ Y, Y = (w.alloc (.cells #[.int .i64 h, .int .i64 m, .int .i64 last] 74)).alloc (.cells #[.int .i64 0, .int .i64 0] 40) := ⟨_, rfl⟩
  rw [← hY] at hp2 hr hb2
  have kk := Lib.hid (k87 Y)
  clear k87
  replace hY := Lib.hid hY
  replace hgg := Lib.hid hgg
  replace hp := Lib.hid hp
  replace hb0 := Lib.hid hb0
  replace hp2 := Lib.hid hp2
  replace hr := Lib.hid hr
  replace hb2 := Lib.hid hb2
  go_enter Try.func69, Try.ntmps69
  go_wp2_with fail
  rw [← hY.out]
  refine kk.out.mono ?_
  rintro e X ⟨rfl, n0, hX⟩
  have hpX : Bxp X w.heap.size h m last := by rw [hX]; exact hp2.out.to rfl
  have hrX : Bxr X (w.heap.size + 1) 0 0 := by rw [hX]; exact hr.out.to rfl
  have hbX : Below w.heap.size w X := by rw [hX]; exact below_drewN hb2.out n0
  clear hX
  have p0 := hpX.c0
  have p1 := hpX.c1
  have r0 := hrX.c0
  have r1 := hrX.c1
  have f0 := hrX.fz 0
  have f1 := hrX.fz 1
  have rl := hrX.lt
  have y := hrX.set (N : Nat) (D : Nat)
  have y0 := y.c0
  have y1 := y.c1
  have hend := Lib.hid (below_drewN (set2_below hbX (Nat.le_succ w.heap.size) (.int .i64 (N : Nat)) (.int .i64 (D : Nat))) 1)
  replace y := Lib.hid y
  replace hpX := Lib.hid hpX
  replace hrX := Lib.hid hrX
  replace hbX := Lib.hid hbX
  go_wp2_with fail
  go_region
  all_goals
    go_wp2
    exact bodyPost_ret (v := .agg #[.int .i64 (N : Nat), .int .i64 (D : Nat)]) (by simp [results, Try.results69, go_sem, y0, y1]) rfl ⟨rfl, hend.out⟩

set_option maxRecDepth 100000 in
set_option maxHeartbeats 4000000 in
theorem ratio_ref (m h : Nat) (w : World) (h1 : 1 ≤ h) (h2 : h ≤ 2000) (m2 : m ≤ 2000) :
    Calls Try.prog 71 #[.int .i64 m, .int .i64 h] w fun e w' => e = .returned (.agg #[.int .i64 (m / Nat.gcd m h : Nat), .int .i64 (h / Nat.gcd m h : Nat)]) ∧ Below w.heap.size w w' := by
  have hend : ∀ n d k, Rin m h n d k → d < k → n = m / Nat.gcd m h ∧ d = h / Nat.gcd m h := fun n d k hh hk => rin_end hh hk
  obtain ⟨N, hN⟩ : ∃ N, N = m / Nat.gcd m h := ⟨_, rfl⟩
  obtain ⟨D, hD⟩ : ∃ D, D = h / Nat.gcd m h := ⟨_, rfl⟩
  rw [← hN, ← hD] at hend ⊢
  have hr := Bxr.new w 0 0
  have hb0 := ba1 w (.cells #[.int .i64 0, .int .i64 0] 40)
  have hz := Lib.hid (rin_zero (N := m) h1)
  replace hN := Lib.hid hN
  replace hD := Lib.hid hD
  replace hend := Lib.hid hend
  replace hr := Lib.hid hr
  replace hb0 := Lib.hid hb0
  go_enter Try.func71, Try.ntmps71
  go_wp2
  go_loopw [0, 1, 5] (fun a b i X => ∃ n d k : Nat, a = .int .i64 (n : Nat) ∧ b = .int .i64 (d : Nat) ∧ i = .int .i64 (k : Nat) ∧ 2 ≤ k ∧ k ≤ 2001 ∧ Rin m h n d k ∧ Below w.heap.size w X ∧ Bxr X w.heap.size 0 0) (fun _ b i _ => (2002 - (intOf i).toNat) * 1)
  case atStart => exact ⟨m, h, 2, rfl, rfl, rfl, by omega, by omega, hz.out, hb0.out, hr.out⟩
  case round =>
    clear hz hb0 hr
    obtain ⟨n, d, k, rfl, rfl, rfl, hk2, hk9, hR, hX, hr⟩ := hrel
    obtain ⟨n9, d9⟩ := rin_le hR
    by_cases hkd : k ≤ d
    · have hR0 := Lib.hid hR
      have hX0 := Lib.hid hX
      have hr0 := Lib.hid hr
      have hpos := hR.pos
      clear hR hX hr
      have hd2001 : k ≤ 2000 := by omega
      go_wp2
      go_loopw [0, 1] (fun a b X => ∃ n d : Nat, a = .int .i64 (n : Nat) ∧ b = .int .i64 (d : Nat) ∧ Rin m h n d k ∧ Below w.heap.size w X ∧ Bxr X w.heap.size 0 0) (fun _ b _ => (intOf b).toNat)
      case atStart => exact ⟨n, d, rfl, rfl, hR0.out, hX0.out, hr0.out⟩
      case round =>
        clear hR0 hX0 hr0 hkd hpos n9 d9
        obtain ⟨n, d, rfl, rfl, hR, hX, hr⟩ := hrel
        obtain ⟨n9, d9⟩ := rin_le hR
        have hk0 : ¬ ((k : Int) = 0) := by omega
        have hk0' : ¬ (k = 0) := by omega
        have hk1 : (1 : Int) ≤ (k : Int) := by omega
        have tm1 : ((n : Nat) : Int).tmod (k : Int) = ((n % k : Nat) : Int) := rfl
        have tm2 : ((d : Nat) : Int).tmod (k : Int) = ((d % k : Nat) : Int) := rfl
        have td1 := tdiv_nat n k
        have td2 := tdiv_nat d k
        have hdv := fun a b => rin_div hR hk2 a b
        have hlt := rin_lt hR hk2
        have hnx := fun a => rin_next hR a
        have hq1 : n / k ≤ n := Nat.div_le_self _ _
        have hq2 : d / k ≤ d := Nat.div_le_self _ _
        by_cases c1 : n % k = 0
        · rw [c1] at tm1
          by_cases c2 : d % k = 0
          · rw [c2] at tm2
            have hR2 := Lib.hid (hdv c1 c2)
            clear hdv hnx
            generalize n / k = n' at *
            generalize d / k = d' at *
            have hX2 := Lib.hid (fun j => below_drewN hX j)
            have hr2 := Lib.hid (fun j => show Bxr (wr.drewN j) w.heap.size 0 0 from hr.to rfl)
            replace hR := Lib.hid hR
            replace hX := Lib.hid hX
            replace hr := Lib.hid hr
            replace c1 := Lib.hid c1
            replace c2 := Lib.hid c2
            go_wp2_with fail
            go_quiet (fail)
            go_wp2
            go_roundw
            case rel => exact ⟨n', d', rfl, rfl, hR2.out, hX2.out _, hr2.out _⟩
            case measure => simp [intOf]; omega
          · have hR2 := Lib.hid (hnx (fun hh => c2 hh.2))
            have t2 : ((((d % k : Nat) : Int)) == 0) = false := by rw [beq_eq_false_iff_ne]; omega
            clear hdv hnx
            replace hR := Lib.hid hR
            replace hX := Lib.hid hX
            replace hr := Lib.hid hr
            replace c1 := Lib.hid c1
            generalize d % k = z at *
            go_wp2
            go_roundw
            case rel => exact ⟨n, d, k + 1, rfl, rfl, by go_num, by omega, by omega, hR2.out, hX.out, hr.out⟩
            case measure => simp [intOf]; omega
        · have hR2 := Lib.hid (hnx (fun hh => c1 hh.1))
          have t1 : ((((n % k : Nat) : Int)) == 0) = false := by rw [beq_eq_false_iff_ne]; omega
          clear hdv hnx
          replace hR := Lib.hid hR
          replace hX := Lib.hid hX
          replace hr := Lib.hid hr
          generalize n % k = z at *
          go_wp2
          go_roundw
          case rel => exact ⟨n, d, k + 1, rfl, rfl, by go_num, by omega, by omega, hR2.out, hX.out, hr.out⟩
          case measure => simp [intOf]; omega
    · obtain ⟨rfl, rfl⟩ := hend.out n d k hR (by omega)
      have r0 := hr.c0
      have r1 := hr.c1
      have f0 := hr.fz 0
      have f1 := hr.fz 1
      have rl := hr.lt
      have y := hr.set (n : Nat) (d : Nat)
      have y0 := y.c0
      have y1 := y.c1
      have hfin := Lib.hid (set2_below hX (Nat.le_refl w.heap.size) (.int .i64 (n : Nat)) (.int .i64 (d : Nat)))
      replace y := Lib.hid y
      replace hR := Lib.hid hR
      replace hX := Lib.hid hX
      replace hr := Lib.hid hr
      go_wp2
      exact bodyPost_ret (v := .agg #[.int .i64 (n : Nat), .int .i64 (d : Nat)]) (by simp [results, Try.results71, go_sem, y0, y1]) rfl ⟨rfl, hfin.out⟩
end Go.Proofs.Ytgjgpcpghglnnaa
