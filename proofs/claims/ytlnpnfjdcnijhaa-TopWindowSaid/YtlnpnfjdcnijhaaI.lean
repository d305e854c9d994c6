/-
  Whether what divides two lengths divides how far two rounds are apart (the law's own function); hours in all rounds.
-/
import Derived.Test.YtlnpnfjdcnijhaaH
import Derived.Test.YtlnpnfjdcnijhaaMathC
namespace Go.Proofs.Ytlnpnfjdcnijhaa
open Go.RowKit Go.Deep M
set_option linter.unusedVariables false
set_option linter.unusedSimpArgs false

set_option maxHeartbeats 2000000 in
theorem divides_any (a e b n : Nat) (w : World) (ha : a < e) (he : e ≤ 1000) (hb : b < n) (hn : n ≤ 1000) :
    Calls Try.prog 62 #[rdN a e, rdN b n] w fun x w' => x = .returned (.bool (!nevN a e b n)) ∧ Below w.heap.size w w' := by
  have hb1 := ba1 w (.cells #[.int .i64 (a : Int), .int .i64 (e : Int)] 68)
  have hb2 := hb1.trans ((ba1 (w.alloc (.cells #[.int .i64 (a : Int), .int .i64 (e : Int)] 68)) (.cells #[.int .i64 (b : Int), .int .i64 (n : Int)] 68)).mono hb1.size)
  have hx1 := (Bx2.new w ⟨a, e⟩).up (ba1 _ (.cells #[.int .i64 (b : Int), .int .i64 (n : Int)] 68))
  have hx2 := Bx2.new (w.alloc (.cells #[.int .i64 (a : Int), .int .i64 (e : Int)] 68)) ⟨b, n⟩
  rw [show (w.alloc (.cells #[.int .i64 (a : Int), .int .i64 (e : Int)] 68)).heap.size = w.heap.size + 1 by simp] at hx2
  have c0 := hx1.c0
  have c1 := hx1.c1
  have d0 := hx2.c0
  have d1 := hx2.c1
  simp only [] at c0 c1 d0 d1
  have hv : (!nevN a e b n) = (((a : Int) - b).tmod ((Nat.gcd e n : Nat) : Int) == 0) := by unfold nevN; rw [Bool.eq_iff_iff]; simp
  rw [hv]
  clear hv
  have hg := gcd_pos (n := n) (show 1 ≤ e by omega)
  obtain ⟨g, hgg⟩ : ∃ g, Nat.gcd e n = g := ⟨_, rfl⟩
  rw [hgg] at hg ⊢
  have hg0 : ¬ ((g : Int) = 0) := by omega
  have hg1 : (1 : Int) ≤ (g : Int) := by omega
  have hgl : g ≤ 1000 := by have := Nat.gcd_le_left n (show 0 < e by omega); omega
  unfold rdN
  replace hgg := Lib.hid hgg
  obtain ⟨W, hW⟩ : ∃ W, W = (w.alloc (.cells #[.int .i64 (a : Int), .int .i64 (e : Int)] 68)).alloc (.cells #[.int .i64 (b : Int), .int .i64 (n : Int)] 68) := ⟨_, rfl⟩
  have hWd : SeW w w.heap.size ⟨a, e⟩ W := by rw [hW]; exact ⟨hb2, hx1⟩
  have hx2' : Bx2 W (w.heap.size + 1) ⟨b, n⟩ := by rw [hW]; exact hx2
  replace hx1 := Lib.hid hx1
  replace hx2 := Lib.hid hx2
  replace hx2' := Lib.hid hx2'
  replace hb1 := Lib.hid hb1
  replace hb2 := Lib.hid hb2
  replace hWd := Lib.hid hWd
  go_enter Try.func62, Try.ntmps62
  go_wp2_with fail
  go_quiet (fail)
  go_wp2
  rw [← hW]
  clear c0 c1 d0 d1 hW hx1 hx2 hb1 hb2
  go_loopw [5, 6] (fun x y wr => ∃ i j k : Nat, x = .int .i64 i ∧ y = .int .i64 j ∧ i ≤ 1000 ∧ j ≤ 1000 ∧ Nat.gcd i j = g ∧ wr = W.drewN k) (fun _ y _ => (intOf y).toNat)
  case atStart => exact ⟨e, n, nq, rfl, rfl, he, hn, hgg.out, rfl⟩
  case round =>
    obtain ⟨i, j, k, rfl, rfl, hi, hj, hgg', hw⟩ := hrel
    have f1 : SeW w w.heap.size ⟨a, e⟩ wr := by rw [hw]; exact hWd.out.drewN k
    have f2 : Bx2 wr (w.heap.size + 1) ⟨b, n⟩ := by rw [hw]; exact hx2'.out
    replace hw := Lib.hid hw
    have c0 := f1.box.c0
    have c1 := f1.box.c1
    have d0 := f2.c0
    have d1 := f2.c1
    simp only [] at c0 c1 d0 d1
    replace f2 := Lib.hid f2
    by_cases h0 : j = 0
    · subst h0
      rw [Nat.gcd_zero_right] at hgg'
      subst hgg'
      have h0' : (((0 : Nat) : Int) != 0) = false := by simp
      replace f1 := Lib.hid f1
      go_wp2
      go_ret
      exact ⟨rfl, f1.out.below⟩
    · have h0' : ((j : Int) != 0) = true := by simp; omega
      have h1 : ¬ ((j : Int) = 0) := by omega
      have h2 : (1 : Int) ≤ (j : Int) := by omega
      have hmm : i % j < j := Nat.mod_lt _ (by omega)
      have hst := Lib.hid ((gcd_step i j).symm.trans hgg')
      have hee : ((i : Int)).tmod (j : Int) = ((i % j : Nat) : Int) := rfl
      clear hgg'
      replace f1 := Lib.hid f1
      replace hg0 := Lib.hid hg0
      replace hg1 := Lib.hid hg1
      go_wp2_with fail
      go_quiet (fail)
      go_wp2
      try rw [hee]
      go_roundw
      case rel => exact ⟨j, i % j, k + nq, rfl, rfl, hj, by omega, hst.out, by rw [hw.out, World.drewN_drewN]⟩
      case measure => simp [intOf]; omega

namespace M
/-- The answers of Hits at whole numbers. -/
theorem inB_iff {l : List Rd} (hv : vR l) (h : Nat) : inB l (h : Int) = true ↔ InN l h l.length := by
  unfold inB
  rw [decide_eq_true_iff]
  unfold InK InN
  constructor
  · intro hh i hi
    obtain ⟨⟨g1, g2⟩, g3, g4⟩ := hv.2 i hi
    have h1 := hh i hi
    obtain ⟨a, ha⟩ := Int.eq_ofNat_of_zero_le g3
    obtain ⟨e, he⟩ := Int.eq_ofNat_of_zero_le (show 0 ≤ (rd l i).e by omega)
    rw [ha, he] at h1 ⊢
    rw [Int.toNat_natCast, Int.toNat_natCast]
    have h2 : ((h % e : Nat) : Int) = (a : Int) := h1
    omega
  · intro hh i hi
    obtain ⟨⟨g1, g2⟩, g3, g4⟩ := hv.2 i hi
    have h1 := hh i hi
    obtain ⟨a, ha⟩ := Int.eq_ofNat_of_zero_le g3
    obtain ⟨e, he⟩ := Int.eq_ofNat_of_zero_le (show 0 ≤ (rd l i).e by omega)
    rw [ha, he] at h1 ⊢
    rw [Int.toNat_natCast, Int.toNat_natCast] at h1
    have h2 : ((h % e : Nat) : Int) = (a : Int) := by rw [h1]
    exact h2
theorem hits_yes {l : List Rd} (hv : validR l = true) {A M : Nat} (hm : meetN l l.length = some (A, M)) (h : Nat) (hh : h % M = A) : hitsR l (h : Int) = (true, 0) := by
  have hvr := validR_iff.1 hv
  obtain ⟨_, hin⟩ := (meetN_spec hvr l.length (Nat.le_refl _)).1 A M hm
  unfold hitsR
  rw [hv, if_pos rfl, if_pos (by omega), (inB_iff hvr h).2 ((hin h).2 hh)]
theorem hits_no {l : List Rd} (hv : validR l = true) {A M : Nat} (hm : meetN l l.length = some (A, M)) (h : Nat) (hh : h % M ≠ A) : hitsR l (h : Int) = (false, 0) := by
  have hvr := validR_iff.1 hv
  obtain ⟨_, hin⟩ := (meetN_spec hvr l.length (Nat.le_refl _)).1 A M hm
  have hf : inB l (h : Int) = false := by
    cases hb : inB l (h : Int) with
    | false => rfl
    | true => exact absurd ((hin h).1 ((inB_iff hvr h).1 hb)) hh
  unfold hitsR
  rw [hv, if_pos rfl, if_pos (by omega), hf]
/-- What Never answers where rounds meet, and where they don't. -/
theorem never_some {l : List Rd} (hv : validR l = true) {A M : Nat} (hm : meetN l l.length = some (A, M)) {r : Int × Int × Int} (h : NevP l r) : r = (0, 0, 5) := by
  have hvr := validR_iff.1 hv
  rcases h with ⟨v, rfl⟩ | ⟨v, i, k, ⟨h1, h2⟩, h3, h4, h5, rfl⟩ | ⟨v, h1, rfl⟩
  · rw [hv] at v; cases v
  · have := meet_pairs hvr hm (i := i) (k := k) (by omega) h2
    unfold nvB at h3
    rw [this] at h3; cases h3
  · rfl
theorem never_none {l : List Rd} (hv : validR l = true) (hm : meetN l l.length = none) {r : Int × Int × Int} (h : NevP l r) : ∃ i k : Nat, (i < k ∧ k < l.length) ∧ nvB l i k = true ∧ r = ((i : Int), (k : Int), 0) := by
  have hvr := validR_iff.1 hv
  rcases h with ⟨v, rfl⟩ | ⟨v, i, k, h1, h3, h4, h5, rfl⟩ | ⟨v, h1, rfl⟩
  · rw [hv] at v; cases v
  · exact ⟨i, k, h1, h3, rfl⟩
  · exact absurd hm (pairs_meet hvr (fun i k hik hk => h1 i k (by omega) hik hk) l.length (Nat.le_refl _))
end M
end Go.Proofs.Ytlnpnfjdcnijhaa
