/-
  Where a list of rounds meets, by the program; the sanity check of every statement.
-/
import Derived.Test.YtlnpnfjdcnijhaaB
namespace Go.Proofs.Ytlnpnfjdcnijhaa
open Go.RowKit Go.Deep M
set_option linter.unusedVariables false
set_option linter.unusedSimpArgs false

/-! ### where a list of rounds meets -/
def M3 (t : Int × Int × Int) : Value := .tuple #[.int .i64 t.1, .int .i64 t.2.1, .int .i64 t.2.2]
theorem meetR_bad {l : List Rd} (h : validR l = false) : meetR l = (0, 0, 51) := by unfold meetR; rw [h]; simp
theorem meetR_none {l : List Rd} (h : validR l = true) {k : Nat} (hk : k ≤ l.length) (hn : meetN l k = none) : meetR l = (0, 0, 5) := by
  unfold meetR; rw [h, if_pos rfl, meetN_none hn _ hk]
theorem meetR_some {l : List Rd} (h : validR l = true) {A M : Nat} (hn : meetN l l.length = some (A, M)) : meetR l = ((A : Int), (M : Int), 0) := by
  unfold meetR; rw [h, if_pos rfl, hn]
theorem meetN_step {l : List Rd} {k A M b n : Nat} (h : meetN l k = some (A, M)) (hb : (rd l k).a = (b : Int)) (hn : (rd l k).e = (n : Int)) :
    meetN l (k + 1) = match fstK A M b n with | none => none | some q => some (A + q * M, mulN M n) := by
  show stp (meetN l k) (rd l k) = _
  rw [h]
  unfold stp
  simp only [hb, hn, Int.toNat_natCast]
  cases fstK A M b n <;> rfl

/-- The world in which Meet runs. -/
structure MeW (w : World) (bx : Nat) (A M : Nat) (X : World) : Prop where
  below : Below w.heap.size w X
  box : Bx2 X bx ⟨A, M⟩
  ge : w.heap.size ≤ bx
theorem MeW.up {w X Y : World} {bx A M : Nat} (h : MeW w bx A M X) (hb : Below X.heap.size X Y) : MeW w bx A M Y := ⟨h.below.trans (hb.mono h.below.size), h.box.up hb, h.ge⟩
theorem MeW.set {w X : World} {bx A M : Nat} (h : MeW w bx A M X) (A' M' : Nat) : MeW w bx A' M' ((X.setCell ⟨bx, 0, none⟩ (.int .i64 (A' : Int))).setCell ⟨bx, 1, none⟩ (.int .i64 (M' : Int))) :=
  ⟨(h.below.setCell h.ge _).setCell h.ge _, h.box.set ⟨A', M'⟩, h.ge⟩

set_option maxRecDepth 100000 in
set_option maxHeartbeats 2000000 in
theorem Meet_any (B : Nat) (A : Option Addr) (c : Nat) (l : List Rd) (w : World) (h : Rds w B A l) (hB : B ≤ w.heap.size) :
    Calls Try.prog 49 #[.slice A l.length c] w fun e w' => e = .returned (M3 (meetR l)) ∧ Below w.heap.size w w' := by
  have h63 := h.1
  have hc := checked_any B A c l true w h hB
  cases hv : validR l with
  | false =>
    rw [meetR_bad hv]
    have he : errR l true = 51 := by unfold errR; rw [hv]; simp
    rw [he] at hc
    replace hc := Lib.hid hc
    replace hv := Lib.hid hv
    unfold M3
    go_enter Try.func49, Try.ntmps49
    go_wp2_with fail
    refine hc.out.mono ?_
    rintro e w1 ⟨rfl, hb1⟩
    go_wp2
    exact bodyPost_ret (v := .tuple #[.int .i64 0, .int .i64 0, .int .i64 51]) (by simp [results, Try.results49, go_sem]) rfl ⟨rfl, hb1⟩
  | true =>
    have he : errR l true = 0 := by unfold errR; rw [hv]; simp
    rw [he] at hc
    have hvr := validR_iff.1 hv
    have hnone := fun k (hk : k ≤ l.length) => meetR_none hv hk
    have hdone := fun A M => @meetR_some l hv A M
    generalize meetR l = R at *
    obtain ⟨R1, R2, R3⟩ := R
    unfold M3
    simp only []
    replace hc := Lib.hid hc
    replace hv := Lib.hid hv
    replace hvr := Lib.hid hvr
    replace hnone := Lib.hid hnone
    replace hdone := Lib.hid hdone
    go_enter Try.func49, Try.ntmps49
    go_wp2_with fail
    refine hc.out.mono ?_
    rintro e w1 ⟨rfl, hb1⟩
    have hW : MeW w w1.heap.size 0 1 (w1.alloc (.cells #[.int .i64 0, .int .i64 1] 68)) := ⟨hb1.trans ((ba1 _ _).mono hb1.size), Bx2.new w1 ⟨0, 1⟩, hb1.size⟩
    replace hW := Lib.hid hW
    replace hb1 := Lib.hid hb1
    go_wp2
    go_loopw [19] (fun v wr => ∃ k A' M', k ≤ l.length ∧ v = .int .i64 (k : Nat) ∧ meetN l k = some (A', M') ∧ Met l k A' M' ∧ MeW w w1.heap.size A' M' wr) (fun v _ => l.length - (intOf v).toNat)
    case atStart => exact ⟨0, 0, 1, Nat.zero_le _, rfl, rfl, met_zero l, hW.out⟩
    case round =>
      obtain ⟨k, A', M', hk, rfl, hmn, hmet, hw⟩ := hrel
      have f0 := hw.box.c0
      have f1 := hw.box.c1
      simp only [] at f0 f1
      have hbl := hw.box.lt
      by_cases hlt : k < l.length
      · have hrow := h.below (hw.below.mono hB)
        obtain ⟨bb, o, rfl, hbb, hc0, hc1⟩ := hrow.at_ k hlt
        obtain ⟨⟨g1, g2⟩, g3, g4⟩ := hvr.out.2 k hlt
        obtain ⟨b, hb⟩ := Int.eq_ofNat_of_zero_le g3
        obtain ⟨n, hn⟩ := Int.eq_ofNat_of_zero_le (show 0 ≤ (rd l k).e by omega)
        have hstep := meetN_step hmn hb hn
        rw [hb] at hc0
        rw [hn] at hc1
        have hx := Bx2.new wr ⟨b, n⟩
        simp only [] at hx
        have hw1 := hw.up (ba1 wr (.cells #[.int .i64 (b : Int), .int .i64 (n : Int)] 68))
        have e0 := hw1.box.c0
        have e1 := hw1.box.c1
        have d0 := hx.c0
        have d1 := hx.c1
        simp only [] at e0 e1 d0 d1
        have hmt := meeting_any A' M' b n (wr.alloc (.cells #[.int .i64 (b : Int), .int .i64 (n : Int)] 68)) hmet.lt (hmet.le (by have := hvr.out.1.2; omega)) (by omega) (by omega)
        have hmet2 : ∀ q, fstK A' M' b n = some q → Met l (k + 1) (A' + q * M') (mulN M' n) := fun q hq => by
          have := met_step hmet hvr.out hlt (q := q) (by rw [hb, hn, Int.toNat_natCast, Int.toNat_natCast]; exact hq)
          rwa [hn, Int.toNat_natCast] at this
        unfold meetV at hmt
        cases hf : fstK A' M' b n with
        | none =>
          rw [hf] at hmt hstep
          have hR := hnone.out (k + 1) (by omega) hstep
          obtain ⟨rfl, rfl, rfl⟩ : R1 = 0 ∧ R2 = 0 ∧ R3 = 5 := by simpa using hR
          clear hR hstep hmet2 hmet hmn g1 g2 g3 g4 hb hn f0 f1 hbl
          replace hw := Lib.hid hw
          replace hw1 := Lib.hid hw1
          replace hmt := Lib.hid hmt
          replace hf := Lib.hid hf
          replace hx := Lib.hid hx
          replace hrow := Lib.hid hrow
          go_wp2_with fail
          refine hmt.out.mono ?_
          rintro e w2 ⟨rfl, hb2⟩
          have hw2 := hw1.out.up hb2
          have hb3 := hw2.below.trans ((ba1 w2 (.cells #[.int .i64 0, .int .i64 0] 68)).mono hw2.below.size)
          replace hw2 := Lib.hid hw2
          go_wp2
          exact bodyPost_ret (v := .tuple #[.int .i64 0, .int .i64 0, .int .i64 5]) (by simp [results, Try.results49, go_sem]) rfl ⟨rfl, hb3⟩
        | some q =>
          rw [hf] at hmt hstep
          simp only [] at hmt hstep
          have hm2 := hmet2 q hf
          obtain ⟨A2, hA2⟩ : ∃ A2, A2 = A' + q * M' := ⟨_, rfl⟩
          obtain ⟨M2, hM2⟩ : ∃ M2, M2 = mulN M' n := ⟨_, rfl⟩
          rw [← hA2, ← hM2] at hmt hstep hm2
          clear hmet2 hmet hmn g1 g2 g3 g4 hb hn f0 f1 hbl hA2 hM2
          replace hw := Lib.hid hw
          replace hw1 := Lib.hid hw1
          replace hmt := Lib.hid hmt
          replace hf := Lib.hid hf
          replace hx := Lib.hid hx
          replace hrow := Lib.hid hrow
          replace hstep := Lib.hid hstep
          replace hm2 := Lib.hid hm2
          go_wp2_with fail
          refine hmt.out.mono ?_
          rintro e w2 ⟨rfl, hb2⟩
          have hw2 := (hw1.out.up hb2).up (ba1 w2 (.cells #[.int .i64 (A2 : Int), .int .i64 (M2 : Int)] 68))
          have hy := Bx2.new w2 ⟨A2, M2⟩
          simp only [] at hy
          have y0 := hy.c0
          have y1 := hy.c1
          have z0 := hw2.box.fz 0
          have z1 := hw2.box.fz 1
          have z2 := hw2.box.c0
          have z3 := hw2.box.c1
          simp only [] at y0 y1 z2 z3
          have hw3 := hw2.set A2 M2
          replace hw2 := Lib.hid hw2
          replace hw3 := Lib.hid hw3
          replace hy := Lib.hid hy
          go_wp2
          go_roundw
          case rel => exact ⟨k + 1, A2, M2, by omega, by go_num, hstep.out, hm2.out, hw3.out⟩
          case measure => simp [intOf]; omega
      · have hk' : k = l.length := by omega
        subst hk'
        have hR := hdone.out _ _ hmn
        obtain ⟨rfl, rfl, rfl⟩ : R1 = A' ∧ R2 = M' ∧ R3 = 0 := by simpa using hR
        clear hR
        have htop := hmet.top
        have hAM := hmet.lt
        replace hw := Lib.hid hw
        replace hmet := Lib.hid hmet
        replace hmn := Lib.hid hmn
        go_wp2_with fail
        go_quiet (fail)
        go_wp2
        exact bodyPost_ret (v := .tuple #[.int .i64 A', .int .i64 M', .int .i64 0]) (by simp [results, Try.results49, go_sem]) rfl ⟨rfl, below_drewN hw.out.below nq⟩
/-! ### the sanity check -/
theorem rds3 (w : World) : Rds (w.alloc (.cells #[.int .i64 2, .int .i64 3, .int .i64 3, .int .i64 5, .int .i64 2, .int .i64 7] 68)) (w.heap.size + 1) (some ⟨w.heap.size, 0, none⟩) [⟨2, 3⟩, ⟨3, 5⟩, ⟨2, 7⟩] :=
  ⟨by simp, fun _ => ⟨w.heap.size, 0, rfl, by omega, fun i hi => by
    have hi : i = 0 ∨ i = 1 ∨ i = 2 := by simp at hi; omega
    rcases hi with rfl | rfl | rfl <;> simp [go_sem, rd]⟩⟩
set_option maxHeartbeats 1000000 in
theorem awake_any (w : World) : Calls Try.prog 19 #[] w fun e w' => e = .returned (.bool true) ∧ Below w.heap.size w w' := by
  have hm := Meet_any (w.heap.size + 1) _ 3 [⟨2, 3⟩, ⟨3, 5⟩, ⟨2, 7⟩] _ (rds3 w) (by simp)
  have e2 : meetR [⟨2, 3⟩, ⟨3, 5⟩, ⟨2, 7⟩] = (23, 105, 0) := by decide +kernel
  rw [e2] at hm
  unfold M3 at hm
  simp only [] at hm
  replace hm := Lib.hid hm
  have hb0 := ba1 w (.cells #[.int .i64 2, .int .i64 3, .int .i64 3, .int .i64 5, .int .i64 2, .int .i64 7] 68)
  go_enter Try.func19, Try.ntmps19
  go_wp2_with fail
  refine hm.out.mono ?_
  rintro e w1 ⟨rfl, hb1⟩
  go_wp2
  go_ret
  exact ⟨rfl, hb0.trans (hb1.mono hb0.size)⟩
end Go.Proofs.Ytlnpnfjdcnijhaa
