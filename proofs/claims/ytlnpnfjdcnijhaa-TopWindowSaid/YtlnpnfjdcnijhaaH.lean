/-
  Whether an hour is in all rounds (the specification); whether two rounds of a list never meet, by both.
-/
import Derived.Test.YtlnpnfjdcnijhaaF
import Derived.Test.YtlnpnfjdcnijhaaG
namespace Go.Proofs.Ytlnpnfjdcnijhaa
open Go.RowKit Go.Deep M
set_option linter.unusedVariables false
set_option linter.unusedSimpArgs false

set_option maxHeartbeats 1000000 in
theorem Hits_ref (B : Nat) (A : Option Addr) (c : Nat) (l : List Rd) (hour : Int) (w : World) (h : Rds w B A l) (hB : B ≤ w.heap.size) (hh : hour ≤ 9223372036854775807) :
    Calls Try.prog 56 #[.slice A l.length c, .int .i64 hour] w fun e w' => e = .returned (.tuple #[.bool (hitsR l hour).1, .int .i64 (hitsR l hour).2]) ∧ Below w.heap.size w w' := by
  have h63 := h.1
  have hc := AreRounds_ref B A c l w h hB
  cases hv : validR l with
  | false =>
    have hR : hitsR l hour = (false, 51) := by unfold hitsR; rw [hv]; simp
    rw [hR]
    rw [hv] at hc
    replace hc := Lib.hid hc
    replace hv := Lib.hid hv
    replace hR := Lib.hid hR
    go_enter Try.func56, Try.ntmps56
    go_wp2_with fail
    refine hc.out.mono ?_
    rintro e w1 ⟨rfl, hb1⟩
    go_wp2
    go_ret2
    exact ⟨rfl, hb1⟩
  | true =>
    have hvr := validR_iff.1 hv
    rw [hv] at hc
    by_cases h0 : hour < 0
    · have hR : hitsR l hour = (false, 2) := by unfold hitsR; rw [hv]; simp; omega
      rw [hR]
      replace hc := Lib.hid hc
      replace hv := Lib.hid hv
      replace hR := Lib.hid hR
      replace hvr := Lib.hid hvr
      go_enter Try.func56, Try.ntmps56
      go_wp2_with fail
      refine hc.out.mono ?_
      rintro e w1 ⟨rfl, hb1⟩
      go_wp2
      go_ret2
      exact ⟨rfl, hb1⟩
    · have hR : hitsR l hour = (inB l hour, 0) := by unfold hitsR; rw [hv]; simp; omega
      have hh0 : 0 ≤ hour := by omega
      rw [hR]
      replace hc := Lib.hid hc
      replace hv := Lib.hid hv
      replace hR := Lib.hid hR
      replace hvr := Lib.hid hvr
      go_enter Try.func56, Try.ntmps56
      go_wp2_with fail
      refine hc.out.mono ?_
      rintro e w1 ⟨rfl, hb1⟩
      replace hb1 := Lib.hid hb1
      go_wp2
      go_loopw [15] (fun i wr => ∃ k : Nat, k ≤ l.length ∧ i = .int .i64 k ∧ InK l hour k ∧ Below w.heap.size w wr) (fun i _ => l.length - (intOf i).toNat)
      case atStart => exact ⟨0, Nat.zero_le _, rfl, inK_zero _ _, hb1.out⟩
      case round =>
        obtain ⟨k, hk, rfl, hel, hbw⟩ := hrel
        have hr := h.below (hbw.mono hB)
        have hel := Lib.hid hel
        by_cases hlt : k < l.length
        · obtain ⟨b, o, rfl, hb, hc0, hc1⟩ := hr.at_ k hlt
          obtain ⟨⟨g1, g2⟩, g3, g4⟩ := hvr.out.2 k hlt
          have hx := Bx2.new wr (rd l k)
          have d0 := hx.c0
          have d1 := hx.c1
          have hb2 := Lib.hid (hbw.trans ((ba1 wr (.cells #[.int .i64 (rd l k).a, .int .i64 (rd l k).e] 68)).mono hbw.size))
          replace hx := Lib.hid hx
          replace hr := Lib.hid hr
          have hbw := Lib.hid hbw
          have hne : ¬ ((rd l k).e = 0) := by omega
          by_cases hbad : hour % (rd l k).e = (rd l k).a
          · have hs := Lib.hid (inK_succ hel.out hbad)
            have hbb : (hour % (rd l k).e != (rd l k).a) = false := by simp [hbad]
            replace hbad := Lib.hid hbad
            go_wp2_with fail
            go_quiet (fail)
            go_wp2
            go_roundw
            case rel => exact ⟨k + 1, by omega, by go_num, hs.out, below_drewN hb2.out nq⟩
            case measure => simp [intOf]; omega
          · have hw : inB l hour = false := by
              unfold inB; rw [decide_eq_false]; intro hh
              exact hbad (hh k hlt)
            have hbb : (hour % (rd l k).e != (rd l k).a) = true := by simp [hbad]
            replace hbad := Lib.hid hbad
            replace hw := Lib.hid hw
            go_wp2_with fail
            go_quiet (fail)
            go_wp2
            exact bodyPost_ret (v := .tuple #[.bool false, .int .i64 0]) (by simp [results, Try.results56, go_sem]) rfl ⟨by rw [hw.out], below_drewN hb2.out nq⟩
        · have hk' : k = l.length := by omega
          subst hk'
          have hw := Lib.hid (show inB l hour = true from decide_eq_true hel.out)
          replace hbw := Lib.hid hbw
          go_wp2
          exact bodyPost_ret (v := .tuple #[.bool true, .int .i64 0]) (by simp [results, Try.results56, go_sem]) rfl ⟨by rw [hw.out], hbw.out⟩

namespace M
/-- What IsNever answers. -/
def isnR (l : List Rd) (i k : Int) : Bool × Int := if validR l = true then (if 0 ≤ i ∧ i < k ∧ k < l.length then (nvB l i.toNat k.toNat, 0) else (false, 2)) else (false, 51)
end M

set_option maxRecDepth 100000 in
set_option maxHeartbeats 1000000 in
theorem IsNever_any (B : Nat) (A : Option Addr) (c : Nat) (l : List Rd) (i k : Int) (w : World) (h : Rds w B A l) (hB : B ≤ w.heap.size) :
    Calls Try.prog 53 #[.slice A l.length c, .int .i64 i, .int .i64 k] w fun e w' => e = .returned (.tuple #[.bool (isnR l i k).1, .int .i64 (isnR l i k).2]) ∧ Below w.heap.size w w' := by
  have h63 := h.1
  have hcc := fun fits => checked_any B A c l fits w h hB
  cases hv : validR l with
  | false =>
    have hR : isnR l i k = (false, 51) := by unfold isnR; rw [hv]; simp
    rw [hR]
    replace hR := Lib.hid hR
    by_cases g0 : i < 0
    · have hc := hcc false
      rw [show errR l false = 51 by unfold errR; rw [hv]; simp] at hc
      clear hcc
      replace hc := Lib.hid hc
      replace hv := Lib.hid hv
      go_enter Try.func53, Try.ntmps53
      go_wp2_with fail
      try rw [show decide (k < (l.length : Int)) = false from decide_eq_false (by omega)]
      refine hc.out.mono ?_
      rintro e w1 ⟨rfl, hb1⟩
      go_wp2
      exact bodyPost_ret (v := .tuple #[.bool false, .int .i64 51]) (by simp [results, Try.results53, go_sem]) rfl ⟨rfl, hb1⟩
    by_cases g1 : k ≤ i
    · have hc := hcc false
      rw [show errR l false = 51 by unfold errR; rw [hv]; simp] at hc
      clear hcc
      replace hc := Lib.hid hc
      replace hv := Lib.hid hv
      go_enter Try.func53, Try.ntmps53
      go_wp2_with fail
      try rw [show decide (k < (l.length : Int)) = false from decide_eq_false (by omega)]
      refine hc.out.mono ?_
      rintro e w1 ⟨rfl, hb1⟩
      go_wp2
      exact bodyPost_ret (v := .tuple #[.bool false, .int .i64 51]) (by simp [results, Try.results53, go_sem]) rfl ⟨rfl, hb1⟩
    by_cases g2 : (l.length : Int) ≤ k
    · have hc := hcc false
      rw [show errR l false = 51 by unfold errR; rw [hv]; simp] at hc
      clear hcc
      replace hc := Lib.hid hc
      replace hv := Lib.hid hv
      go_enter Try.func53, Try.ntmps53
      go_wp2_with fail
      try rw [show decide (k < (l.length : Int)) = false from decide_eq_false (by omega)]
      refine hc.out.mono ?_
      rintro e w1 ⟨rfl, hb1⟩
      go_wp2
      exact bodyPost_ret (v := .tuple #[.bool false, .int .i64 51]) (by simp [results, Try.results53, go_sem]) rfl ⟨rfl, hb1⟩
    have hc := hcc true
    rw [show errR l true = 51 by unfold errR; rw [hv]; simp] at hc
    clear hcc
    replace hc := Lib.hid hc
    replace hv := Lib.hid hv
    go_enter Try.func53, Try.ntmps53
    go_wp2_with fail
    try rw [show decide (k < (l.length : Int)) = true from decide_eq_true (by omega)]
    refine hc.out.mono ?_
    rintro e w1 ⟨rfl, hb1⟩
    go_wp2
    exact bodyPost_ret (v := .tuple #[.bool false, .int .i64 51]) (by simp [results, Try.results53, go_sem]) rfl ⟨rfl, hb1⟩
  | true =>
    have hvr := validR_iff.1 hv
    by_cases hik : 0 ≤ i ∧ i < k ∧ k < l.length
    · have hR : isnR l i k = (nvB l i.toNat k.toNat, 0) := by unfold isnR; rw [hv]; simp [hik]
      rw [hR]
      obtain ⟨h1, h2, h3⟩ := hik
      obtain ⟨i', rfl⟩ := Int.eq_ofNat_of_zero_le h1
      obtain ⟨k', rfl⟩ := Int.eq_ofNat_of_zero_le (show 0 ≤ k by omega)
      rw [Int.toNat_natCast, Int.toNat_natCast]
      have hlt : i' < l.length := by omega
      have hlk : k' < l.length := by omega
      have hc := hcc true
      rw [show errR l true = 0 by unfold errR; rw [hv]; simp] at hc
      clear hcc
      replace hR := Lib.hid hR
      obtain ⟨q, hq⟩ : ∃ q, q = nvB l i' k' := ⟨_, rfl⟩
      rw [← hq]
      replace hq := Lib.hid hq
      replace hc := Lib.hid hc
      replace hv := Lib.hid hv
      replace hvr := Lib.hid hvr
      go_enter Try.func53, Try.ntmps53
      go_wp2_with fail
      try rw [show decide ((k' : Int) < (l.length : Int)) = true from decide_eq_true (by omega)]
      refine hc.out.mono ?_
      rintro e w1 ⟨rfl, hb1⟩
      have hrow := h.below (hb1.mono hB)
      obtain ⟨bb, o, rfl, hbb, ci0, ci1⟩ := hrow.at_ i' hlt
      obtain ⟨bb', o', he, hbb', ck0, ck1⟩ := hrow.at_ k' hlk
      injection he with he
      injection he with he1 he2 he3
      subst he1 he2
      have hall : ∀ X', Below w.heap.size w X' → (X'.cell? ⟨bb, o + i' * 2, none⟩ = some (.int .i64 (rd l i').a) ∧ X'.cell? ⟨bb, o + i' * 2 + 1, none⟩ = some (.int .i64 (rd l i').e)) ∧ X'.cell? ⟨bb, o + k' * 2, none⟩ = some (.int .i64 (rd l k').a) ∧ X'.cell? ⟨bb, o + k' * 2 + 1, none⟩ = some (.int .i64 (rd l k').e) := fun X' hX' => by
        have hq := h.below (hX'.mono hB)
        obtain ⟨b1, o1, e1, _, p0, p1⟩ := hq.at_ i' hlt
        obtain ⟨b2, o2, e2, _, q0, q1⟩ := hq.at_ k' hlk
        injection e1 with e1
        injection e1 with e11 e12 e13
        injection e2 with e2
        injection e2 with e21 e22 e23
        subst e11 e12 e21 e22
        exact ⟨⟨p0, p1⟩, q0, q1⟩
      obtain ⟨a, e, ha, he, ha', he', hae, he10⟩ := vR_nat hvr.out hlt
      obtain ⟨b, n, hb, hn, hb', hn', hbn, hn10⟩ := vR_nat hvr.out hlk
      have hnv : q = nevN a e b n := by rw [hq.out]; unfold nvB; rw [ha', he', hb', hn']
      rw [ha, he, hb, hn] at hall
      rw [ha] at ci0
      rw [he] at ci1
      rw [hb] at ck0
      rw [hn] at ck1
      have c91 : ∀ W, _ := fun W => neverMeet_any a e b n W hae he10 hbn hn10
      rw [← hnv] at c91
      unfold rdN at c91
      have h8 : Below w.heap.size w (World.drew w1) := below_drew hb1
      have k0 := hall _ h8
      clear ha he hb hn ha' he' hb' hn' hnv
      replace c91 := Lib.hid c91
      replace hall := Lib.hid hall
      replace hb1 := Lib.hid hb1
      replace hrow := Lib.hid hrow
      go_wp2_with fail
      go_region_held3 (fun X => (X.cell? ⟨bb, o + i' * 2, none⟩ = some (.int .i64 (a : Nat)) ∧ X.cell? ⟨bb, o + i' * 2 + 1, none⟩ = some (.int .i64 (e : Nat))) ∧ X.cell? ⟨bb, o + k' * 2, none⟩ = some (.int .i64 (b : Nat)) ∧ X.cell? ⟨bb, o + k' * 2 + 1, none⟩ = some (.int .i64 (n : Nat)))
        (first | with_reducible exact k0 | with_reducible exact k1)
        (first | (go_at_call 91; refine (c91.out _).mono ?_; rintro _ X1 ⟨rfl, hb2⟩; have h9 := h8.trans (hb2.mono h8.size); have k1 := hall.out _ h9))
      go_wp2
      exact bodyPost_ret (v := .tuple #[.bool q, .int .i64 0]) (by simp [results, Try.results53, go_sem]) rfl ⟨rfl, h9⟩
    · have hR : isnR l i k = (false, 2) := by unfold isnR; rw [hv]; simp [hik]
      rw [hR]
      replace hR := Lib.hid hR
      by_cases g0 : i < 0
      · replace hik := Lib.hid hik
        replace hvr := Lib.hid hvr
        have hc := hcc false
        rw [show errR l false = 2 by unfold errR; rw [hv]; simp] at hc
        clear hcc
        replace hc := Lib.hid hc
        replace hv := Lib.hid hv
        go_enter Try.func53, Try.ntmps53
        go_wp2_with fail
        try rw [show decide (k < (l.length : Int)) = false from decide_eq_false (by omega)]
        refine hc.out.mono ?_
        rintro e w1 ⟨rfl, hb1⟩
        go_wp2
        exact bodyPost_ret (v := .tuple #[.bool false, .int .i64 2]) (by simp [results, Try.results53, go_sem]) rfl ⟨rfl, hb1⟩
      by_cases g1 : k ≤ i
      · replace hik := Lib.hid hik
        replace hvr := Lib.hid hvr
        have hc := hcc false
        rw [show errR l false = 2 by unfold errR; rw [hv]; simp] at hc
        clear hcc
        replace hc := Lib.hid hc
        replace hv := Lib.hid hv
        go_enter Try.func53, Try.ntmps53
        go_wp2_with fail
        try rw [show decide (k < (l.length : Int)) = false from decide_eq_false (by omega)]
        refine hc.out.mono ?_
        rintro e w1 ⟨rfl, hb1⟩
        go_wp2
        exact bodyPost_ret (v := .tuple #[.bool false, .int .i64 2]) (by simp [results, Try.results53, go_sem]) rfl ⟨rfl, hb1⟩
      by_cases g2 : (l.length : Int) ≤ k
      · replace hik := Lib.hid hik
        replace hvr := Lib.hid hvr
        have hc := hcc false
        rw [show errR l false = 2 by unfold errR; rw [hv]; simp] at hc
        clear hcc
        replace hc := Lib.hid hc
        replace hv := Lib.hid hv
        go_enter Try.func53, Try.ntmps53
        go_wp2_with fail
        try rw [show decide (k < (l.length : Int)) = false from decide_eq_false (by omega)]
        refine hc.out.mono ?_
        rintro e w1 ⟨rfl, hb1⟩
        go_wp2
        exact bodyPost_ret (v := .tuple #[.bool false, .int .i64 2]) (by simp [results, Try.results53, go_sem]) rfl ⟨rfl, hb1⟩
      exact absurd ⟨by omega, by omega, by omega⟩ hik

set_option maxRecDepth 100000 in
set_option maxHeartbeats 1000000 in
theorem IsNever_ref (B : Nat) (A : Option Addr) (c : Nat) (l : List Rd) (i k : Int) (w : World) (h : Rds w B A l) (hB : B ≤ w.heap.size) :
    Calls Try.prog 54 #[.slice A l.length c, .int .i64 i, .int .i64 k] w fun e w' => e = .returned (.tuple #[.bool (isnR l i k).1, .int .i64 (isnR l i k).2]) ∧ Below w.heap.size w w' := by
  have h63 := h.1
  have hcc := AreRounds_ref B A c l w h hB
  cases hv : validR l with
  | false =>
    have hR : isnR l i k = (false, 51) := by unfold isnR; rw [hv]; simp
    rw [hR]
    replace hR := Lib.hid hR
    have hc := hcc
    rw [hv] at hc
    clear hcc
    replace hc := Lib.hid hc
    replace hv := Lib.hid hv
    go_enter Try.func54, Try.ntmps54
    go_wp2_with fail
    refine hc.out.mono ?_
    rintro e w1 ⟨rfl, hb1⟩
    go_wp2
    exact bodyPost_ret (v := .tuple #[.bool false, .int .i64 51]) (by simp [results, Try.results54, go_sem]) rfl ⟨rfl, hb1⟩
  | true =>
    have hvr := validR_iff.1 hv
    by_cases hik : 0 ≤ i ∧ i < k ∧ k < l.length
    · have hR : isnR l i k = (nvB l i.toNat k.toNat, 0) := by unfold isnR; rw [hv]; simp [hik]
      rw [hR]
      obtain ⟨h1, h2, h3⟩ := hik
      obtain ⟨i', rfl⟩ := Int.eq_ofNat_of_zero_le h1
      obtain ⟨k', rfl⟩ := Int.eq_ofNat_of_zero_le (show 0 ≤ k by omega)
      rw [Int.toNat_natCast, Int.toNat_natCast]
      have hlt : i' < l.length := by omega
      have hlk : k' < l.length := by omega
      have hc := hcc
      rw [hv] at hc
      clear hcc
      replace hR := Lib.hid hR
      obtain ⟨q, hq⟩ : ∃ q, q = nvB l i' k' := ⟨_, rfl⟩
      rw [← hq]
      replace hq := Lib.hid hq
      replace hc := Lib.hid hc
      replace hv := Lib.hid hv
      replace hvr := Lib.hid hvr
      go_enter Try.func54, Try.ntmps54
      go_wp2_with fail
      
      refine hc.out.mono ?_
      rintro e w1 ⟨rfl, hb1⟩
      have hrow := h.below (hb1.mono hB)
      obtain ⟨bb, o, rfl, hbb, ci0, ci1⟩ := hrow.at_ i' hlt
      obtain ⟨bb', o', he, hbb', ck0, ck1⟩ := hrow.at_ k' hlk
      injection he with he
      injection he with he1 he2 he3
      subst he1 he2
      have hall : ∀ X', Below w.heap.size w X' → (X'.cell? ⟨bb, o + i' * 2, none⟩ = some (.int .i64 (rd l i').a) ∧ X'.cell? ⟨bb, o + i' * 2 + 1, none⟩ = some (.int .i64 (rd l i').e)) ∧ X'.cell? ⟨bb, o + k' * 2, none⟩ = some (.int .i64 (rd l k').a) ∧ X'.cell? ⟨bb, o + k' * 2 + 1, none⟩ = some (.int .i64 (rd l k').e) := fun X' hX' => by
        have hq := h.below (hX'.mono hB)
        obtain ⟨b1, o1, e1, _, p0, p1⟩ := hq.at_ i' hlt
        obtain ⟨b2, o2, e2, _, q0, q1⟩ := hq.at_ k' hlk
        injection e1 with e1
        injection e1 with e11 e12 e13
        injection e2 with e2
        injection e2 with e21 e22 e23
        subst e11 e12 e21 e22
        exact ⟨⟨p0, p1⟩, q0, q1⟩
      obtain ⟨a, e, ha, he, ha', he', hae, he10⟩ := vR_nat hvr.out hlt
      obtain ⟨b, n, hb, hn, hb', hn', hbn, hn10⟩ := vR_nat hvr.out hlk
      have hnv : q = nevN a e b n := by rw [hq.out]; unfold nvB; rw [ha', he', hb', hn']
      rw [ha, he, hb, hn] at hall
      rw [ha] at ci0
      rw [he] at ci1
      rw [hb] at ck0
      rw [hn] at ck1
      have c91 : ∀ W, _ := fun W => never_ref a e b n W hae he10 hbn hn10
      rw [← hnv] at c91
      unfold rdN at c91
      have h8 : Below w.heap.size w (World.drew w1) := below_drew hb1
      have k0 := hall _ h8
      clear ha he hb hn ha' he' hb' hn' hnv
      replace c91 := Lib.hid c91
      replace hall := Lib.hid hall
      replace hb1 := Lib.hid hb1
      replace hrow := Lib.hid hrow
      go_wp2_with fail
      go_region_held3 (fun X => (X.cell? ⟨bb, o + i' * 2, none⟩ = some (.int .i64 (a : Nat)) ∧ X.cell? ⟨bb, o + i' * 2 + 1, none⟩ = some (.int .i64 (e : Nat))) ∧ X.cell? ⟨bb, o + k' * 2, none⟩ = some (.int .i64 (b : Nat)) ∧ X.cell? ⟨bb, o + k' * 2 + 1, none⟩ = some (.int .i64 (n : Nat)))
        (first | with_reducible exact k0 | with_reducible exact k1)
        (first | (go_at_call 92; refine (c91.out _).mono ?_; rintro _ X1 ⟨rfl, hb2⟩; have h9 := h8.trans (hb2.mono h8.size); have k1 := hall.out _ h9))
      go_wp2
      exact bodyPost_ret (v := .tuple #[.bool q, .int .i64 0]) (by simp [results, Try.results54, go_sem]) rfl ⟨rfl, h9⟩
    · have hR : isnR l i k = (false, 2) := by unfold isnR; rw [hv]; simp [hik]
      rw [hR]
      replace hR := Lib.hid hR
      by_cases g0 : i < 0
      · replace hik := Lib.hid hik
        replace hvr := Lib.hid hvr
        have hc := hcc
        rw [hv] at hc
        clear hcc
        replace hc := Lib.hid hc
        replace hv := Lib.hid hv
        go_enter Try.func54, Try.ntmps54
        go_wp2_with fail
        refine hc.out.mono ?_
        rintro e w1 ⟨rfl, hb1⟩
        go_wp2
        exact bodyPost_ret (v := .tuple #[.bool false, .int .i64 2]) (by simp [results, Try.results54, go_sem]) rfl ⟨rfl, hb1⟩
      by_cases g1 : k ≤ i
      · replace hik := Lib.hid hik
        replace hvr := Lib.hid hvr
        have hc := hcc
        rw [hv] at hc
        clear hcc
        replace hc := Lib.hid hc
        replace hv := Lib.hid hv
        go_enter Try.func54, Try.ntmps54
        go_wp2_with fail
        refine hc.out.mono ?_
        rintro e w1 ⟨rfl, hb1⟩
        go_wp2
        exact bodyPost_ret (v := .tuple #[.bool false, .int .i64 2]) (by simp [results, Try.results54, go_sem]) rfl ⟨rfl, hb1⟩
      by_cases g2 : (l.length : Int) ≤ k
      · replace hik := Lib.hid hik
        replace hvr := Lib.hid hvr
        have hc := hcc
        rw [hv] at hc
        clear hcc
        replace hc := Lib.hid hc
        replace hv := Lib.hid hv
        go_enter Try.func54, Try.ntmps54
        go_wp2_with fail
        refine hc.out.mono ?_
        rintro e w1 ⟨rfl, hb1⟩
        go_wp2
        exact bodyPost_ret (v := .tuple #[.bool false, .int .i64 2]) (by simp [results, Try.results54, go_sem]) rfl ⟨rfl, hb1⟩
      exact absurd ⟨by omega, by omega, by omega⟩ hik

set_option maxHeartbeats 1000000 in
theorem Long_any (A : Option Addr) (c n : Nat) (w : World) (hn : n ≤ 9223372036854775807) :
    Calls Try.prog 48 #[.slice A n c] w fun e w' => e = .returned (.bool (decide (40 < n))) ∧ w = w' := by
  by_cases h : 40 < n
  · go_enter Try.func48, Try.ntmps48
    go_wp2
    go_ret
    exact ⟨ret_bool (by simp <;> omega), rfl⟩
  · go_enter Try.func48, Try.ntmps48
    go_wp2
    go_ret
    exact ⟨ret_bool (by simp <;> omega), rfl⟩
end Go.Proofs.Ytlnpnfjdcnijhaa
