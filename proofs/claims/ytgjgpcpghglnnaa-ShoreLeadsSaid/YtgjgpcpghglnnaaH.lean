/-
  The lead of a beach from a job on: Lead of the program.
-/
import Derived.Test.YtgjgpcpghglnnaaG
namespace Go.Proofs.Ytgjgpcpghglnnaa
open Go.RowKit Go.Deep M
set_option linter.unusedVariables false
set_option linter.unusedSimpArgs false

namespace M
/-- May the lead be asked for? -/
def LdOk (J : List (List Jb)) (b f : Int) : Prop := (0 ≤ b ∧ b < J.length) ∧ 0 ≤ f ∧ f < (be J b.toNat).length
instance (J : List (List Jb)) (b f : Int) : Decidable (LdOk J b f) := by unfold LdOk; infer_instance
/-- What Lead answers: the last job, the rate, the error. -/
def ldA (l : List Jb) (f : Nat) : (Int × Int) × Int × Int :=
  ((((f + ld l f - 1 : Nat) : Int), (((sm l f (ld l f)).toNat / Nat.gcd (sm l f (ld l f)).toNat (sh l f (ld l f)).toNat : Nat) : Int)),
   (((sh l f (ld l f)).toNat / Nat.gcd (sm l f (ld l f)).toNat (sh l f (ld l f)).toNat : Nat) : Int), 0)
def leR (J : List (List Jb)) (b f : Int) : (Int × Int) × Int × Int :=
  if valB J = true then (if LdOk J b f then ldA (be J b.toNat) f.toNat else ((0, 0), 0, 2)) else ((0, 0), 0, 60)
end M
def LeP (r : (Int × Int) × Int × Int) (w : World) (e : Ending) (w' : World) : Prop := e = .returned (.tuple #[.int .i64 r.1.1, .agg #[.int .i64 r.1.2, .int .i64 r.2.1], .int .i64 r.2.2]) ∧ Below w.heap.size w w'

set_option maxRecDepth 100000 in
set_option maxHeartbeats 4000000 in
theorem Lead_any (B : Nat) (A : Option Addr) (c : Nat) (D : List Bc) (bi fi : Int) (w : World) (h : Bcs w B A D) (hB : B ≤ w.heap.size) (hL : ∀ i, i < D.length → (be (bl D) i).length ≤ 100) :
    Calls Try.prog 37 #[.slice A D.length c, .int .i64 bi, .int .i64 fi] w (LeP (leR (bl D) bi fi) w) := by
  have h63 := h.1
  have hlen := bl_len D
  have hr := Bxr.new w 0 0
  have hb0 := ba1 w (.cells #[.int .i64 0, .int .i64 0] 40)
  have k51 := checked_any B A c D _ (h.below (hb0.mono hB)) (Nat.le_trans hB hb0.size) hL
  have hat := fun X (hX : Below w.heap.size w X) k (hk : k < D.length) => (h.below (hX.mono hB)).at_ k hk
  have hcap := h.2.2
  have hb60 : valB (bl D) = false → leR (bl D) bi fi = ((0, 0), 0, 60) := fun hh => by unfold leR; rw [hh]; rfl
  have hb2 : valB (bl D) = true → ¬ LdOk (bl D) bi fi → leR (bl D) bi fi = ((0, 0), 0, 2) := fun hh h2 => by unfold leR; rw [if_pos hh, if_neg h2]
  have hgd : valB (bl D) = true → LdOk (bl D) bi fi → leR (bl D) bi fi = _ := fun hh h2 => by unfold leR; rw [if_pos hh, if_pos h2]
  have hvv := @val_of (bl D)
  unfold LeP
  obtain ⟨J, hJ⟩ : ∃ J, J = bl D := ⟨_, rfl⟩
  rw [← hJ] at hlen hL k51 hat hcap hb60 hb2 hgd hvv ⊢
  obtain ⟨n, hn⟩ : ∃ n, n = D.length := ⟨_, rfl⟩
  rw [← hn] at h63 hlen hL k51 hat hcap ⊢
  obtain ⟨Y, hY⟩ : ∃ Y, Y = w.alloc (.cells #[.int .i64 0, .int .i64 0] 40) := ⟨_, rfl⟩
  rw [← hY] at hr hb0 k51
  unfold errV at k51
  replace hJ := Lib.hid hJ
  replace hn := Lib.hid hn
  replace hY := Lib.hid hY
  replace hlen := Lib.hid hlen
  replace hL := Lib.hid hL
  replace hat := Lib.hid hat
  replace hcap := Lib.hid hcap
  replace hb60 := Lib.hid hb60
  replace hb2 := Lib.hid hb2
  replace hgd := Lib.hid hgd
  replace hvv := Lib.hid hvv
  replace hr := Lib.hid hr
  replace hb0 := Lib.hid hb0
  replace h := Lib.hid h
  cases hv : valB J with
  | false =>
    rw [hb60.out hv]
    rw [hv] at k51
    simp only [] at *
    replace k51 := Lib.hid k51
    replace hv := Lib.hid hv
    go_enter Try.func37, Try.ntmps37
    go_wp2_with fail
    rw [← hY.out]
    refine k51.out.mono ?_
    rintro e X ⟨rfl, hb1⟩
    have hrX := hr.out.up hb1
    have hbX := bel_trans hb0.out hb1
    clear hb1
    have z0 := hrX.c0
    have z1 := hrX.c1
    have f0 := hrX.fz 0
    have f1 := hrX.fz 1
    have rl := hrX.lt
    have y := hrX.set 0 0
    have y0 := y.c0
    have y1 := y.c1
    have hend1 := Lib.hid hbX
    have hend2 := Lib.hid (set2_below hbX (Nat.le_refl w.heap.size) (.int .i64 0) (.int .i64 0))
    replace y := Lib.hid y
    replace hrX := Lib.hid hrX
    replace hbX := Lib.hid hbX
    go_wp2
    exact bodyPost_ret (v := .tuple #[.int .i64 0, .agg #[.int .i64 0, .int .i64 0], .int .i64 60]) (by first | simp [results, Try.results37, go_sem, z0, z1] | simp [results, Try.results37, go_sem, y0, y1]) rfl ⟨rfl, by first | exact hend1.out | exact hend2.out⟩
  | true =>
    rw [hv] at k51
    have hvJ := hvv.out hv
    replace k51 := Lib.hid k51
    by_cases hok : LdOk J bi fi
    · have hlR := hgd.out hv hok
      obtain ⟨⟨b1, b2⟩, f1, f2⟩ := hok
      obtain ⟨bn, rfl⟩ := Int.eq_ofNat_of_zero_le b1
      obtain ⟨f, rfl⟩ := Int.eq_ofNat_of_zero_le f1
      rw [Int.toNat_natCast] at f2 hlR
      rw [Int.toNat_natCast] at hlR
      have hbn : bn < n := by have := hlen.out; omega
      have l12 : (be J bn).length ≤ 12 := Nat.le_trans (be_le (by rw [hlen.out]; exact hbn)) hvJ.2.1
      have lok : Oks (be J bn) (be J bn).length := hvJ.2.2 bn (by rw [hlen.out]; exact hbn)
      have lcap := hcap.out bn hbn
      have hfl : f < (be J bn).length := by omega
      rw [hlR]
      unfold ldA
      simp only []
      have hsb := s_b (f := f) lok (ld (be J bn) f) (ld_b _ _ hfl).2
      have hlb := ld_b _ _ hfl
      have hla := fun X (hX : Below w.heap.size w X) Ak ck (hjb : Jbs X B Ak (be J bn)) (hc : (be J bn).length ≤ ck) => lead_any B Ak ck (be J bn) f X hjb (Nat.le_trans hB hX.size) hfl l12 lok hc
      obtain ⟨l, hl⟩ : ∃ l, l = be J bn := ⟨_, rfl⟩
      have hat' := fun X hX => hat.out X hX bn hbn
      rw [← hl] at hat' hsb hlb l12 lok lcap hfl hla f2 ⊢
      obtain ⟨m, hm⟩ : ∃ m : Nat, sm l f (ld l f) = m := Int.eq_ofNat_of_zero_le hsb.2.1
      obtain ⟨hh, hhh⟩ : ∃ m : Nat, sh l f (ld l f) = m := Int.eq_ofNat_of_zero_le (by omega)
      rw [hm, hhh] at hsb hla ⊢
      rw [Int.toNat_natCast, Int.toNat_natCast]
      have hh1 : 1 ≤ hh := by omega
      have hh2 : hh ≤ 2000 := by omega
      have mm2 : m ≤ 2000 := by omega
      obtain ⟨PL, hPL⟩ : ∃ P, P = f + ld l f - 1 := ⟨_, rfl⟩
      rw [← hPL] at hla ⊢
      have PL9 : PL ≤ 100 := by omega
      have k69 := fun X => rate_any hh m (PL : Nat) X hh1 hh2 mm2
      have q1 : m / Nat.gcd m hh ≤ m := Nat.div_le_self _ _
      have q2 : hh / Nat.gcd m hh ≤ hh := Nat.div_le_self _ _
      generalize m / Nat.gcd m hh = N at *
      generalize hh / Nat.gcd m hh = Dn at *
      obtain ⟨L, hLl⟩ : ∃ L, L = l.length := ⟨_, rfl⟩
      rw [← hLl] at hat' hfl lcap hla
      have bi1 : ¬ ((bn : Int) < 0) := by omega
      have bi2 : ¬ ((n : Int) ≤ (bn : Int)) := by omega
      have bi3 : ¬ ((f : Int) < 0) := by omega
      have bi4 : ¬ ((L : Int) ≤ (f : Int)) := by omega
      replace hLl := Lib.hid hLl
      replace hlR := Lib.hid hlR
      replace hl := Lib.hid hl
      replace hm := Lib.hid hm
      replace hhh := Lib.hid hhh
      replace hPL := Lib.hid hPL
      replace hsb := Lib.hid hsb
      replace hlb := Lib.hid hlb
      replace lok := Lib.hid lok
      replace hla := Lib.hid hla
      replace hat' := Lib.hid hat'
      replace hvJ := Lib.hid hvJ
      replace hv := Lib.hid hv
      replace k69 := Lib.hid k69
      clear f2 b2 b1 f1 l12
      go_enter Try.func37, Try.ntmps37
      go_wp2_with fail
      rw [← hY.out]
      refine k51.out.mono ?_
      rintro e X ⟨rfl, hb1⟩
      have hrX := hr.out.up hb1
      have hbX := bel_trans hb0.out hb1
      clear hb1
      obtain ⟨b, o, rfl, hbB, e0, hjb⟩ := hat'.out X hbX
      have kl := hla.out X hbX _ _ hjb lcap
      generalize (bc D bn).A = Ak at *
      generalize (bc D bn).c = ck at *
      replace hrX := Lib.hid hrX
      replace hbX := Lib.hid hbX
      replace hjb := Lib.hid hjb
      replace kl := Lib.hid kl
      go_wp2_with fail
      refine kl.out.mono ?_
      rintro e X2 ⟨rfl, hb2'⟩
      have hrX2 := hrX.out.up hb2'
      have hbX2 := bel_trans hbX.out hb2'
      have hpn := Bxp.new X2 (hh : Nat) (m : Nat) (PL : Nat)
      have hb3 := ba1 X2 (.cells #[.int .i64 (hh : Nat), .int .i64 (m : Nat), .int .i64 (PL : Nat)] 74)
      have hrX3 := hrX2.up hb3
      have hbX3 := bel_trans hbX2 hb3
      obtain ⟨b10, hb10⟩ : ∃ b, b = X2.heap.size := ⟨_, rfl⟩
      obtain ⟨Z, hZ⟩ : ∃ Z, Z = X2.alloc (.cells #[.int .i64 (hh : Nat), .int .i64 (m : Nat), .int .i64 (PL : Nat)] 74) := ⟨_, rfl⟩
      rw [← hZ] at hpn hrX3 hbX3
      rw [← hb10] at hpn
      have kz := Lib.hid (k69.out Z.drew)
      have hpd : Bxp Z.drew b10 (hh : Nat) (m : Nat) (PL : Nat) := hpn.to rfl
      have hrd : Bxr Z.drew w.heap.size 0 0 := hrX3.to rfl
      have hbd : Below w.heap.size w Z.drew := below_drewN hbX3 1
      have p0 := hpd.c0
      have p1 := hpd.c1
      have p2 := hpd.c2
      have p0' := hpn.c0
      have p1' := hpn.c1
      have p2' := hpn.c2
      replace hZ := Lib.hid hZ
      replace hb10 := Lib.hid hb10
      replace hpn := Lib.hid hpn
      replace hpd := Lib.hid hpd
      replace hrd := Lib.hid hrd
      replace hbd := Lib.hid hbd
      replace hrX2 := Lib.hid hrX2
      replace hrX3 := Lib.hid hrX3
      replace hbX2 := Lib.hid hbX2
      replace hbX3 := Lib.hid hbX3
      replace hb3 := Lib.hid hb3
      clear hb2'
      go_wp2_with fail
      rw [← hZ.out, ← hb10.out]
      go_region_with (go_at_call 69; with_reducible refine kz.out.mono ?_; rintro e Z1 ⟨rfl, hz1⟩
                      have hp1 := hpd.out.up hz1
                      have hr1 := hrd.out.up hz1
                      have hbz1 := bel_trans hbd.out hz1
                      have u0 := hp1.c0
                      have u1 := hp1.c1
                      have u2 := hp1.c2
                      have v0 := hr1.c0
                      have v1 := hr1.c1
                      have v2 := hr1.fz 0
                      have v3 := hr1.fz 1
                      have v4 := hr1.lt
                      have y := hr1.set (N : Nat) (Dn : Nat)
                      have y0 := y.c0
                      have y1 := y.c1
                      have hend := Lib.hid (set2_below hbz1 (Nat.le_refl w.heap.size) (.int .i64 (N : Nat)) (.int .i64 (Dn : Nat)))
                      replace y := Lib.hid y
                      replace hp1 := Lib.hid hp1
                      replace hr1 := Lib.hid hr1
                      replace hbz1 := Lib.hid hbz1
                      replace hz1 := Lib.hid hz1)
      all_goals
        go_wp2
        exact bodyPost_ret (v := .tuple #[.int .i64 (PL : Nat), .agg #[.int .i64 (N : Nat), .int .i64 (Dn : Nat)], .int .i64 0]) (by simp [results, Try.results37, go_sem, y0, y1]) rfl ⟨rfl, hend.out⟩
    · rw [hb2.out hv hok]
      simp only []
      have hok' : bi < 0 ∨ (0 ≤ bi ∧ (n : Int) ≤ bi) ∨ (0 ≤ bi ∧ bi < n ∧ fi < 0) ∨ (0 ≤ bi ∧ bi < n ∧ 0 ≤ fi ∧ ((be J bi.toNat).length : Int) ≤ fi) := by
        have := hlen.out
        rcases Int.lt_or_le bi 0 with h1 | h1
        · exact .inl h1
        · rcases Int.lt_or_le bi n with h2 | h2
          · rcases Int.lt_or_le fi 0 with h3 | h3
            · exact .inr (.inr (.inl ⟨h1, h2, h3⟩))
            · rcases Int.lt_or_le fi ((be J bi.toNat).length : Int) with h4 | h4
              · exact absurd ⟨⟨h1, by omega⟩, h3, h4⟩ hok
              · exact .inr (.inr (.inr ⟨h1, h2, h3, h4⟩))
          · exact .inr (.inl ⟨h1, h2⟩)
      clear hok
      replace hv := Lib.hid hv
      replace hvJ := Lib.hid hvJ
      rcases hok' with h1 | ⟨h1, h2⟩ | ⟨h1, h2, h3⟩ | ⟨h1, h2, h3, h4⟩
      · go_enter Try.func37, Try.ntmps37
        go_wp2_with fail
        rw [← hY.out]
        refine k51.out.mono ?_
        rintro e X ⟨rfl, hb1⟩
        have hrX := hr.out.up hb1
        have hbX := bel_trans hb0.out hb1
        clear hb1
        have z0 := hrX.c0
        have z1 := hrX.c1
        have f0 := hrX.fz 0
        have f1 := hrX.fz 1
        have rl := hrX.lt
        have y := hrX.set 0 0
        have y0 := y.c0
        have y1 := y.c1
        have hend1 := Lib.hid hbX
        have hend2 := Lib.hid (set2_below hbX (Nat.le_refl w.heap.size) (.int .i64 0) (.int .i64 0))
        replace y := Lib.hid y
        replace hrX := Lib.hid hrX
        replace hbX := Lib.hid hbX
        go_wp2
        exact bodyPost_ret (v := .tuple #[.int .i64 0, .agg #[.int .i64 0, .int .i64 0], .int .i64 2]) (by first | simp [results, Try.results37, go_sem, z0, z1] | simp [results, Try.results37, go_sem, y0, y1]) rfl ⟨rfl, by first | exact hend1.out | exact hend2.out⟩
      · have h1' : ¬ (bi < 0) := by omega
        go_enter Try.func37, Try.ntmps37
        go_wp2_with fail
        rw [← hY.out]
        refine k51.out.mono ?_
        rintro e X ⟨rfl, hb1⟩
        have hrX := hr.out.up hb1
        have hbX := bel_trans hb0.out hb1
        clear hb1
        have z0 := hrX.c0
        have z1 := hrX.c1
        have f0 := hrX.fz 0
        have f1 := hrX.fz 1
        have rl := hrX.lt
        have y := hrX.set 0 0
        have y0 := y.c0
        have y1 := y.c1
        have hend1 := Lib.hid hbX
        have hend2 := Lib.hid (set2_below hbX (Nat.le_refl w.heap.size) (.int .i64 0) (.int .i64 0))
        replace y := Lib.hid y
        replace hrX := Lib.hid hrX
        replace hbX := Lib.hid hbX
        go_wp2
        exact bodyPost_ret (v := .tuple #[.int .i64 0, .agg #[.int .i64 0, .int .i64 0], .int .i64 2]) (by first | simp [results, Try.results37, go_sem, z0, z1] | simp [results, Try.results37, go_sem, y0, y1]) rfl ⟨rfl, by first | exact hend1.out | exact hend2.out⟩
      · have h1' : ¬ (bi < 0) := by omega
        have h2' : ¬ ((n : Int) ≤ bi) := by omega
        go_enter Try.func37, Try.ntmps37
        go_wp2_with fail
        rw [← hY.out]
        refine k51.out.mono ?_
        rintro e X ⟨rfl, hb1⟩
        have hrX := hr.out.up hb1
        have hbX := bel_trans hb0.out hb1
        clear hb1
        have z0 := hrX.c0
        have z1 := hrX.c1
        have f0 := hrX.fz 0
        have f1 := hrX.fz 1
        have rl := hrX.lt
        have y := hrX.set 0 0
        have y0 := y.c0
        have y1 := y.c1
        have hend1 := Lib.hid hbX
        have hend2 := Lib.hid (set2_below hbX (Nat.le_refl w.heap.size) (.int .i64 0) (.int .i64 0))
        replace y := Lib.hid y
        replace hrX := Lib.hid hrX
        replace hbX := Lib.hid hbX
        go_wp2
        exact bodyPost_ret (v := .tuple #[.int .i64 0, .agg #[.int .i64 0, .int .i64 0], .int .i64 2]) (by first | simp [results, Try.results37, go_sem, z0, z1] | simp [results, Try.results37, go_sem, y0, y1]) rfl ⟨rfl, by first | exact hend1.out | exact hend2.out⟩
      · obtain ⟨bn, rfl⟩ := Int.eq_ofNat_of_zero_le h1
        rw [Int.toNat_natCast] at h4
        have h2n : bn < n := by omega
        have h1' : ¬ ((bn : Int) < 0) := by omega
        have h2' : ¬ ((n : Int) ≤ (bn : Int)) := by omega
        have h3' : ¬ (fi < 0) := by omega
        go_enter Try.func37, Try.ntmps37
        go_wp2_with fail
        rw [← hY.out]
        refine k51.out.mono ?_
        rintro e X ⟨rfl, hb1⟩
        have hrX := hr.out.up hb1
        have hbX := bel_trans hb0.out hb1
        clear hb1
        obtain ⟨b, o, rfl, hbB, e0, hjb⟩ := hat.out X hbX bn h2n
        have l63 := hjb.1
        generalize (bc D bn).A = Ak at *
        generalize (bc D bn).c = ck at *
        generalize (be J bn).length = L at *
        replace hjb := Lib.hid hjb
        have z0 := hrX.c0
        have z1 := hrX.c1
        have f0 := hrX.fz 0
        have f1 := hrX.fz 1
        have rl := hrX.lt
        have y := hrX.set 0 0
        have y0 := y.c0
        have y1 := y.c1
        have hend1 := Lib.hid hbX
        have hend2 := Lib.hid (set2_below hbX (Nat.le_refl w.heap.size) (.int .i64 0) (.int .i64 0))
        replace y := Lib.hid y
        replace hrX := Lib.hid hrX
        replace hbX := Lib.hid hbX
        go_wp2
        exact bodyPost_ret (v := .tuple #[.int .i64 0, .agg #[.int .i64 0, .int .i64 0], .int .i64 2]) (by first | simp [results, Try.results37, go_sem, z0, z1] | simp [results, Try.results37, go_sem, y0, y1]) rfl ⟨rfl, by first | exact hend1.out | exact hend2.out⟩
end Go.Proofs.Ytgjgpcpghglnnaa
