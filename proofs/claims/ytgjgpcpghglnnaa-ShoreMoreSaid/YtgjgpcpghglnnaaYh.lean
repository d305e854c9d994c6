/-
  Done, the harm of an order, and Harm: the specification's functions.
-/
import Derived.Test.YtgjgpcpghglnnaaYf
import Derived.Test.YtgjgpcpghglnnaaYg
import Derived.Test.YtgjgpcpghglnnaaR
namespace Go.Proofs.Ytgjgpcpghglnnaa
open Go.RowKit Go.Deep M
set_option linter.unusedVariables false
set_option linter.unusedSimpArgs false

theorem Done_ref_bad (B : Nat) (A Ao : Option Addr) (c co : Nat) (D : List Bc) (o : List Int) (w : World) (h : Bcs w B A D) (ho : Row w B Ao o) (hB : B ≤ w.heap.size) (hL : ∀ i, i < D.length → (be (bl D) i).length ≤ 100) (he : ¬ errO (bl D) o = 0) :
    Calls Try.prog 25 #[.slice A D.length c, .slice Ao o.length co] w fun e w' => e = .returned (.tuple #[.slice none 0 0, .int .i64 (errO (bl D) o)]) ∧ Below w.heap.size w w' := by
  have h63 := h.1
  have ho63 := ho.1
  have c57 := asked_ref B A Ao c co D o w h ho hB hL
  obtain ⟨E, hE⟩ : ∃ E, E = errO (bl D) o := ⟨_, rfl⟩
  rw [← hE] at c57 he ⊢
  generalize D.length = n at *
  generalize o.length = m at *
  replace hE := Lib.hid hE
  replace c57 := Lib.hid c57
  replace hL := Lib.hid hL
  replace h := Lib.hid h
  replace ho := Lib.hid ho
  go_enter Try.func25, Try.ntmps25
  go_wp2_with fail
  refine c57.out.mono ?_
  rintro e X1 ⟨rfl, hb1⟩
  replace hb1 := Lib.hid hb1
  go_wp2
  exact bodyPost_ret (v := .tuple #[.slice none 0 0, .int .i64 E]) (by simp [results, Try.results25, go_sem]) rfl ⟨rfl, hb1.out⟩

set_option maxRecDepth 100000 in
set_option maxHeartbeats 8000000 in
theorem Done_ref (B : Nat) (A Ao : Option Addr) (c co : Nat) (D : List Bc) (o : List Int) (w : World) (h : Bcs w B A D) (ho : Row w B Ao o) (hB : B ≤ w.heap.size) (hL : ∀ i, i < D.length → (be (bl D) i).length ≤ 100) (he : errO (bl D) o = 0) :
    Calls Try.prog 25 #[.slice A D.length c, .slice Ao o.length co] w (DnP (bl D) o D.length o.length w) := by
  have h63 := h.1
  have hlen := bl_len D
  have c57 := asked_ref B A Ao c co D o w h ho hB hL
  rw [he] at c57
  obtain ⟨hv, hor⟩ := errO_ok he
  obtain ⟨-, h12, -, -, hru⟩ := ord_spec hv hor
  have hn6 : D.length ≤ 6 := by have := hv.1.2; rw [hlen] at this; exact this
  have hmk := fun X => run_mkS X D.length (by omega)
  have hrb := hr_b hv hru
  have hrs := hr_succ (bl D) o
  have hjo := fun i (hi : i < o.length) => at_ok hv hru hi
  have hat := fun X (hX : Below w.heap.size w X) k (hk : k < D.length) => (h.below (hX.mono hB)).at_ k hk
  have hoa := fun X (hX : Below w.heap.size w X) k (hk : k < o.length) => (ho.below (hX.mono hB)).at_ k hk
  have hJn : ∀ k, k < o.length → ∃ bn q : Nat, el o k = (bn : Nat) ∧ bn < D.length ∧ cnt o (bn : Nat) k = q ∧ q < (be (bl D) bn).length ∧ jbAt (bl D) o k = jb (be (bl D) bn) q := fun k hk => by
    obtain ⟨⟨r1, r2⟩, r3⟩ := hru k hk
    obtain ⟨bn, hbn⟩ := Int.eq_ofNat_of_zero_le r1
    rw [hlen] at r2
    refine ⟨bn, cnt o (bn : Nat) k, hbn, by rw [hbn] at r2; exact r2, rfl, ?_, ?_⟩
    · rw [hbn] at r3; exact r3
    · unfold jbAt; rw [hbn]; rfl
  obtain ⟨i3, ji, jz0, jz1, jz2⟩ := info_parts info3
  replace ji := Lib.hid ji
  replace jz0 := Lib.hid jz0
  replace jz1 := Lib.hid jz1
  replace jz2 := Lib.hid jz2
  have hdl := dnl_len (bl D) o
  have hcl := fun b k => cnt_le o b k
  have hds := fun k i (hh : el o k = ((i : Nat) : Int)) => dnl_step (bl D) o hh
  obtain ⟨J, hJ⟩ : ∃ J, J = bl D := ⟨_, rfl⟩
  rw [← hJ] at hdl hds hrb hrs hjo hat hJn ⊢
  obtain ⟨n, hn⟩ : ∃ n, n = D.length := ⟨_, rfl⟩
  obtain ⟨m, hm⟩ : ∃ m, m = o.length := ⟨_, rfl⟩
  rw [← hn] at h63 c57 hmk hJn hn6 hat ⊢
  rw [← hm] at h12 c57 hJn hrb hjo hoa ⊢
  have hz := Lib.hid (show hr J o 0 = 0 from rfl)
  clear hru
  replace hn := Lib.hid hn
  replace hm := Lib.hid hm
  replace hJ := Lib.hid hJ
  replace hlen := Lib.hid hlen
  replace he := Lib.hid he
  replace c57 := Lib.hid c57
  replace hmk := Lib.hid hmk
  replace hJn := Lib.hid hJn
  replace hdl := Lib.hid hdl
  replace hcl := Lib.hid hcl
  replace hds := Lib.hid hds
  replace hrb := Lib.hid hrb
  replace hrs := Lib.hid hrs
  replace hjo := Lib.hid hjo
  replace hat := Lib.hid hat
  replace hoa := Lib.hid hoa
  replace hv := Lib.hid hv
  replace hor := Lib.hid hor
  replace hL := Lib.hid hL
  replace h := Lib.hid h
  replace ho := Lib.hid ho
  go_enter Try.func25, Try.ntmps25
  go_wp2_with fail
  refine c57.out.mono ?_
  rintro e X1 ⟨rfl, hb1⟩
  have hm1 := hmk.out X1
  have hL0 := mkS_lls X1 n
  have hb2 := bel_trans hb1 (mkS_below X1 n)
  have hz1 := hb1.size
  have hgz := hL0.blk.lt
  obtain ⟨Y1, hY1⟩ : ∃ Y, Y = mkS X1 n := ⟨_, rfl⟩
  rw [← hY1] at hm1 hL0 hb2 hgz
  obtain ⟨g0, hg0⟩ : ∃ g, g = X1.heap.size := ⟨_, rfl⟩
  rw [← hg0] at hm1 hL0 hz1 hgz
  have hL1 : Lls (g0 + 1) g0 n (fun _ => .slice none 0 0) (fun b => dnl J o (b : Nat) 0) Y1 := hL0
  replace hb1 := Lib.hid hb1
  replace hb2 := Lib.hid hb2
  replace hL1 := Lib.hid hL1
  replace hY1 := Lib.hid hY1
  replace hg0 := Lib.hid hg0
  clear hL0
  go_wp2
  go_loopw [8, 9, 10] (fun s i _ X => ∃ (k : Nat) (V : Nat → Value), k ≤ m ∧ i = .int .i64 (k : Nat) ∧ s = .int .i64 (hr J o k) ∧ Below w.heap.size w X ∧ Lls (g0 + 1) g0 n V (fun b => dnl J o (b : Nat) k) X) (fun _ i _ _ => m - (intOf i).toNat)
  case atStart => exact ⟨0, _, by omega, rfl, by rw [hz.out], hb2.out, hL1.out⟩
  case round =>
    clear hb2 hL1
    obtain ⟨k, V, hk, rfl, rfl, hX, hLs⟩ := hrel
    by_cases hlk : k < m
    · obtain ⟨bn, q, x1, x2, x3, x4, x5⟩ := hJn.out k hlk
      obtain ⟨bo, oo, rfl, _, u0⟩ := hoa.out wr hX k (hlk)
      rw [x1] at u0
      obtain ⟨b, o', rfl, hb, e0, hjb⟩ := hat.out wr hX bn x2
      obtain ⟨b2, o2, hA, hb2, d0, d1⟩ := hjb.at_ q x4
      rw [hA] at e0
      generalize (bc D bn).c = ck at *
      have hj1 := hjo.out k hlk
      have hs1 := hrs.out k
      obtain ⟨r1, r2⟩ := hrb.out k hk
      rw [x5] at hj1 hs1
      obtain ⟨L, hL⟩ : ∃ L, L = (be J bn).length := ⟨_, rfl⟩
      rw [← hL] at e0 x4
      generalize jb (be J bn) q = x at *
      have hst := hds.out k bn x1
      obtain ⟨H1, hH1⟩ : ∃ H, H = hr J o k := ⟨_, rfl⟩
      obtain ⟨H2, hH2⟩ : ∃ H, H = hr J o (k + 1) := ⟨_, rfl⟩
      rw [← hH1] at hs1 r1 r2 ⊢
      rw [← hH2] at hs1 hst
      have hq9 : q ≤ 12 := by have := hcl.out (bn : Nat) k; omega
      obtain ⟨⟨h1, h2⟩, h3, h4⟩ := hj1
      have H19 : 0 ≤ H1 ∧ H1 ≤ 10000 := by omega
      have hsw : IntKind.i64.wrap (H1 + x.h) = H2 := by rw [IntWalk.i64_in _ (by omega)]; exact hs1.symm
      clear r1 r2
      have hoV := hLs.own bn x2
      obtain ⟨F, hF⟩ : ∃ F, F = dnl J o (bn : Nat) k := ⟨_, rfl⟩
      have hFl : F.length = q := by rw [hF, hdl.out, x3]
      rw [← hF, hFl] at hoV
      obtain ⟨Av, cv, hVe⟩ := own_slice hoV
      have y4 := hLs.blk.cell x2
      have f4 := hLs.blk.fz bn
      rw [hVe] at y4
      have x4i : (q : Int) < (L : Int) := by omega
      have x2i : (bn : Int) < (n : Int) := by omega
      replace hoV := Lib.hid hoV
      replace hVe := Lib.hid hVe
      replace hFl := Lib.hid hFl
      replace hF := Lib.hid hF
      replace hst := Lib.hid hst
      replace hH1 := Lib.hid hH1
      replace hH2 := Lib.hid hH2
      replace hL := Lib.hid hL
      replace hs1 := Lib.hid hs1
      replace x1 := Lib.hid x1
      replace x3 := Lib.hid x3
      replace x5 := Lib.hid x5
      replace hA := Lib.hid hA
      replace hjb := Lib.hid hjb
      replace hX := Lib.hid hX
      replace hLs := Lib.hid hLs
      go_wp2
      go_quiet (fail)
      have hXZ : Below w.heap.size w (wr.drewN nq) := below_drewN hX.out nq
      have hLZ : Lls (g0 + 1) g0 n V (fun b => dnl J o (b : Nat) k) (wr.drewN nq) := ⟨hLs.out.blk, hLs.out.lt, hLs.out.own, hLs.out.dis⟩
      have y4' : (wr.drewN nq).cell? ⟨g0, bn, none⟩ = some (Value.slice Av q cv) := y4
      clear y4 f4 u0 e0 d0 d1 hX hLs hjb
      generalize wr.drewN nq = Z at hXZ hLZ y4' ⊢
      obtain ⟨Zd, hZd⟩ : ∃ Zd, Zd = Z.alloc (.cells #[.int .i64 H2] 3) := ⟨_, rfl⟩
      have hbZd : Below Z.heap.size Z Zd := by rw [hZd]; exact ba1 Z (.cells #[.int .i64 H2] 3)
      have own1 : Zd.ownsRow (g0 + 1) 3 1 (.slice Av q cv) q (vals F) := by
        have := own_up (hLZ.own bn x2) hbZd
        rw [hVe.out, ← hF.out, hFl.out] at this
        exact this
      have news1 : ∀ j u, [Value.int .i64 H2][j]? = some u → Zd.cell? ((⟨Z.heap.size, 0, none⟩ : Addr).add j) = some u :=
        World.news_of_block (w := Zd) (by rw [hZd]; exact World.alloc_heap_new Z (.cells #[.int .i64 H2] 3))
      have hgZ := hLZ.blk.lt
      have rest1 : ∀ v' w2, w2.ownsRow (g0 + 1) 3 1 v' (q + 1) (vals F ++ [.int .i64 H2]) → Zd.grownBy w2 (Value.slice Av q cv).ownBlock → (v'.ownBlock = (Value.slice Av q cv).ownBlock ∨ v'.ownBlock = some Zd.heap.size) →
          w2.cell? ⟨g0, bn, none⟩ = some (.slice Av q cv) ∧ w2.frozen? ⟨g0, bn, none⟩ = false ∧
          Below w.heap.size w (w2.setCell ⟨g0, bn, none⟩ v') ∧
          (∃ V', Lls (g0 + 1) g0 n V' (fun b => dnl J o (b : Nat) (k + 1)) (w2.setCell ⟨g0, bn, none⟩ v')) := fun v' w2 hown hgrow hat => by
        have k0 : w2.heap[g0]? = Z.heap[g0]? := (hgrow.block g0 (by have := hbZd.size; omega) (fun e => by have := (own1.lt g0 e.symm).1; omega)).trans (hbZd.block g0 hgZ)
        have hLd : Lls (g0 + 1) g0 n V (fun b => dnl J o (b : Nat) k) Zd := hLZ.up hbZd
        have hVo : (V bn).ownBlock = (Value.slice Av q cv).ownBlock := by rw [hVe.out]
        have hg1 : Zd.grownBy w2 (V bn).ownBlock := by rw [hVo]; exact hgrow
        refine ⟨by rw [← y4']; exact World.cell?_of_block k0, (World.frozen?_of_block (a := ⟨g0, bn, none⟩) k0).trans (hLZ.blk.fz bn), hLd.below (bel_trans hXZ hbZd) hz1 x2 hg1, ⟨_, (hLd.app x2 (z := H2) (by rw [← hF.out, hFl.out]; exact hown) hg1 (by rw [hVo]; exact hat)).congr fun b hb => ?_⟩⟩
        rw [hst.out b, ← hF.out]
      have hZ9 : Zd.heap.size = Z.heap.size + 1 := by rw [hZd]; simp
      have hgz9 : g0 + 1 ≤ Zd.heap.size := by omega
      replace own1 := Lib.hid own1
      replace news1 := Lib.hid news1
      replace rest1 := Lib.hid rest1
      replace hXZ := Lib.hid hXZ
      replace hLZ := Lib.hid hLZ
      replace hbZd := Lib.hid hbZd
      replace hZ9 := Lib.hid hZ9
      clear hoV
      subst hZd
      go_wp2_with (at_builtin
                   refine wpList_append_own_at _ rfl (.tmp 49) (.tmp 51) 23 rfl (g0 + 1) 3 i3 (.int .i64 0) 1 8 Try.underlying23 ji.out jz0.out jz1.out jz2.out rfl (by decide) _ q _ rfl own1.out ⟨Z.heap.size, 0, none⟩ 1 1 [.int .i64 H2] rfl rfl news1.out (fun u hu => by cases List.mem_singleton.1 hu; rfl) (by unfold maxLen; omega) (by omega) hgz9 ?_
                   intro v' w2 hown1 hgrow _ hat
                   obtain ⟨c4, f4, m1, m3⟩ := rest1.out v' w2 hown1 hgrow hat
                   obtain ⟨A1, c1, rfl⟩ := own_slice hown1
                   replace m1 := Lib.hid m1
                   replace m3 := Lib.hid m3
                   clear hown1 hgrow hat)
      go_roundw
      case rel => obtain ⟨V', m3'⟩ := m3.out; exact ⟨k + 1, V', by omega, by go_num, by rw [← hH2.out], m1.out, m3'⟩
      case measure => simp [intOf]; omega
    · have hk' : k = m := by omega
      subst hk'
      replace hX := Lib.hid hX
      replace hLs := Lib.hid hLs
      go_wp2
      exact bodyPost_ret (v := .tuple #[.slice (some ⟨g0, 0, none⟩) n n, .int .i64 0]) (by simp [results, Try.results25, go_sem]) rfl ⟨g0, g0 + 1, V, rfl, hX.out, by omega, hLs.out⟩

set_option maxRecDepth 100000 in
set_option maxHeartbeats 8000000 in
theorem harm_ref (B : Nat) (A Ao : Option Addr) (c co : Nat) (D : List Bc) (o : List Int) (w : World) (h : Bcs w B A D) (ho : Row w B Ao o) (hB : B ≤ w.heap.size) (hL : ∀ i, i < D.length → (be (bl D) i).length ≤ 100) (he : errO (bl D) o = 0) :
    Calls Try.prog 58 #[.slice A D.length c, .slice Ao o.length co] w fun e w' => e = .returned (.int .i64 (hm (bl D) o o.length)) ∧ Below w.heap.size w w' := by
  have h63 := h.1
  have hlen := bl_len D
  have c25 := Done_ref B A Ao c co D o w h ho hB hL he
  unfold DnP at c25
  obtain ⟨hv, hor⟩ := errO_ok he
  obtain ⟨-, h12, hin, hcn, hru⟩ := ord_spec hv hor
  have hn6 : D.length ≤ 6 := by have := hv.1.2; rw [hlen] at this; exact this
  have hat := fun X (hX : Below w.heap.size w X) k (hk : k < D.length) => (h.below (hX.mono hB)).at_ k hk
  rw [hlen] at hin hcn
  have hR := wt_hm (J := bl D) hin o.length (Nat.le_refl _)
  have hws : ∀ k, k < D.length → ∀ i, i ≤ (be (bl D) k).length → 0 ≤ ws (dnl (bl D) o (k : Nat) o.length) (be (bl D) k) i ∧ ws (dnl (bl D) o (k : Nat) o.length) (be (bl D) k) i ≤ 120000 * i := fun k hk i hi => ws_b (dnl_b hv hru h12 _ _ (Nat.le_refl _)) (hv.2.2 k (by rw [hlen]; exact hk)) i (by rw [dnl_len, hcn k hk]; exact hi) hi
  have hwn : ∀ k, k ≤ D.length → 0 ≤ wt (bl D) o o.length k ∧ wt (bl D) o o.length k ≤ 1440000 * k := by
    intro k
    induction k with
    | zero => intro _; exact ⟨Int.le_refl _, Int.le_refl _⟩
    | succ k ih =>
      intro hk
      have h1 := ih (by omega)
      have h2 := hws k (by omega) (be (bl D) k).length (Nat.le_refl _)
      have h3 := Nat.le_trans (be_le (show k < (bl D).length by rw [hlen]; omega)) hv.2.1
      rw [wt_succ, hcn k (by omega)]
      omega
  have hwsu : ∀ k, k < D.length → wt (bl D) o o.length (k + 1) = wt (bl D) o o.length k + ws (dnl (bl D) o (k : Nat) o.length) (be (bl D) k) (be (bl D) k).length := fun k hk => by rw [wt_succ, hcn k hk]
  have hbl := fun i (hi : i < D.length) => Nat.le_trans (be_le (show i < (bl D).length by rw [hlen]; exact hi)) hv.2.1
  have hok : ∀ k, k < D.length → ∀ i, i < (be (bl D) k).length → okJ (jb (be (bl D) k) i) := fun k hk => hv.2.2 k (by rw [hlen]; exact hk)
  have hfl : ∀ k, k < D.length → (dnl (bl D) o (k : Nat) o.length).length = (be (bl D) k).length := fun k hk => by rw [dnl_len, hcn k hk]
  have hfb := fun k => dnl_b hv hru h12 ((k : Nat) : Int) o.length (Nat.le_refl _)
  have hwss := ws_succ
  obtain ⟨J, hJ⟩ : ∃ J, J = bl D := ⟨_, rfl⟩
  rw [← hJ] at c25 hat hR hws hwn hwsu hbl hok hfl hfb ⊢
  obtain ⟨n, hn⟩ : ∃ n, n = D.length := ⟨_, rfl⟩
  obtain ⟨m, hm'⟩ : ∃ m, m = o.length := ⟨_, rfl⟩
  rw [← hn] at h63 c25 hat hn6 hws hwn hwsu hbl hok hfl hR ⊢
  rw [← hm'] at h12 c25 hR hws hwn hwsu hfl hfb ⊢
  obtain ⟨R, hRR⟩ : ∃ R, R = hm J o m := ⟨_, rfl⟩
  rw [← hRR] at hR ⊢
  have hz := Lib.hid (show wt J o m 0 = 0 from rfl)
  clear hru hin hcn
  replace hRR := Lib.hid hRR
  replace hR := Lib.hid hR
  replace hn := Lib.hid hn
  replace hm' := Lib.hid hm'
  replace hJ := Lib.hid hJ
  replace hlen := Lib.hid hlen
  replace he := Lib.hid he
  replace c25 := Lib.hid c25
  replace hat := Lib.hid hat
  replace hws := Lib.hid hws
  replace hwn := Lib.hid hwn
  replace hwsu := Lib.hid hwsu
  replace hwss := Lib.hid hwss
  replace hbl := Lib.hid hbl
  replace hok := Lib.hid hok
  replace hfl := Lib.hid hfl
  replace hfb := Lib.hid hfb
  replace hv := Lib.hid hv
  replace hor := Lib.hid hor
  replace hL := Lib.hid hL
  replace h := Lib.hid h
  replace ho := Lib.hid ho
  go_enter Try.func58, Try.ntmps58
  go_wp2_with fail
  refine c25.out.mono ?_
  rintro e X1 ⟨g, base, V, rfl, hb1, hg, hLs⟩
  replace hb1 := Lib.hid hb1
  replace hLs := Lib.hid hLs
  have hg1 := hLs.out.blk.lt
  go_wp2
  go_loopw [7, 8, 9] (fun s i _ X => ∃ k : Nat, k ≤ n ∧ i = .int .i64 (k : Nat) ∧ s = .int .i64 (wt J o m k) ∧ ∃ nd, X = X1.drewN nd) (fun _ i _ _ => n - (intOf i).toNat)
  case atStart => exact ⟨0, by omega, rfl, by rw [hz.out], 0, rfl⟩
  case round =>
    obtain ⟨k, hk, rfl, rfl, nd, hX⟩ := hrel
    have hXb : Below w.heap.size w wr := by rw [hX]; exact below_drewN hb1.out nd
    have hLr : Lls base g n V (fun b => dnl J o (b : Nat) m) wr := by rw [hX]; exact ⟨hLs.out.blk, hLs.out.lt, hLs.out.own, hLs.out.dis⟩
    by_cases hlk : k < n
    · obtain ⟨b, o', hAA, hb, e0, hjb⟩ := hat.out wr hXb k hlk
      have hL12 := hbl.out k hlk
      have hs1 := hwsu.out k hlk
      obtain ⟨q1, q2⟩ := hwn.out k hk
      obtain ⟨q3, q4⟩ := hwn.out (k + 1) hlk
      have hw1 := hws.out k hlk
      have hok1 := hok.out k hlk
      have hfl1 := hfl.out k hlk
      have hfb1 := hfb.out k
      have y4 := hLr.blk.cell hlk
      have hoV := hLr.own k hlk
      obtain ⟨Av, cv, hVe, hrow⟩ := own_row hoV (by rw [hfl1]; omega)
      rw [hVe] at y4
      obtain ⟨F, hF⟩ : ∃ F, F = dnl J o (k : Nat) m := ⟨_, rfl⟩
      rw [← hF] at y4 hrow hfl1 hfb1 hw1 hs1
      rw [hfl1] at y4
      obtain ⟨l, hl⟩ : ∃ l, l = be J k := ⟨_, rfl⟩
      rw [← hl] at e0 hjb hL12 hs1 hw1 hok1 hfl1 y4
      obtain ⟨S, hS⟩ : ∃ S, S = wt J o m k := ⟨_, rfl⟩
      rw [← hS] at hs1 q1 q2 ⊢
      obtain ⟨S2, hS2⟩ : ∃ S, S = wt J o m (k + 1) := ⟨_, rfl⟩
      rw [← hS2] at hs1 q3 q4
      obtain ⟨L, hL'⟩ : ∃ L, L = l.length := ⟨_, rfl⟩
      rw [← hL'] at e0 hL12 hs1 hw1 hok1 hfl1 y4
      have hss := hwss.out F l
      have hz2 := Lib.hid (show S + ws F l 0 = S from Int.add_zero _)
      obtain ⟨A2, hA2⟩ : ∃ A2, A2 = (bc D k).A := ⟨_, rfl⟩
      obtain ⟨c2, hc2⟩ : ∃ c2, c2 = (bc D k).c := ⟨_, rfl⟩
      rw [← hA2, ← hc2] at e0
      rw [← hA2] at hjb
      have hj2 := hjb.at_
      rw [← hL'] at hj2
      have hr2 := hrow.at_
      rw [hfl1] at hr2 hfb1
      have hXk : ∀ p, wr.cell? p = X1.cell? p := fun p => by rw [hX]; rfl
      have e0' := (hXk _).symm.trans e0
      have y4' := (hXk _).symm.trans y4
      have hj3 : ∀ t, t < L → ∃ b o, A2 = some ⟨b, o, none⟩ ∧ X1.cell? ⟨b, o + t * 2, none⟩ = some (.int .i64 (jb l t).h) ∧ X1.cell? ⟨b, o + t * 2 + 1, none⟩ = some (.int .i64 (jb l t).m) := fun t ht => by
        obtain ⟨b, o, h1, _, h2, h3⟩ := hj2 t ht
        exact ⟨b, o, h1, (hXk _).symm.trans h2, (hXk _).symm.trans h3⟩
      have hr3 : ∀ t, t < L → ∃ b o, Av = some ⟨b, o, none⟩ ∧ X1.cell? ⟨b, o + t, none⟩ = some (.int .i64 (el F t)) := fun t ht => by
        obtain ⟨b, o, h1, _, h2⟩ := hr2 t ht
        exact ⟨b, o, h1, (hXk _).symm.trans h2⟩
      have hwz : ∃ nd, wr = X1.drewN nd := ⟨nd, hX⟩
      clear e0 y4 hj2 hr2 hXk hXb hX
      subst hAA
      replace hLr := Lib.hid hLr
      replace hwz := Lib.hid hwz
      replace hj3 := Lib.hid hj3
      replace hr3 := Lib.hid hr3
      replace hjb := Lib.hid hjb
      replace hrow := Lib.hid hrow
      replace hoV := Lib.hid hoV
      replace hVe := Lib.hid hVe
      replace hS := Lib.hid hS
      replace hS2 := Lib.hid hS2
      replace hs1 := Lib.hid hs1
      replace hw1 := Lib.hid hw1
      replace hok1 := Lib.hid hok1
      replace hfl1 := Lib.hid hfl1
      replace hfb1 := Lib.hid hfb1
      replace hl := Lib.hid hl
      replace hL' := Lib.hid hL'
      replace hss := Lib.hid hss
      replace hA2 := Lib.hid hA2
      replace hc2 := Lib.hid hc2
      replace hF := Lib.hid hF
      go_wp2
      go_loopw [7, 9] (fun s i X => ∃ t : Nat, t ≤ L ∧ i = .int .i64 (t : Nat) ∧ s = .int .i64 (S + ws F l t) ∧ ∃ nd, X = X1.drewN nd) (fun _ i _ => L - (intOf i).toNat)
      case atStart => exact ⟨0, by omega, rfl, by rw [hz2.out], hwz.out⟩
      case round =>
        obtain ⟨t, ht, rfl, rfl, nd2, hX2⟩ := hrel
        have hXk : ∀ p, wr.cell? p = X1.cell? p := fun p => by rw [hX2]; rfl
        by_cases hlt : t < L
        · obtain ⟨b2, o2, rfl, f0, f1⟩ := hj3.out t hlt
          obtain ⟨b3, o3, rfl, f2⟩ := hr3.out t hlt
          have g0 := (hXk _).trans e0'
          have g1 := (hXk _).trans y4'
          have g2 := (hXk _).trans f0
          have g3 := (hXk _).trans f1
          have g4 := (hXk _).trans f2
          obtain ⟨r1, r2⟩ := hw1.out t (by omega)
          obtain ⟨r3, r4⟩ := hw1.out (t + 1) (by omega)
          obtain ⟨_, r5, r6⟩ := hok1.out t hlt
          obtain ⟨r7, r8⟩ := hfb1.out t hlt
          have hs2 := hss.out t
          obtain ⟨M1, hM1⟩ : ∃ H, H = (jb l t).m := ⟨_, rfl⟩
          rw [← hM1] at f1 g3 hs2 r5 r6
          obtain ⟨E1, hE1⟩ : ∃ H, H = el F t := ⟨_, rfl⟩
          rw [← hE1] at f2 g4 hs2 r7 r8
          obtain ⟨T1, hT1⟩ : ∃ T, T = S + ws F l t := ⟨_, rfl⟩
          obtain ⟨T2, hT2⟩ : ∃ T, T = S + ws F l (t + 1) := ⟨_, rfl⟩
          obtain ⟨P, hP⟩ : ∃ P, P = E1 * M1 := ⟨_, rfl⟩
          have p1 : 0 ≤ P := by rw [hP]; exact Int.mul_nonneg r7 r5
          have p2 : P ≤ 1200 * 100 := by rw [hP]; exact Int.mul_le_mul r8 r6 r5 (by omega)
          rw [← hP] at hs2
          have hT : T1 + P = T2 := by rw [hT1, hT2, hs2]; omega
          have w1 : IntKind.i64.wrap (E1 * M1) = P := by rw [← hP]; exact IntWalk.i64_in _ (by omega)
          have w2 : IntKind.i64.wrap (T1 + P) = T2 := by rw [hT]; exact IntWalk.i64_in _ (by omega)
          rw [← hT1]
          clear f0 f1 f2
          have hti : (t : Int) < (L : Int) := by omega
          have hki : (k : Int) < (n : Int) := by omega
          replace hT1 := Lib.hid hT1
          replace hT2 := Lib.hid hT2
          replace hT := Lib.hid hT
          replace hP := Lib.hid hP
          replace hs2 := Lib.hid hs2
          replace hM1 := Lib.hid hM1
          replace hE1 := Lib.hid hE1
          replace hX2 := Lib.hid hX2
          clear r1 r2 r3 r4 hXk
          go_wp2
          go_quiet (fail)
          go_wp2
          go_roundw
          case rel => exact ⟨t + 1, by omega, by go_num, by rw [← hT2.out], nd2 + nq, by rw [hX2.out, World.drewN_drewN]⟩
          case measure => simp [intOf]; omega
        · have ht' : t = L := by omega
          subst ht'
          have g0 := (hXk _).trans e0'
          rw [← hs1.out]
          replace hX2 := Lib.hid hX2
          clear hXk
          go_wp2
          go_roundw
          case rel => exact ⟨k + 1, by omega, by go_num, by rw [← hS2.out], nd2, hX2.out⟩
          case measure => simp [intOf]; omega
    · have hk' : k = n := by omega
      subst hk'
      rw [hR.out]
      replace hX := Lib.hid hX
      replace hXb := Lib.hid hXb
      replace hLr := Lib.hid hLr
      go_wp2
      go_ret
      exact ⟨rfl, hXb.out⟩

set_option maxRecDepth 100000 in
set_option maxHeartbeats 4000000 in
theorem Harm_ref (B : Nat) (A Ao : Option Addr) (c co : Nat) (D : List Bc) (o : List Int) (w : World) (h : Bcs w B A D) (ho : Row w B Ao o) (hB : B ≤ w.heap.size) (hL : ∀ i, i < D.length → (be (bl D) i).length ≤ 100) :
    Calls Try.prog 21 #[.slice A D.length c, .slice Ao o.length co] w fun e w' => e = .returned (.tuple #[.int .i64 (haR (bl D) o).1, .int .i64 (haR (bl D) o).2]) ∧ Below w.heap.size w w' := by
  have h63 := h.1
  have ho63 := ho.1
  have c57 := asked_ref B A Ao c co D o w h ho hB hL
  unfold haR
  by_cases he : errO (bl D) o = 0
  · rw [if_pos he]
    have c58 := fun X (hX : Below w.heap.size w X) => harm_ref B A Ao c co D o X (h.below (hX.mono hB)) (ho.below (hX.mono hB)) (Nat.le_trans hB hX.size) hL he
    rw [he] at c57
    simp only []
    obtain ⟨R, hR⟩ : ∃ R, R = hm (bl D) o o.length := ⟨_, rfl⟩
    rw [← hR] at c58 ⊢
    generalize D.length = n at *
    generalize o.length = m at *
    replace hR := Lib.hid hR
    replace he := Lib.hid he
    replace c57 := Lib.hid c57
    replace c58 := Lib.hid c58
    replace hL := Lib.hid hL
    replace h := Lib.hid h
    replace ho := Lib.hid ho
    go_enter Try.func21, Try.ntmps21
    go_wp2_with fail
    refine c57.out.mono ?_
    rintro e X1 ⟨rfl, hb1⟩
    have k58 := Lib.hid (c58.out X1 hb1)
    replace hb1 := Lib.hid hb1
    go_wp2_with fail
    refine k58.out.mono ?_
    rintro e X2 ⟨rfl, hb2⟩
    have hend := Lib.hid (bel_trans hb1.out hb2)
    clear hb2
    go_wp2
    exact bodyPost_ret (v := .tuple #[.int .i64 R, .int .i64 0]) (by simp [results, Try.results21, go_sem]) rfl ⟨rfl, hend.out⟩
  · rw [if_neg he]
    simp only []
    obtain ⟨E, hE⟩ : ∃ E, E = errO (bl D) o := ⟨_, rfl⟩
    rw [← hE] at c57 he ⊢
    generalize D.length = n at *
    generalize o.length = m at *
    replace hE := Lib.hid hE
    replace c57 := Lib.hid c57
    replace hL := Lib.hid hL
    replace h := Lib.hid h
    replace ho := Lib.hid ho
    go_enter Try.func21, Try.ntmps21
    go_wp2_with fail
    refine c57.out.mono ?_
    rintro e X1 ⟨rfl, hb1⟩
    replace hb1 := Lib.hid hb1
    go_wp2
    exact bodyPost_ret (v := .tuple #[.int .i64 0, .int .i64 E]) (by simp [results, Try.results21, go_sem]) rfl ⟨rfl, hb1.out⟩
end Go.Proofs.Ytgjgpcpghglnnaa
