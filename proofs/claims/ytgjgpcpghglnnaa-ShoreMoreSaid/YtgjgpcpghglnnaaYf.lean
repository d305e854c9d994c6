/-
  Done: the program's function.
-/
import Derived.Test.YtgjgpcpghglnnaaYe
namespace Go.Proofs.Ytgjgpcpghglnnaa
open Go.RowKit Go.Deep M
set_option linter.unusedVariables false
set_option linter.unusedSimpArgs false

theorem run_mkS (w : World) (n : Nat) (hn : n ≤ 1000000) : (Instr.makeSlice 32 (.int .i64 n) (.int .i64 n)).run Try.prog w = .ok (.slice (some ⟨w.heap.size, 0, none⟩) n n) (mkS w n) := by
  have hi := info23
  cases h : Try.prog.info? 23 with
  | none => rw [h] at hi; cases hi
  | some i =>
    rw [h] at hi
    simp only [Option.map_some, Option.some.injEq, Prod.mk.injEq] at hi
    obtain ⟨h1, h2, h3⟩ := hi
    have := run_make (P := Try.prog) w 32 23 i (.slice none 0 0) Try.underlying32 h h1 .i64 .i64 (n : Int) (n : Int) (by omega) (Int.le_refl _) (by rw [h3]; omega) (by omega)
    rw [this, h2]
    simp [mkS, Value.cells]
/-- What Done answers of an order: the hours of each beach. -/
def DnP (J : List (List Jb)) (o : List Int) (n m : Nat) (w : World) (e : Ending) (w' : World) : Prop :=
  ∃ g base V, e = .returned (.tuple #[.slice (some ⟨g, 0, none⟩) n n, .int .i64 0]) ∧ Below w.heap.size w w' ∧ w.heap.size ≤ g ∧ Lls base g n V (fun b => dnl J o (b : Nat) m) w'
theorem blv_ne {X : World} {g g' n m : Nat} {G : Nat → Nat → Int} {V : Nat → Value} (h : BlV X g m G) (h' : BlS X g' n V) : g' ≠ g := by
  rintro rfl
  obtain ⟨cs, h1, _⟩ := h
  obtain ⟨cs', h2, _⟩ := h'
  rw [h1] at h2
  injection h2 with h2
  injection h2 with _ h2 _
  exact absurd h2 (by decide)
theorem Done_bad (B : Nat) (A Ao : Option Addr) (c co : Nat) (D : List Bc) (o : List Int) (w : World) (h : Bcs w B A D) (ho : Row w B Ao o) (hB : B ≤ w.heap.size) (hL : ∀ i, i < D.length → (be (bl D) i).length ≤ 100) (he : ¬ errO (bl D) o = 0) :
    Calls Try.prog 24 #[.slice A D.length c, .slice Ao o.length co] w fun e w' => e = .returned (.tuple #[.slice none 0 0, .int .i64 (errO (bl D) o)]) ∧ Below w.heap.size w w' := by
  have h63 := h.1
  have ho63 := ho.1
  have c55 := checkedOrder_any B A Ao c co D o w h ho hB hL
  obtain ⟨E, hE⟩ : ∃ E, E = errO (bl D) o := ⟨_, rfl⟩
  rw [← hE] at c55 he ⊢
  generalize D.length = n at *
  generalize o.length = m at *
  replace hE := Lib.hid hE
  replace c55 := Lib.hid c55
  replace hL := Lib.hid hL
  replace h := Lib.hid h
  replace ho := Lib.hid ho
  go_enter Try.func24, Try.ntmps24
  go_wp2_with fail
  refine c55.out.mono ?_
  rintro e X1 ⟨rfl, hb1⟩
  replace hb1 := Lib.hid hb1
  go_wp2
  exact bodyPost_ret (v := .tuple #[.slice none 0 0, .int .i64 E]) (by simp [results, Try.results24, go_sem]) rfl ⟨rfl, hb1.out⟩

set_option maxRecDepth 100000 in
set_option maxHeartbeats 8000000 in
theorem Done_good (B : Nat) (A Ao : Option Addr) (c co : Nat) (D : List Bc) (o : List Int) (w : World) (h : Bcs w B A D) (ho : Row w B Ao o) (hB : B ≤ w.heap.size) (hL : ∀ i, i < D.length → (be (bl D) i).length ≤ 100) (he : errO (bl D) o = 0) :
    Calls Try.prog 24 #[.slice A D.length c, .slice Ao o.length co] w (DnP (bl D) o D.length o.length w) := by
  have h63 := h.1
  have hlen := bl_len D
  have c55 := checkedOrder_any B A Ao c co D o w h ho hB hL
  rw [he] at c55
  obtain ⟨hv, hor⟩ := errO_ok he
  obtain ⟨-, h12, hin, -, hrn⟩ := ord_spec hv hor
  have hn6 : D.length ≤ 6 := by have := hv.1.2; rw [hlen] at this; exact this
  have c61 := fun X (hX : Below w.heap.size w X) => visits_any B A Ao c co D o X (h.below (hX.mono hB)) (ho.below (hX.mono hB)) (Nat.le_trans hB hX.size) hv hrn h12
  have hmk := fun X => run_mkS X D.length (by omega)
  obtain ⟨i3, ji, jz0, jz1, jz2⟩ := info_parts info3
  replace ji := Lib.hid ji
  replace jz0 := Lib.hid jz0
  replace jz1 := Lib.hid jz1
  replace jz2 := Lib.hid jz2
  rw [hlen] at hin
  have hJn : ∀ k, k < o.length → ∃ bn : Nat, el o k = (bn : Nat) ∧ bn < D.length := fun k hk => by
    obtain ⟨r1, r2⟩ := hin k hk
    obtain ⟨bn, hbn⟩ := Int.eq_ofNat_of_zero_le r1
    exact ⟨bn, hbn, by omega⟩
  have hdl := dnl_len (bl D) o
  have hcl := fun b k => cnt_le o b k
  have hds := fun k i (hh : el o k = ((i : Nat) : Int)) => dnl_step (bl D) o hh
  obtain ⟨J, hJ⟩ : ∃ J, J = bl D := ⟨_, rfl⟩
  rw [← hJ] at c61 hdl hds ⊢
  obtain ⟨n, hn⟩ : ∃ n, n = D.length := ⟨_, rfl⟩
  obtain ⟨m, hm⟩ : ∃ m, m = o.length := ⟨_, rfl⟩
  rw [← hn] at h63 c55 c61 hmk hJn hn6 ⊢
  rw [← hm] at h12 c55 c61 hJn ⊢
  replace hn := Lib.hid hn
  replace hm := Lib.hid hm
  replace hJ := Lib.hid hJ
  replace hlen := Lib.hid hlen
  replace he := Lib.hid he
  replace c55 := Lib.hid c55
  replace c61 := Lib.hid c61
  replace hmk := Lib.hid hmk
  replace hJn := Lib.hid hJn
  replace hin := Lib.hid hin
  replace hdl := Lib.hid hdl
  replace hcl := Lib.hid hcl
  replace hds := Lib.hid hds
  replace hv := Lib.hid hv
  replace hor := Lib.hid hor
  replace hrn := Lib.hid hrn
  replace hL := Lib.hid hL
  replace h := Lib.hid h
  replace ho := Lib.hid ho
  go_enter Try.func24, Try.ntmps24
  go_wp2_with fail
  refine c55.out.mono ?_
  rintro e X1 ⟨rfl, hb1⟩
  have hm1 := hmk.out X1
  have hL0 := mkS_lls X1 n
  have hb2 := bel_trans hb1 (mkS_below X1 n)
  have hz1 := hb1.size
  obtain ⟨Y1, hY1⟩ : ∃ Y, Y = mkS X1 n := ⟨_, rfl⟩
  rw [← hY1] at hm1 hL0 hb2
  obtain ⟨g0, hg0⟩ : ∃ g, g = X1.heap.size := ⟨_, rfl⟩
  rw [← hg0] at hm1 hL0 hz1
  have k61 := Lib.hid (c61.out Y1 hb2)
  replace hb1 := Lib.hid hb1
  replace hb2 := Lib.hid hb2
  replace hL0 := Lib.hid hL0
  replace hY1 := Lib.hid hY1
  replace hg0 := Lib.hid hg0
  go_wp2_with fail
  refine k61.out.mono ?_
  rintro e X2 ⟨g, rfl, hb3, hV⟩
  have hX2 := Lib.hid (bel_trans hb2.out hb3)
  have hL1 : Lls X2.heap.size g0 n (fun _ => .slice none 0 0) (fun b => dnl J o (b : Nat) 0) X2 := ⟨(hL0.out.up hb3).blk, (hL0.out.up hb3).blk.lt, fun i hi => World.ownsRow_nil _ _ _ _, fun i k hi hk hne b hb => by cases hb⟩
  have hne := blv_ne hV hL1.blk
  have hgb := hV.lt
  have hg0b := hL1.blk.lt
  obtain ⟨base, hbase⟩ : ∃ b, b = X2.heap.size := ⟨_, rfl⟩
  rw [← hbase] at hL1 hgb hg0b
  replace hL1 := Lib.hid hL1
  replace hV := Lib.hid hV
  replace hbase := Lib.hid hbase
  clear hb3 k61 hm1 hL0 hY1 hmk hg0
  go_wp2
  go_loopw [23] (fun i X => ∃ (k : Nat) (V : Nat → Value), k ≤ m ∧ i = .int .i64 (k : Nat) ∧ Below w.heap.size w X ∧ BlV X g m (vv J o) ∧ Lls base g0 n V (fun b => dnl J o (b : Nat) k) X ∧ base ≤ X.heap.size) (fun i _ => m - (intOf i).toNat)
  case atStart => exact ⟨0, _, by omega, rfl, hX2.out, hV.out, hL1.out, by rw [hbase.out]; exact Nat.le_refl _⟩
  case round =>
    clear hX2 hV hL1 hbase
    obtain ⟨k, V, hk, rfl, hX, hV, hLs, hbX⟩ := hrel
    by_cases hlk : k < m
    · have v0 := hV.cell hlk 0 (by omega)
      have v1 := hV.cell hlk 1 (by omega)
      have v2 := hV.cell hlk 2 (by omega)
      have v3 := hV.cell hlk 3 (by omega)
      rw [Nat.add_zero] at v0
      obtain ⟨bn, hbn, hbn2⟩ := hJn.out k hlk
      have e2 : vv J o k 2 = (bn : Nat) := hbn
      have e3 : vv J o k 3 = hr J o (k + 1) := rfl
      rw [e2] at v2
      rw [e3] at v3
      have hst := hds.out k bn hbn
      obtain ⟨H, hH⟩ : ∃ H, H = vv J o k 0 := ⟨_, rfl⟩
      obtain ⟨Mm, hMm⟩ : ∃ H, H = vv J o k 1 := ⟨_, rfl⟩
      obtain ⟨Dn, hDn⟩ : ∃ H, H = hr J o (k + 1) := ⟨_, rfl⟩
      rw [← hH] at v0
      rw [← hMm] at v1
      rw [← hDn] at v3 hst
      have hba := ba1 wr (.cells #[.int .i64 H, .int .i64 Mm, .int .i64 (bn : Nat), .int .i64 Dn] 67)
      have hXZ := bel_trans hX hba
      have hVZ := hV.up hba
      have hLZ := hLs.up hba
      have hbZ := Nat.le_trans hbX hba.size
      have hbox : (wr.alloc (.cells #[.int .i64 H, .int .i64 Mm, .int .i64 (bn : Nat), .int .i64 Dn] 67)).heap[wr.heap.size]? = some (.cells #[.int .i64 H, .int .i64 Mm, .int .i64 (bn : Nat), .int .i64 Dn] 67 (0, 0)) := heap_alloc_new wr _
      have hbl : wr.heap.size < (wr.alloc (.cells #[.int .i64 H, .int .i64 Mm, .int .i64 (bn : Nat), .int .i64 Dn] 67)).heap.size := by simp
      have hbw : base ≤ wr.heap.size := hbX
      replace hX := Lib.hid hX
      replace hV := Lib.hid hV
      replace hLs := Lib.hid hLs
      replace hba := Lib.hid hba
      replace hXZ := Lib.hid hXZ
      replace hVZ := Lib.hid hVZ
      replace hLZ := Lib.hid hLZ
      replace hbox := Lib.hid hbox
      replace hbn := Lib.hid hbn
      replace e2 := Lib.hid e2
      replace e3 := Lib.hid e3
      replace hst := Lib.hid hst
      replace hH := Lib.hid hH
      replace hMm := Lib.hid hMm
      replace hDn := Lib.hid hDn
      go_wp2
      have hVZ' := hVZ.out
      have hLZ' := hLZ.out
      have hXZ' := hXZ.out
      have hbox' := hbox.out
      clear hVZ hLZ hXZ hbox v0 v1 v2 v3 hba
      obtain ⟨bt, hbt⟩ : ∃ b, b = wr.heap.size := ⟨_, rfl⟩
      generalize wr.alloc (.cells #[.int .i64 H, .int .i64 Mm, .int .i64 (bn : Nat), .int .i64 Dn] 67) = Z at *
      rw [← hbt] at hbl hbw hbox' ⊢
      replace hbt := Lib.hid hbt
      have y2 : Z.cell? ⟨bt, 2, none⟩ = some (.int .i64 (bn : Nat)) := by simp [World.cell?, hbox']
      have y3 : Z.cell? ⟨bt, 3, none⟩ = some (.int .i64 Dn) := by simp [World.cell?, hbox']
      have hoV := hLZ'.own bn hbn2
      have hq : (dnl J o (bn : Nat) k).length ≤ 12 := by rw [hdl.out]; have := hcl.out (bn : Nat) k; omega
      obtain ⟨F, hF⟩ : ∃ F, F = dnl J o (bn : Nat) k := ⟨_, rfl⟩
      have hst' := hst.out
      rw [← hF] at hoV hq hst'
      obtain ⟨q, hqq⟩ : ∃ q, q = F.length := ⟨_, rfl⟩
      rw [← hqq] at hoV hq
      obtain ⟨Av, cv, hVe⟩ := own_slice hoV
      have y4 := hLZ'.blk.cell hbn2
      have hgz := hLZ'.blk.lt
      rw [hVe] at y4
      obtain ⟨Zd, hZd⟩ : ∃ Zd, Zd = (Z.alloc (.cells #[.int .i64 Dn] 3)).drew := ⟨_, rfl⟩
      have hbZd : Below Z.heap.size Z Zd := by rw [hZd]; exact below_drewN (ba1 Z (.cells #[.int .i64 Dn] 3)) 1
      have own1 : Zd.ownsRow base 3 1 (.slice Av q cv) q (vals F) := hVe ▸ own_up hoV hbZd
      have news1 : ∀ j u, [Value.int .i64 Dn][j]? = some u → Zd.cell? ((⟨Z.heap.size, 0, none⟩ : Addr).add j) = some u :=
        World.news_of_block (w := Zd) (by rw [hZd]; exact World.alloc_heap_new Z (.cells #[.int .i64 Dn] 3))
      have hZds : Zd.heap.size = Z.heap.size + 1 := by rw [hZd]; simp
      have rest1 : ∀ ga cap w2, w2.ownsRow base 3 1 (.slice (some ⟨ga, 0, none⟩) (q + 1) cap) (q + 1) (vals F ++ [.int .i64 Dn]) → Zd.grownBy w2 (Value.slice Av q cv).ownBlock → ((Value.slice Av q cv).ownBlock = some ga ∨ ga = Zd.heap.size) →
          w2.cell? ⟨bt, 2, none⟩ = some (.int .i64 (bn : Nat)) ∧ w2.cell? ⟨g0, bn, none⟩ = some (.slice Av q cv) ∧ w2.frozen? ⟨g0, bn, none⟩ = false ∧
          Below w.heap.size w (w2.setCell ⟨g0, bn, none⟩ (.slice (some ⟨ga, 0, none⟩) (q + 1) cap)) ∧ BlV (w2.setCell ⟨g0, bn, none⟩ (.slice (some ⟨ga, 0, none⟩) (q + 1) cap)) g m (vv J o) ∧
          (∃ V', Lls base g0 n V' (fun b => dnl J o (b : Nat) (k + 1)) (w2.setCell ⟨g0, bn, none⟩ (.slice (some ⟨ga, 0, none⟩) (q + 1) cap))) ∧ base ≤ (w2.setCell ⟨g0, bn, none⟩ (.slice (some ⟨ga, 0, none⟩) (q + 1) cap)).heap.size := fun ga cap w2 hown hgrow hat => by
        have hbtn : some bt ≠ (Value.slice Av q cv).ownBlock := fun e => by
          obtain ⟨cur, hc⟩ := own_cells (hVe ▸ hoV) e.symm
          rw [hbox'] at hc
          injection hc with hc
          injection hc with _ hc _
          exact absurd hc (by decide)
        have hlow : ∀ b, b < base → some b ≠ (Value.slice Av q cv).ownBlock := fun b hb e => by
          have := (own1.lt b e.symm).1
          omega
        have k2 : w2.heap[bt]? = Z.heap[bt]? := (hgrow.block bt (by omega) hbtn).trans (hbZd.block bt hbl)
        have k0 : w2.heap[g0]? = Z.heap[g0]? := (hgrow.block g0 (by omega) (hlow g0 hg0b)).trans (hbZd.block g0 hgz)
        have kg : w2.heap[g]? = Z.heap[g]? := (hgrow.block g (by omega) (hlow g hgb)).trans (hbZd.block g (by omega))
        have hLd : Lls base g0 n V (fun b => dnl J o (b : Nat) k) Zd := hLZ'.up hbZd
        have hVo : (V bn).ownBlock = (Value.slice Av q cv).ownBlock := by rw [hVe]
        have hg1 : Zd.grownBy w2 (V bn).ownBlock := by rw [hVo]; exact hgrow
        refine ⟨by rw [← y2]; exact World.cell?_of_block k2, by rw [← y4]; exact World.cell?_of_block k0, (World.frozen?_of_block (a := ⟨g0, bn, none⟩) k0).trans (hLZ'.blk.fz bn), hLd.below (bel_trans hXZ' hbZd) hz1 hbn2 hg1, (hVZ'.to kg).to (setCell_far hne.symm), ⟨_, (hLd.app hbn2 (z := Dn) (by rw [← hF, ← hqq]; exact hown) hg1 (by
          rw [hVo]
          rcases hat with hat | hat
          · exact .inl hat.symm
          · exact .inr (by rw [← hat]; rfl))).congr fun b hb => ?_⟩, ?_⟩
        · rw [hst' b, ← hF]
        · have := hgrow.size
          simp
          omega
      have hz9 : base ≤ Zd.heap.size := by omega
      have hg9 : g0 ≠ Z.heap.size := by omega
      have hb9 : bt ≠ Z.heap.size := by omega
      have hf4 := hLZ'.blk.fz bn
      replace own1 := Lib.hid own1
      replace news1 := Lib.hid news1
      replace rest1 := Lib.hid rest1
      replace hVZ' := Lib.hid hVZ'
      replace hLZ' := Lib.hid hLZ'
      replace hXZ' := Lib.hid hXZ'
      replace hbox' := Lib.hid hbox'
      replace hst' := Lib.hid hst'
      replace hoV := Lib.hid hoV
      replace hbZd := Lib.hid hbZd
      replace hqq := Lib.hid hqq
      replace hF := Lib.hid hF
      replace hVe := Lib.hid hVe
      replace hZds := Lib.hid hZds
      subst hZd
      go_region_law (first | (refine step_append_lies _ rfl (.tmp 34) (.tmp 37) 23 rfl base 3 i3 (.int .i64 0) 1 8 Try.underlying23 ji.out jz0.out jz1.out jz2.out rfl (by decide) _ q _ rfl own1.out ⟨Z.heap.size, 0, none⟩ 1 1 [.int .i64 Dn] rfl rfl news1.out (fun u hu => by cases List.mem_singleton.1 hu; rfl) (by omega) (by unfold maxLen; omega) (by omega) (by simp; omega) _ rfl ?_; intro ga cap w2 hown1 hgrow hat hlt1; obtain ⟨c2, c4, f4, m1, m2, m3, m4⟩ := rest1.out ga cap w2 hown1 hgrow hat; replace m1 := Lib.hid m1; replace m2 := Lib.hid m2; replace m3 := Lib.hid m3; clear hown1 hgrow hat hlt1))
      all_goals
        go_wp2
        go_roundw
        case rel => obtain ⟨V', m3'⟩ := m3.out; exact ⟨k + 1, V', by omega, by go_num, m1.out, m2.out, m3', m4⟩
        case measure => simp [intOf]; omega
    · have hk' : k = m := by omega
      subst hk'
      replace hX := Lib.hid hX
      replace hV := Lib.hid hV
      replace hLs := Lib.hid hLs
      go_wp2
      exact bodyPost_ret (v := .tuple #[.slice (some ⟨g0, 0, none⟩) n n, .int .i64 0]) (by simp [results, Try.results24, go_sem]) rfl ⟨g0, base, V, rfl, hX.out, by omega, hLs.out⟩
end Go.Proofs.Ytgjgpcpghglnnaa
