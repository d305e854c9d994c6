/-
  The lead, the greatest one and the best order of jobs whose Harm may be below 0: the program's functions.
-/
import Derived.Test.YtgjgpcpghglnnaaSc
namespace Go.Proofs.Ytgjgpcpghglnnaa
open Go.RowKit Go.Deep M
set_option linter.unusedVariables false
set_option linter.unusedSimpArgs false

set_option maxRecDepth 100000 in
set_option maxHeartbeats 8000000 in
theorem bestS_any (B : Nat) (A : Option Addr) (c : Nat) (D : List Bc) (w : World) (h : Bcs w B A D) (hB : B ≤ w.heap.size) (hv : vS (bl D)) :
    Calls Try.prog 62 #[.slice A D.length c] w fun e w' => ∃ s v, e = .returned v ∧ Whole (bl D) s ∧ Below w.heap.size w w' ∧ w'.ownsRow (w.heap.size + 1) 3 1 v (ord (bl D) s).length (vals (ord (bl D) s)) := by
  have h63 := h.1
  have hlen := bl_len D
  have hn6 : D.length ≤ 6 := by have := hv.1.2; rw [hlen] at this; exact this
  obtain ⟨i3, ji, jz0, jz1, jz2⟩ := info_parts info3
  replace ji := Lib.hid ji
  replace jz0 := Lib.hid jz0
  replace jz1 := Lib.hid jz1
  replace jz2 := Lib.hid jz2
  have kg := fun s X (hX : Below w.heap.size w X) (hg : BlI X w.heap.size D.length (fun i => (nxt (bl D) s i : Nat))) => greatestS_any B A c w.heap.size D (nxt (bl D) s) X (h.below (hX.mono hB)) (Nat.le_trans hB hX.size) hv hg (nxt_le (bl D) s)
  have hsp := fun s i c => gr_spec (bl D) (nxt (bl D) s) (nxt_le (bl D) s) (bl D).length i c
  have hns := fun s i c => @nxt_some (bl D) s i c
  have hos := fun s i c => @ord_some (bl D) s i c
  have hol := ord_len (bl D)
  have hdl := fun s => dn_le (bl D) (nxt (bl D) s) (nxt_le (bl D) s) (bl D).length
  have htn := hv.2.1
  have hlb := fun s i (hi : nxt (bl D) s i < (be (bl D) i).length) => ld_b (be (bl D) i) (nxt (bl D) s i) hi
  have hbl := fun i (hi : i < D.length) => Nat.le_trans (be_le (show i < (bl D).length by rw [hlen]; exact hi)) hv.2.1
  have hW0 : BeW w D.length (fun i => (nxt (bl D) 0 i : Nat)) (.slice none 0 0) (ord (bl D) 0) (mkI w D.length) := ⟨mkI_below w _, (mkI_blk w _).congr fun i _ => rfl, ⟨rfl, .inl ⟨rfl, rfl⟩⟩⟩
  have hgr : ∀ s, (gr (bl D) (nxt (bl D) s) (bl D).length = none ∧ grR (bl D) (nxt (bl D) s) = (-1, 0)) ∨ ∃ i c, gr (bl D) (nxt (bl D) s) (bl D).length = some (i, c) ∧ grR (bl D) (nxt (bl D) s) = ((i : Int), ((nxt (bl D) s i + c - 1 : Nat) : Int)) := fun s => by
    unfold grR
    cases hg : gr (bl D) (nxt (bl D) s) (bl D).length with
    | none => exact .inl ⟨rfl, rfl⟩
    | some p => exact .inr ⟨p.1, p.2, rfl, rfl⟩
  have hmk := run_mkI w D.length (by omega)
  have hol12 := fun s => show (ord (bl D) s).length ≤ 12 by rw [hol]; exact Nat.le_trans (hdl s) htn
  unfold Whole
  obtain ⟨J, hJ⟩ : ∃ J, J = bl D := ⟨_, rfl⟩
  rw [← hJ] at hlen hv kg hsp hns hos hol hdl htn hlb hbl hW0 hgr hol12 ⊢
  obtain ⟨n, hn⟩ : ∃ n, n = D.length := ⟨_, rfl⟩
  rw [← hn] at h63 hn6 kg hbl hW0 hlen hmk ⊢
  rw [hlen] at hsp hns hos hgr
  clear hol hdl htn
  replace hn := Lib.hid hn
  replace hJ := Lib.hid hJ
  replace hlen := Lib.hid hlen
  replace hv := Lib.hid hv
  replace kg := Lib.hid kg
  replace hsp := Lib.hid hsp
  replace hns := Lib.hid hns
  replace hos := Lib.hid hos
  replace hlb := Lib.hid hlb
  replace hbl := Lib.hid hbl
  replace hgr := Lib.hid hgr
  replace hol12 := Lib.hid hol12
  replace h := Lib.hid h
  have k0 := kg.out 0 _ hW0.below hW0.nxt
  obtain ⟨Y0, hY0⟩ : ∃ Y, Y = mkI w n := ⟨_, rfl⟩
  rw [← hY0] at k0 hW0 hmk
  replace k0 := Lib.hid k0
  replace hW0 := Lib.hid hW0
  replace hY0 := Lib.hid hY0
  go_enter Try.func62, Try.ntmps62
  go_wp2_with fail
  refine k0.out.mono ?_
  rintro e X1 ⟨rfl, hb1⟩
  have hW1 := Lib.hid (hW0.out.up hb1)
  clear hb1 k0
  go_wp2
  go_loopw [3, 5, 6] (fun v b q X => ∃ s : Nat, b = .int .i64 (grR J (nxt J s)).1 ∧ q = .int .i64 (grR J (nxt J s)).2 ∧ BeW w n (fun i => (nxt J s i : Nat)) v (ord J s) X) (fun v _ _ _ => 12 - vlen v)
  case atStart => exact ⟨0, rfl, rfl, hW1.out⟩
  case round =>
    clear hW1
    obtain ⟨s, rfl, rfl, hW⟩ := hrel
    have hvl := own_vlen hW.own
    have h12 := hol12.out s
    rcases hgr.out s with ⟨z1, z2⟩ | ⟨i, cc, z1, z2⟩
    · rw [z2]
      simp only []
      have hfin := Lib.hid (And.intro hW.below hW.own)
      replace hW := Lib.hid hW
      replace hvl := Lib.hid hvl
      replace z1 := Lib.hid z1
      replace z2 := Lib.hid z2
      go_wp2
      go_ret
      exact ⟨s, _, rfl, by rw [hlen.out]; exact z1.out, hfin.out.1, hfin.out.2⟩
    · rw [z2]
      simp only []
      obtain ⟨y1, y2, y3⟩ := hsp.out s i cc z1
      obtain ⟨y4, y5⟩ := hlb.out s i y2
      rw [← y3] at y4 y5
      have hi12 := hbl.out i y1
      have hns' := hns.out s i cc z1
      have hos' := hos.out s i cc z1
      have h12' := hol12.out (s + 1)
      rw [hos', List.length_append, List.length_replicate] at h12'
      obtain ⟨N, hN⟩ : ∃ N, N = nxt J s i := ⟨_, rfl⟩
      rw [← hN] at y2 y5 hns' ⊢
      have hin : i < n := y1
      obtain ⟨o, ho⟩ : ∃ o, o = ord J s := ⟨_, rfl⟩
      rw [← ho] at hW hvl h12 h12' hos'
      have kg' := Lib.hid (kg.out (s + 1))
      rw [hns'] at kg'
      have hst := Lib.hid (show BeW w n (fun k => if k = i then ((N + 0 : Nat) : Int) else (nxt J s k : Nat)) _ (o ++ List.replicate 0 (i : Int)) wr from by
        rw [List.replicate_zero, List.append_nil]
        refine hW.congr fun k _ => ?_
        by_cases e : k = i
        · subst e; simp [hN]
        · simp [e])
      replace hW := Lib.hid hW
      replace z1 := Lib.hid z1
      replace z2 := Lib.hid z2
      replace y3 := Lib.hid y3
      replace hns' := Lib.hid hns'
      replace hos' := Lib.hid hos'
      replace hN := Lib.hid hN
      replace ho := Lib.hid ho
      replace y2 := Lib.hid y2
      have hNc : N + cc ≤ 12 := by omega
      replace y5 := Lib.hid y5
      replace hvl := Lib.hid hvl
      have hib : ¬ ((i : Int) < 0) := by omega
      have hol9 : o.length + cc ≤ 12 := h12'
      go_wp2
      go_loopw [3] (fun v X => ∃ t : Nat, t ≤ cc ∧ BeW w n (fun k => if k = i then ((N + t : Nat) : Int) else (nxt J s k : Nat)) v (o ++ List.replicate t (i : Int)) X) (fun v _ => 24 - vlen v)
      case atStart => exact ⟨0, by omega, hst.out⟩
      case round =>
        clear hst
        obtain ⟨t, ht, hV⟩ := hrel
        have e0 := hV.nxt.cell hin
        simp only [if_true] at e0
        have hvl2 := own_vlen hV.own
        rw [List.length_append, List.length_replicate] at hvl2
        by_cases htc : t < cc
        · have hV2 := hV.up (ba1 wr (.cells #[.int .i64 (i : Nat)] 3))
          have hne := Lib.hid (one_new wr (i : Nat))
          have hsz := hV.below.size
          have e1 := hV.nxt.lt
          have hlen2 : (o ++ List.replicate t (i : Int)).length ≤ 24 := by rw [List.length_append, List.length_replicate]; omega
          replace hV := Lib.hid hV
          replace hV2 := Lib.hid hV2
          replace hvl2 := Lib.hid hvl2
          have hNt : ((N + t : Nat) : Int) ≤ ((N + cc - 1 : Nat) : Int) := by omega
          obtain ⟨M1, hM1⟩ : ∃ M, M = N + t := ⟨_, rfl⟩
          obtain ⟨M2, hM2⟩ : ∃ M, M = N + cc - 1 := ⟨_, rfl⟩
          rw [← hM1] at e0 hNt
          rw [← hM2] at hNt ⊢
          have hM9 : M1 ≤ 12 := by omega
          have hM99 : M2 ≤ 12 := by omega
          replace hM1 := Lib.hid hM1
          replace hM2 := Lib.hid hM2
          go_wp2_with (at_builtin
                       refine wpList_append_own _ rfl (.tmp 36) (.tmp 38) 23 rfl (w.heap.size + 1) 3 i3 (.int .i64 0) 1 8 Try.underlying23 ji.out jz0.out jz1.out jz2.out rfl (by decide) _ _ _ rfl hV2.out.own ⟨wr.heap.size, 0, none⟩ 1 1 [.int .i64 (i : Nat)] rfl rfl hne.out (fun u hu => by cases List.mem_singleton.1 hu; rfl) (by unfold maxLen; omega) (by omega) (by simp; omega) ?_
                       intro v' w2 hown' hgrow _
                       have hX3 := hV2.out.app hown' hgrow
                       have q0 := hX3.nxt.cell hin
                       simp only [if_true] at q0
                       rw [← hM1.out] at q0
                       have q1 := hX3.nxt.fz i
                       have q2 := hX3.nxt.lt
                       have hX4 := Lib.hid (hX3.set hin (M1 + 1 : Nat))
                       have hvl3 := Lib.hid (own_vlen hX3.own)
                       replace hX3 := Lib.hid hX3
                       clear hown' hgrow)
          go_roundw
          case rel => exact ⟨t + 1, by omega, by
            rw [rep_succ, ← List.append_assoc]
            refine hX4.out.congr fun k _ => ?_
            by_cases e : k = i
            · subst e; simp [hM1.out]; omega
            · simp [e]⟩
          case measure => rw [hvl3.out, hvl2.out, List.length_append]; simp; omega
        · have htc' : t = cc := by omega
          subst htc'
          have hW4a := hV.congr (nx' := fun k => (nxt J (s + 1) k : Nat)) fun k _ => by
            rw [hns'.out]
            by_cases e : k = i
            · subst e; simp
            · simp [e]
          rw [← hos'.out] at hW4a
          have hW4 := hW4a
          clear hW4a
          have kk := kg.out (s + 1) wr hW4.below hW4.nxt
          have hgt : ¬ ((N + t : Nat) : Int) ≤ ((N + t - 1 : Nat) : Int) := by omega
          have hvl4 := own_vlen hW4.own
          have e2 := e0
          clear e0
          have hoL : (ord J (s + 1)).length = o.length + t := by rw [hos'.out, List.length_append, List.length_replicate]
          rw [hoL] at hvl4
          replace hvl4 := Lib.hid hvl4
          replace hoL := Lib.hid hoL
          obtain ⟨M1, hM1⟩ : ∃ M, M = N + t := ⟨_, rfl⟩
          obtain ⟨M2, hM2⟩ : ∃ M, M = N + t - 1 := ⟨_, rfl⟩
          rw [← hM2] at hgt ⊢
          rw [← hM1] at e2 hgt
          have hM9 : M1 ≤ 12 := by omega
          have hM99 : M2 ≤ 12 := by omega
          replace hM1 := Lib.hid hM1
          replace hM2 := Lib.hid hM2
          replace hV := Lib.hid hV
          replace hvl2 := Lib.hid hvl2
          have hW5 := Lib.hid hW4
          clear hW4
          replace kk := Lib.hid kk
          go_wp2_with fail
          refine kk.out.mono ?_
          rintro e X9 ⟨rfl, hb9⟩
          have hW6 := Lib.hid (hW5.out.up hb9)
          clear hb9
          go_wp2
          go_roundw
          case rel => exact ⟨s + 1, rfl, rfl, hW6.out⟩
          case measure => rw [hvl4.out, hvl.out]; omega
end Go.Proofs.Ytgjgpcpghglnnaa
