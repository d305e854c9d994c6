/-
  The best order: the program's function.
-/
import Derived.Test.YtgjgpcpghglnnaaC
namespace Go.Proofs.Ytgjgpcpghglnnaa
open Go.RowKit Go.Deep M
set_option linter.unusedVariables false
set_option linter.unusedSimpArgs false

/-! ### lists of integers that a call builds -/
theorem info3 : (Try.prog.info? 3).map (fun i => (i.zero, i.size, i.bytes)) = some (some (.int .i64 0), 1, 8) := by kernel_rfl
/-- The values of a list. -/
def vals (l : List Int) : List Value := l.map (Value.int .i64)
theorem vals_len (l : List Int) : (vals l).length = l.length := by simp [vals]
theorem vals_get (l : List Int) (j : Nat) (hj : j < l.length) : (vals l)[j]? = some (.int .i64 (el l j)) := by simp [vals, hj, el_eq l j hj]
theorem vals_app (l m : List Int) : vals (l ++ m) = vals l ++ vals m := by simp [vals]
/-- What is owned, read. -/
theorem own_row {w : World} {base : Nat} {v : Value} {l : List Int} (h : w.ownsRow base 3 1 v l.length (vals l)) (hm : l.length ≤ 9223372036854775807) :
    ∃ A c, v = .slice A l.length c ∧ Row w w.heap.size A l := by
  rcases h.2 with ⟨hv, h0⟩ | ⟨g, cap, cur, hv, hge, hh, hcap, hmax, hsz, htake⟩
  · exact ⟨none, 0, by rw [hv, h0], hm, fun hn => by omega⟩
  · refine ⟨some ⟨g, 0, none⟩, cap, hv, hm, fun _ => ⟨g, 0, rfl, blk_lt hh, fun i hi => ?_⟩⟩
    have h1 : (cur.toList.take (l.length * 1))[i]? = (vals l)[i]? := by rw [htake]
    rw [Nat.mul_one, List.getElem?_take, if_pos hi] at h1
    rw [Array.getElem?_toList] at h1
    rw [Nat.zero_add]
    simp [World.cell?, hh, h1, vals_get l i hi]
theorem below_grown {w w' : World} {B : Nat} {row : Option Nat} (hg : w.grownBy w' row) (hB : B ≤ w.heap.size) (h : ∀ k, row = some k → B ≤ k) : Below B w w' := by
  have := (Below.refl B w).grown hg hB h
  exact this
theorem own_to {w w' : World} {base n : Nat} {t : TypeId} {k : Nat} {v : Value} {xs : List Value} (h : w.ownsRow base t k v n xs) (hb : ∀ g, v.ownBlock = some g → w'.heap[g]? = w.heap[g]?) : w'.ownsRow base t k v n xs := by
  rcases h with ⟨h1, h2 | ⟨g, cap, cur, rfl, hge, hh, h3⟩⟩
  · exact ⟨h1, .inl h2⟩
  · exact ⟨h1, .inr ⟨g, cap, cur, rfl, hge, (hb g rfl).trans hh, h3⟩⟩
theorem own_up {w w' : World} {base n : Nat} {t : TypeId} {k : Nat} {v : Value} {xs : List Value} (h : w.ownsRow base t k v n xs) (hb : Below w.heap.size w w') : w'.ownsRow base t k v n xs := own_to h fun g hg => hb.block g (h.lt g hg).2

theorem one_new (w : World) (z : Int) : ∀ j u, [Value.int .i64 z][j]? = some u → (w.alloc (.cells #[.int .i64 z] 3)).cell? ((⟨w.heap.size, 0, none⟩ : Addr).add j) = some u := by
  intro j u hj
  match j, hj with
  | 0, hj => simp at hj; subst hj; simp [Addr.add]
  | j + 1, hj => simp at hj
def mkI (w : World) (n : Nat) : World := w.alloc (.cells (madeCells #[.int .i64 0] n) 3)
theorem mkI_below (w : World) (n : Nat) : Below w.heap.size w (mkI w n) := ba1 _ _
theorem mkI_blk (w : World) (n : Nat) : BlI (mkI w n) w.heap.size n (fun _ => 0) :=
  ⟨madeCells #[.int .i64 0] n, heap_alloc_new w _, fun i hi => by unfold madeCells; simp [hi, Nat.mod_one]⟩
theorem run_mkI (w : World) (n : Nat) (hn : n ≤ 1000000) : (Instr.makeSlice 23 (.int .i64 n) (.int .i64 n)).run Try.prog w = .ok (.slice (some ⟨w.heap.size, 0, none⟩) n n) (mkI w n) := by
  have hi := info3
  cases h : Try.prog.info? 3 with
  | none => rw [h] at hi; cases hi
  | some i =>
    rw [h] at hi
    simp only [Option.map_some, Option.some.injEq, Prod.mk.injEq] at hi
    obtain ⟨h1, h2, h3⟩ := hi
    have := run_make (P := Try.prog) w 23 3 i (.int .i64 0) Try.underlying23 h h1 .i64 .i64 (n : Int) (n : Int) (by omega) (Int.le_refl _) (by rw [h3]; omega) (by omega)
    rw [this, h2]
    simp [mkI, Value.cells]

def vlen : Value → Nat | .slice _ n _ => n | _ => 0
theorem own_vlen {w : World} {base n : Nat} {t : TypeId} {k : Nat} {v : Value} {xs : List Value} (h : w.ownsRow base t k v n xs) : vlen v = n := by
  rcases h.2 with ⟨rfl, rfl⟩ | ⟨g, cap, cur, rfl, _⟩ <;> rfl

namespace M
theorem rep_succ (t : Nat) (i : Int) : List.replicate (t + 1) i = List.replicate t i ++ [i] := List.replicate_succ'
end M
/-- The order so far, and how many jobs are done on each beach. -/
structure BeW (w : World) (n : Nat) (nx : Nat → Int) (v : Value) (o : List Int) (X : World) : Prop where
  below : Below w.heap.size w X
  nxt : BlI X w.heap.size n nx
  own : X.ownsRow (w.heap.size + 1) 3 1 v o.length (vals o)
theorem BeW.up {w X Y : World} {n : Nat} {nx : Nat → Int} {v : Value} {o : List Int} (h : BeW w n nx v o X) (hb : Below X.heap.size X Y) : BeW w n nx v o Y := ⟨bel_trans h.below hb, h.nxt.up hb, own_up h.own hb⟩
theorem BeW.set {w X : World} {n i : Nat} {nx : Nat → Int} {v : Value} {o : List Int} (h : BeW w n nx v o X) (hi : i < n) (z : Int) : BeW w n (fun k => if k = i then z else nx k) v o (X.setCell ⟨w.heap.size, i, none⟩ (.int .i64 z)) :=
  ⟨h.below.setCell (Nat.le_refl _) _, h.nxt.set hi z, own_to h.own fun g hg => setCell_far (by have := (h.own.lt g hg).1; omega)⟩
theorem BeW.congr {w X : World} {n : Nat} {nx nx' : Nat → Int} {v : Value} {o : List Int} (h : BeW w n nx v o X) (e : ∀ k, k < n → nx k = nx' k) : BeW w n nx' v o X := ⟨h.below, h.nxt.congr e, h.own⟩
theorem BeW.app {w X Y : World} {n : Nat} {nx : Nat → Int} {v v' : Value} {o : List Int} {z : Int} (h : BeW w n nx v o X) (hown : Y.ownsRow (w.heap.size + 1) 3 1 v' (o.length + 1) (vals o ++ [.int .i64 z])) (hgrow : X.grownBy Y v.ownBlock) : BeW w n nx v' (o ++ [z]) Y := by
  have hge : ∀ b, v.ownBlock = some b → w.heap.size + 1 ≤ b := fun b hb => (h.own.lt b hb).1
  refine ⟨h.below.trans (below_grown hgrow h.below.size fun b hb => by have := hge b hb; omega), h.nxt.to (hgrow.block _ h.nxt.lt fun e => by have := hge _ e.symm; omega), ?_⟩
  rw [List.length_append, vals_app]
  exact hown

set_option maxRecDepth 100000 in
set_option maxHeartbeats 8000000 in
theorem best_any (B : Nat) (A : Option Addr) (c : Nat) (D : List Bc) (w : World) (h : Bcs w B A D) (hB : B ≤ w.heap.size) (hv : vJ (bl D)) :
    Calls Try.prog 62 #[.slice A D.length c] w fun e w' => ∃ s v, e = .returned v ∧ Whole (bl D) s ∧ Below w.heap.size w w' ∧ w'.ownsRow (w.heap.size + 1) 3 1 v (ord (bl D) s).length (vals (ord (bl D) s)) := by
  have h63 := h.1
  have hlen := bl_len D
  have hn6 : D.length ≤ 6 := by have := hv.1.2; rw [hlen] at this; exact this
  obtain ⟨i3, ji, jz0, jz1, jz2⟩ := info_parts info3
  replace ji := Lib.hid ji
  replace jz0 := Lib.hid jz0
  replace jz1 := Lib.hid jz1
  replace jz2 := Lib.hid jz2
  have kg := fun s X (hX : Below w.heap.size w X) (hg : BlI X w.heap.size D.length (fun i => (nxt (bl D) s i : Nat))) => greatest_any B A c w.heap.size D (nxt (bl D) s) X (h.below (hX.mono hB)) (Nat.le_trans hB hX.size) hv hg (nxt_le (bl D) s)
  have hsp := fun s i c => gr_spec (bl D) (nxt (bl D) s) (nxt_le (bl D) s) (bl D).length i c
  have hns := fun s i c => @nxt_some (bl D) s i c
  have hos := fun s i c => @ord_some (bl D) s i c
  have hol := ord_len (bl D)
  have hdl := fun s => dn_le (bl D) (nxt (bl D) s) (nxt_le (bl D) s) (bl D).length
  have htn := hv.2.1
  have hlb := fun s i (hi : nxt (bl D) s i < (be (bl D) i).length) => ld_b (be (bl D) i) (nxt (bl D) s i) hi
  have hbl := fun i (hi : i < D.length) => Nat.le_trans (be_le (show i < (bl D).length by rw [hlen]; exact hi)) hv.2.1
  have hW0 : BeW w D.length (fun i => (nxt (bl D) 0 i : Nat)) (.slice none 0 0) (ord (bl D) 0) (mkI w D.length) := ⟨mkI_below w _, (mkI_blk w _).congr fun i _ => rfl, ⟨rfl, .inl ⟨rfl, rfl⟩⟩⟩
  have hgr : ∀ s, (gr (bl D) (nxt (bl D) s) (bl D).length = none ∧ grR (bl D) (nxt (bl D) s) = (-1, 0)) ∨ ∃ i c, gr (bl D) (nxt (bl D) s) (bl D).length = some (i, c) ∧ grR (bl D) (nxt (bl D) s) = ((i : Int), ((nxt (bl D) s i + c - 1 : Nat) : Int)) := fun s => by
    unfold grR
    cases hg : gr (bl D) (nxt (bl D) s) (bl D).length with
    | none => exact .inl ⟨rfl, rfl⟩
    | some p => exact .inr ⟨p.1, p.2, rfl, rfl⟩
  have hmk := run_mkI w D.length (by omega)
  have hol12 := fun s => show (ord (bl D) s).length ≤ 12 by rw [hol]; exact Nat.le_trans (hdl s) htn
  unfold Whole
  obtain ⟨J, hJ⟩ : ∃ J, J = bl D := ⟨_, rfl⟩
  rw [← hJ] at hlen hv kg hsp hns hos hol hdl htn hlb hbl hW0 hgr hol12 ⊢
  obtain ⟨n, hn⟩ : ∃ n, n = D.length := ⟨_, rfl⟩
  rw [← hn] at h63 hn6 kg hbl hW0 hlen hmk ⊢
  rw [hlen] at hsp hns hos hgr
  clear hol hdl htn
  replace hn := Lib.hid hn
  replace hJ := Lib.hid hJ
  replace hlen := Lib.hid hlen
  replace hv := Lib.hid hv
  replace kg := Lib.hid kg
  replace hsp := Lib.hid hsp
  replace hns := Lib.hid hns
  replace hos := Lib.hid hos
  replace hlb := Lib.hid hlb
  replace hbl := Lib.hid hbl
  replace hgr := Lib.hid hgr
  replace hol12 := Lib.hid hol12
  replace h := Lib.hid h
  have k0 := kg.out 0 _ hW0.below hW0.nxt
  obtain ⟨Y0, hY0⟩ : ∃ Y, Y = mkI w n := ⟨_, rfl⟩
  rw [← hY0] at k0 hW0 hmk
  replace k0 := Lib.hid k0
  replace hW0 := Lib.hid hW0
  replace hY0 := Lib.hid hY0
  go_enter Try.func62, Try.ntmps62
  go_wp2_with fail
  refine k0.out.mono ?_
  rintro e X1 ⟨rfl, hb1⟩
  have hW1 := Lib.hid (hW0.out.up hb1)
  clear hb1 k0
  go_wp2
  go_loopw [3, 5, 6] (fun v b q X => ∃ s : Nat, b = .int .i64 (grR J (nxt J s)).1 ∧ q = .int .i64 (grR J (nxt J s)).2 ∧ BeW w n (fun i => (nxt J s i : Nat)) v (ord J s) X) (fun v _ _ _ => 12 - vlen v)
  case atStart => exact ⟨0, rfl, rfl, hW1.out⟩
  case round =>
    clear hW1
    obtain ⟨s, rfl, rfl, hW⟩ := hrel
    have hvl := own_vlen hW.own
    have h12 := hol12.out s
    rcases hgr.out s with ⟨z1, z2⟩ | ⟨i, cc, z1, z2⟩
    · rw [z2]
      simp only []
      have hfin := Lib.hid (And.intro hW.below hW.own)
      replace hW := Lib.hid hW
      replace hvl := Lib.hid hvl
      replace z1 := Lib.hid z1
      replace z2 := Lib.hid z2
      go_wp2
      go_ret
      exact ⟨s, _, rfl, by rw [hlen.out]; exact z1.out, hfin.out.1, hfin.out.2⟩
    · rw [z2]
      simp only []
      obtain ⟨y1, y2, y3⟩ := hsp.out s i cc z1
      obtain ⟨y4, y5⟩ := hlb.out s i y2
      rw [← y3] at y4 y5
      have hi12 := hbl.out i y1
      have hns' := hns.out s i cc z1
      have hos' := hos.out s i cc z1
      have h12' := hol12.out (s + 1)
      rw [hos', List.length_append, List.length_replicate] at h12'
      obtain ⟨N, hN⟩ : ∃ N, N = nxt J s i := ⟨_, rfl⟩
      rw [← hN] at y2 y5 hns' ⊢
      have hin : i < n := y1
      obtain ⟨o, ho⟩ : ∃ o, o = ord J s := ⟨_, rfl⟩
      rw [← ho] at hW hvl h12 h12' hos'
      have kg' := Lib.hid (kg.out (s + 1))
      rw [hns'] at kg'
      have hst := Lib.hid (show BeW w n (fun k => if k = i then ((N + 0 : Nat) : Int) else (nxt J s k : Nat)) _ (o ++ List.replicate 0 (i : Int)) wr from by
        rw [List.replicate_zero, List.append_nil]
        refine hW.congr fun k _ => ?_
        by_cases e : k = i
        · subst e; simp [hN]
        · simp [e])
      replace hW := Lib.hid hW
      replace z1 := Lib.hid z1
      replace z2 := Lib.hid z2
      replace y3 := Lib.hid y3
      replace hns' := Lib.hid hns'
      replace hos' := Lib.hid hos'
      replace hN := Lib.hid hN
      replace ho := Lib.hid ho
      replace y2 := Lib.hid y2
      have hNc : N + cc ≤ 12 := by omega
      replace y5 := Lib.hid y5
      replace hvl := Lib.hid hvl
      have hib : ¬ ((i : Int) < 0) := by omega
      have hol9 : o.length + cc ≤ 12 := h12'
      go_wp2
      go_loopw [3] (fun v X => ∃ t : Nat, t ≤ cc ∧ BeW w n (fun k => if k = i then ((N + t : Nat) : Int) else (nxt J s k : Nat)) v (o ++ List.replicate t (i : Int)) X) (fun v _ => 24 - vlen v)
      case atStart => exact ⟨0, by omega, hst.out⟩
      case round =>
        clear hst
        obtain ⟨t, ht, hV⟩ := hrel
        have e0 := hV.nxt.cell hin
        simp only [if_true] at e0
        have hvl2 := own_vlen hV.own
        rw [List.length_append, List.length_replicate] at hvl2
        by_cases htc : t < cc
        · have hV2 := hV.up (ba1 wr (.cells #[.int .i64 (i : Nat)] 3))
          have hne := Lib.hid (one_new wr (i : Nat))
          have hsz := hV.below.size
          have e1 := hV.nxt.lt
          have hlen2 : (o ++ List.replicate t (i : Int)).length ≤ 24 := by rw [List.length_append, List.length_replicate]; omega
          replace hV := Lib.hid hV
          replace hV2 := Lib.hid hV2
          replace hvl2 := Lib.hid hvl2
          have hNt : ((N + t : Nat) : Int) ≤ ((N + cc - 1 : Nat) : Int) := by omega
          obtain ⟨M1, hM1⟩ : ∃ M, M = N + t := ⟨_, rfl⟩
          obtain ⟨M2, hM2⟩ : ∃ M, M = N + cc - 1 := ⟨_, rfl⟩
          rw [← hM1] at e0 hNt
          rw [← hM2] at hNt ⊢
          have hM9 : M1 ≤ 12 := by omega
          have hM99 : M2 ≤ 12 := by omega
          replace hM1 := Lib.hid hM1
          replace hM2 := Lib.hid hM2
          go_wp2_with (at_builtin
                       refine wpList_append_own _ rfl (.tmp 36) (.tmp 38) 23 rfl (w.heap.size + 1) 3 i3 (.int .i64 0) 1 8 Try.underlying23 ji.out jz0.out jz1.out jz2.out rfl (by decide) _ _ _ rfl hV2.out.own ⟨wr.heap.size, 0, none⟩ 1 1 [.int .i64 (i : Nat)] rfl rfl hne.out (fun u hu => by cases List.mem_singleton.1 hu; rfl) (by unfold maxLen; omega) (by omega) (by simp; omega) ?_
                       intro v' w2 hown' hgrow _
                       have hX3 := hV2.out.app hown' hgrow
                       have q0 := hX3.nxt.cell hin
                       simp only [if_true] at q0
                       rw [← hM1.out] at q0
                       have q1 := hX3.nxt.fz i
                       have q2 := hX3.nxt.lt
                       have hX4 := Lib.hid (hX3.set hin (M1 + 1 : Nat))
                       have hvl3 := Lib.hid (own_vlen hX3.own)
                       replace hX3 := Lib.hid hX3
                       clear hown' hgrow)
          go_roundw
          case rel => exact ⟨t + 1, by omega, by
            rw [rep_succ, ← List.append_assoc]
            refine hX4.out.congr fun k _ => ?_
            by_cases e : k = i
            · subst e; simp [hM1.out]; omega
            · simp [e]⟩
          case measure => rw [hvl3.out, hvl2.out, List.length_append]; simp; omega
        · have htc' : t = cc := by omega
          subst htc'
          have hW4a := hV.congr (nx' := fun k => (nxt J (s + 1) k : Nat)) fun k _ => by
            rw [hns'.out]
            by_cases e : k = i
            · subst e; simp
            · simp [e]
          rw [← hos'.out] at hW4a
          have hW4 := hW4a
          clear hW4a
          have kk := kg.out (s + 1) wr hW4.below hW4.nxt
          have hgt : ¬ ((N + t : Nat) : Int) ≤ ((N + t - 1 : Nat) : Int) := by omega
          have hvl4 := own_vlen hW4.own
          have e2 := e0
          clear e0
          have hoL : (ord J (s + 1)).length = o.length + t := by rw [hos'.out, List.length_append, List.length_replicate]
          rw [hoL] at hvl4
          replace hvl4 := Lib.hid hvl4
          replace hoL := Lib.hid hoL
          obtain ⟨M1, hM1⟩ : ∃ M, M = N + t := ⟨_, rfl⟩
          obtain ⟨M2, hM2⟩ : ∃ M, M = N + t - 1 := ⟨_, rfl⟩
          rw [← hM2] at hgt ⊢
          rw [← hM1] at e2 hgt
          have hM9 : M1 ≤ 12 := by omega
          have hM99 : M2 ≤ 12 := by omega
          replace hM1 := Lib.hid hM1
          replace hM2 := Lib.hid hM2
          replace hV := Lib.hid hV
          replace hvl2 := Lib.hid hvl2
          have hW5 := Lib.hid hW4
          clear hW4
          replace kk := Lib.hid kk
          go_wp2_with fail
          refine kk.out.mono ?_
          rintro e X9 ⟨rfl, hb9⟩
          have hW6 := Lib.hid (hW5.out.up hb9)
          clear hb9
          go_wp2
          go_roundw
          case rel => exact ⟨s + 1, rfl, rfl, hW6.out⟩
          case measure => rw [hvl4.out, hvl.out]; omega
end Go.Proofs.Ytgjgpcpghglnnaa
