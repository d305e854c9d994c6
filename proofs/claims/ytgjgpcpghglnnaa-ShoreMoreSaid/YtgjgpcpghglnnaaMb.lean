/-
  The order that comes next, and the one with two neighbours exchanged: the program's functions.
-/
import Derived.Test.YtgjgpcpghglnnaaMa
import Derived.Test.YtgjgpcpghglnnaaYd
import Derived.Laws.Cover3
namespace Go.Proofs.Ytgjgpcpghglnnaa
open Go.RowKit Go.Deep M
set_option linter.unusedVariables false
set_option linter.unusedSimpArgs false

theorem heap_putRow {X : World} {g p m : Nat} {d : Array Int} {cs : Array Value} (h : X.heap[g]? = some (.cells cs 3 (0, 0))) :
    («Sort».putRow (Value.int .i64) (Sort.ahead X m) g p d).heap[g]? = some (.cells («Sort».putCells (Value.int .i64) p d cs) 3 (0, 0)) := by
  simp [«Sort».putRow, «Sort».mapBlock, Sort.ahead, Array.getElem?_modify, h, «Sort».onCells]
theorem heap_putRow_far {X : World} {g k p m : Nat} {d : Array Int} (h : k ≠ g) :
    («Sort».putRow (Value.int .i64) (Sort.ahead X m) g p d).heap[k]? = X.heap[k]? := by
  have h' : ¬ g = k := fun e => h e.symm
  simp [«Sort».putRow, «Sort».mapBlock, Sort.ahead, Array.getElem?_modify, h']
/-- A part of a block, turned round. -/
theorem Reverse_blk {X : World} {g n p cap : Nat} {f : Nat → Int} {zs : List Int} (h : BlI X g n f) (hp : p + zs.length = n) (hz : ∀ t, t < zs.length → el zs t = f (p + t)) (h63 : n ≤ 1000) :
    Calls Try.prog 96 #[.slice (some ⟨g, p, none⟩) zs.length cap] X fun e w' => e = .returned (.tuple #[]) ∧ (∀ B, B ≤ g → Below B X w') ∧ BlI w' g n (fun q => if q < p then f q else el zs.reverse (q - p)) := by
  have hH : «Sort».Holds (Value.int .i64) X g p zs.toArray := fun j hj => by
    have hj' : j < zs.length := by simpa using hj
    have e1 : zs.toArray[j]! = el zs j := by rw [getElem!_pos _ j hj, el_eq zs j hj']; rfl
    rw [e1, hz j hj']
    exact ⟨h.cell (by omega), h.fz _⟩
  refine (Any.slices_Reverse_int Try.lays112 g p cap zs X hH (by omega)).mono ?_
  rintro e w' ⟨rfl, m, rfl⟩
  refine ⟨rfl, fun B hB => ⟨rfl, rfl, rfl, by simp [«Sort».putRow, «Sort».mapBlock, Sort.ahead], fun k hk => heap_putRow_far (by omega)⟩, ?_⟩
  obtain ⟨cs, h1, h2⟩ := h
  refine ⟨_, heap_putRow h1, fun q hq => ?_⟩
  unfold «Sort».putCells
  rw [Array.getElem?_mapIdx, h2 q hq]
  simp only [Option.map_some]
  by_cases hqp : q < p
  · rw [if_neg (by omega), if_pos hqp]
  · have hl : q - p < zs.reverse.length := by simp; omega
    rw [if_pos ⟨by omega, by simp; omega⟩, if_neg hqp, getElem!_pos _ (q - p) (by simpa using hl), el_eq _ _ hl]
    simp

namespace M
theorem el_nx {l zr : List Int} {i : Nat} (x : Int) (hi : i < l.length) (q : Nat) : el (l.take i ++ x :: zr) q = if q < i then el l q else if q = i then x else el zr (q - (i + 1)) := by
  have hl : (l.take i).length = i := by rw [List.length_take]; omega
  by_cases h : q < i
  · rw [if_pos h, el_left (by omega), el_take h]
  · rw [if_neg h]
    obtain ⟨t, rfl⟩ : ∃ t, q = i + t := ⟨q - i, by omega⟩
    have h2 := el_right (l.take i) (x :: zr) t
    rw [hl] at h2
    rw [h2]
    cases t with
    | zero => rw [if_pos (by omega)]; rfl
    | succ t => rw [if_neg (by omega), el_cons]; congr 1; omega
end M

/-- What raised makes: the list that comes next. -/
def RaP (l : List Int) (w : World) (e : Ending) (w' : World) : Prop :=
  ∃ g cap r, nx l = some r ∧ r.length = l.length ∧ e = .returned (.slice (some ⟨g, 0, none⟩) l.length cap) ∧ Below w.heap.size w w' ∧ BlI w' g l.length (el r)

set_option maxRecDepth 100000 in
set_option maxHeartbeats 4000000 in
theorem raised_any (B : Nat) (A : Option Addr) (c : Nat) (l : List Int) (i : Nat) (w : World) (h : Row w B A l) (hB : B ≤ w.heap.size) (hl : l.length ≤ 1000) (hi : i + 1 < l.length) (hd : Ds l (i + 1)) (hlt : el l i < el l (i + 1)) :
    Calls Try.prog 89 #[.slice A l.length c, .int .i64 (i : Nat)] w (RaP l w) := by
  have hat := fun k (hk : k < l.length) => h.at_ k hk
  have c72 := fun k (hk : k < l.length) (hik : i < k) X (hX : Below w.heap.size w X) => exchanged_any B A c l i k X (h.below (hX.mono hB)) (Nat.le_trans hB hX.size) hl (by omega) hk hik
  have hnx := fun k (hik : i < k) (hk : k < l.length) hx hg => nx_last hik hk hd hx hg
  have hfin : ∀ k, i < k → k < l.length → el l i < el l k → (∀ j, k < j → j < l.length → el l j ≤ el l i) → ∀ g cap X, Below w.heap.size w X → w.heap.size ≤ g → BlI X g l.length (xch l i k) →
      Calls Try.prog 96 #[.slice (some ⟨g, i + 1, none⟩) (l.length - (i + 1)) (cap - (i + 1))] X fun e w' => e = .returned (.tuple #[]) ∧ Below w.heap.size w w' ∧ ∃ r, nx l = some r ∧ r.length = l.length ∧ BlI w' g l.length (el r) := fun k hik hk hx hg g cap X hX hgb hbl => by
    obtain ⟨zs, hzs⟩ : ∃ zs, zs = (l.drop (i + 1)).set (k - (i + 1)) (el l i) := ⟨_, rfl⟩
    have hzl : zs.length = l.length - (i + 1) := by rw [hzs]; simp
    have hk2 : k - (i + 1) < (l.drop (i + 1)).length := by simp; omega
    have hz : ∀ t, t < zs.length → el zs t = xch l i k (i + 1 + t) := fun t ht => by
      rw [hzs, el_set _ hk2, el_drop]
      unfold xch
      by_cases e : t = k - (i + 1)
      · rw [if_pos e, if_pos (by omega)]
      · rw [if_neg e, if_neg (by omega), if_neg (by omega)]
    have hr := nx_last hik hk hd hx hg
    rw [← hzs] at hr
    rw [← hzl]
    refine (Reverse_blk hbl (by omega) hz hl).mono ?_
    rintro e w' ⟨he, hb, hbl'⟩
    refine ⟨he, hX.trans (hb _ hgb), _, hr, by simp; omega, hbl'.congr fun q hq => ?_⟩
    rw [el_nx _ (by omega)]
    unfold xch
    by_cases e1 : q < i + 1
    · rw [if_pos e1, if_neg (by omega)]
      by_cases e2 : q = i
      · rw [if_pos e2, if_neg (by omega), if_pos e2]
      · rw [if_neg e2, if_pos (by omega)]
    · rw [if_neg e1, if_neg (by omega), if_neg (by omega)]
  obtain ⟨n, hn⟩ : ∃ n, n = l.length := ⟨_, rfl⟩
  unfold RaP
  rw [← hn] at hat c72 hfin hi hl ⊢
  have hlast : ∀ j, n - 1 < j → j < n → el l j ≤ el l i := fun j h1 h2 => by omega
  have hend : ¬ el l (i + 1) ≤ el l i := by omega
  obtain ⟨x, hx⟩ : ∃ x, x = el l i := ⟨_, rfl⟩
  rw [← hx] at hend
  obtain ⟨bi, oi, hA, hbi, ui⟩ := hat i (by omega)
  rw [← hx] at ui
  subst hA
  have hsub : IntKind.i64.wrap ((n : Int) - 1) = ((n - 1 : Nat) : Int) := by rw [IntWalk.i64_in _ (by omega)]; omega
  replace hn := Lib.hid hn
  replace hnx := Lib.hid hnx
  replace hat := Lib.hid hat
  replace c72 := Lib.hid c72
  replace hfin := Lib.hid hfin
  replace hlast := Lib.hid hlast
  replace hend := Lib.hid hend
  replace hd := Lib.hid hd
  replace hx := Lib.hid hx
  replace h := Lib.hid h
  clear hlt
  go_enter Try.func89, Try.ntmps89
  go_wp2
  go_loopw [5] (fun s X => ∃ k nd : Nat, i < k ∧ k < n ∧ s = .int .i64 (k : Nat) ∧ X = w.drewN nd ∧ ∀ j, k < j → j < n → el l j ≤ el l i) (fun s _ => (intOf s).toNat)
  case atStart => exact ⟨n - 1, 0, by omega, by omega, by simp; try omega, rfl, hlast.out⟩
  case round =>
    obtain ⟨k, nd, hik, hk, rfl, hX, hg⟩ := hrel
    obtain ⟨b2, o2, hA2, _, uk⟩ := hat.out k hk
    injection hA2 with hA2
    injection hA2 with e1 e2 _
    subst e1
    subst e2
    have hki : (k : Int) < (n : Int) := by omega
    have hii : (i : Int) < (n : Int) := by omega
    have ui' : wr.cell? ⟨bi, oi + i, none⟩ = some (.int .i64 x) := by rw [hX]; exact ui
    have uk' : wr.cell? ⟨bi, oi + k, none⟩ = some (.int .i64 (el l k)) := by rw [hX]; exact uk
    have hstep := fun (hle : el l k ≤ el l i) => (fun (j : Nat) (h1 : k - 1 < j) (h2 : j < n) => show el l j ≤ el l i by
      by_cases e : j = k
      · subst e; exact hle
      · exact hg j (by omega) h2)
    have hXb : Below w.heap.size w wr := by rw [hX]; exact below_drewN (Below.refl _ _) nd
    have hne : el l k ≤ el l i → ¬ k = i + 1 := fun hle e => by subst e; rw [← hx.out] at hle; have := hend.out; omega
    have hfk := fun (hxx : el l i < el l k) => hfin.out k hik hk hxx hg
    have h72 := fun nq => c72.out k hk hik (wr.drewN nq) (below_drewN hXb nq)
    rw [← hx.out] at hstep hne hfk
    obtain ⟨y, hy⟩ : ∃ y, y = el l k := ⟨_, rfl⟩
    rw [← hy] at uk' hstep hne hfk
    replace hy := Lib.hid hy
    replace hg := Lib.hid hg
    replace hX := Lib.hid hX
    replace hXb := Lib.hid hXb
    replace h72 := Lib.hid h72
    clear ui uk
    by_cases hyx : y ≤ x
    · have hs := Lib.hid (hstep hyx)
      have hn9 := hne hyx
      have hsub2 : IntKind.i64.wrap ((k : Int) - 1) = ((k - 1 : Nat) : Int) := by rw [IntWalk.i64_in _ (by omega)]; omega
      clear hstep hne hfk
      go_wp2
      go_quiet (fail)
      go_wp2
      go_roundw
      case rel => exact ⟨k - 1, nd + nq, by omega, by omega, by simp; try omega, by rw [hX.out, World.drewN_drewN], by rw [← hx.out]; exact hs.out⟩
      case measure => simp [intOf]; omega
    · have hf := Lib.hid (hfk (by omega))
      clear hstep hne hfk
      go_wp2
      go_quiet (fail)
      have k72 := Lib.hid (h72.out nq)
      go_wp2_with fail
      refine k72.out.mono ?_
      rintro e X2 ⟨g, cap, rfl, hcap, hgb, hb2, hbl⟩
      have hb3 := bel_trans (show Below w.heap.size w (wr.drewN nq) from below_drewN hXb.out nq) hb2
      have hgb' : w.heap.size ≤ g := by
        have := hXb.out.size
        have e : (wr.drewN nq).heap.size = wr.heap.size := rfl
        omega
      have k96 := Lib.hid (hf.out g cap X2 hb3 hgb' hbl)
      replace hbl := Lib.hid hbl
      replace hb2 := Lib.hid hb2
      replace hb3 := Lib.hid hb3
      have hi1 : IntKind.i64.wrap ((i : Int) + 1) = ((i + 1 : Nat) : Int) := by rw [IntWalk.i64_in _ (by omega)]; omega
      have hi2 : ((i + 1 : Nat) : Int) ≤ (n : Int) := by omega
      have hi3 : ¬ i + 1 = cap := by omega
      go_wp2_with fail
      (with_reducible refine k96.out.mono ?_)
      rintro e X3 ⟨rfl, hb4, hr⟩
      replace hb4 := Lib.hid hb4
      replace hr := Lib.hid hr
      go_wp2
      go_ret
      obtain ⟨r, hr1, hr2, hr3⟩ := hr.out
      exact ⟨g, cap, r, hr1, hr2, rfl, hb4.out, hr3⟩

/-- What following makes: the list that comes next, or nil. -/
def FoP (l : List Int) (w : World) (e : Ending) (w' : World) : Prop :=
  (nx l = none ∧ e = .returned (.slice none 0 0) ∧ Below w.heap.size w w') ∨ RaP l w e w'
set_option maxRecDepth 100000 in
set_option maxHeartbeats 4000000 in
theorem following_any (B : Nat) (A : Option Addr) (c : Nat) (l : List Int) (w : World) (h : Row w B A l) (hB : B ≤ w.heap.size) (hl : l.length ≤ 1000) :
    Calls Try.prog 73 #[.slice A l.length c] w (FoP l w) := by
  have hat := fun k (hk : k < l.length) => h.at_ k hk
  have c89 := fun i X (hX : Below w.heap.size w X) h1 h2 h3 => raised_any B A c l i X (h.below (hX.mono hB)) (Nat.le_trans hB hX.size) hl h1 h2 h3
  have hno := @nx_none l
  have hds : ∀ k, Ds l (k + 1) → ¬ el l k < el l (k + 1) → Ds l k := fun k hd hn j hj hl => by
    by_cases e : j = k
    · subst e; omega
    · exact hd j (by omega) hl
  obtain ⟨n, hn⟩ : ∃ n, n = l.length := ⟨_, rfl⟩
  have hd0 : Ds l (n - 1) := fun j hj hl => by omega
  unfold FoP
  rw [← hn] at hat c89 hl ⊢
  have hsub : IntKind.i64.wrap ((n : Int) - 2) = (n : Int) - 2 := IntWalk.i64_in _ (by omega)
  have hn2 : n = l.length := hn
  replace hn := Lib.hid hn
  replace hn2 := Lib.hid hn2
  replace hno := Lib.hid hno
  replace hds := Lib.hid hds
  replace hd0 := Lib.hid hd0
  replace hat := Lib.hid hat
  replace c89 := Lib.hid c89
  replace h := Lib.hid h
  go_enter Try.func73, Try.ntmps73
  go_wp2
  go_loopw [3] (fun s X => ∃ (z : Int) (nd : Nat), -2 ≤ z ∧ z ≤ (n : Int) - 2 ∧ s = .int .i64 z ∧ X = w.drewN nd ∧ Ds l (z + 1).toNat) (fun s _ => (intOf s + 2).toNat)
  case atStart => exact ⟨(n : Int) - 2, 0, by omega, by omega, rfl, rfl, by rw [show ((n : Int) - 2 + 1).toNat = n - 1 by omega]; exact hd0.out⟩
  case round =>
    obtain ⟨z, nd, hz1, hz2, rfl, hX, hd⟩ := hrel
    by_cases hz : 0 ≤ z
    · obtain ⟨i, rfl⟩ := Int.eq_ofNat_of_zero_le hz
      rw [show ((i : Int) + 1).toNat = i + 1 by omega] at hd
      obtain ⟨b, o, rfl, _, u0⟩ := hat.out i (by omega)
      obtain ⟨b2, o2, hA2, _, u1⟩ := hat.out (i + 1) (by omega)
      injection hA2 with hA2
      injection hA2 with e1 e2 _
      subst e1
      subst e2
      have v0 : wr.cell? ⟨b, o + i, none⟩ = some (.int .i64 (el l i)) := by rw [hX]; exact u0
      have v1 : wr.cell? ⟨b, o + (i + 1), none⟩ = some (.int .i64 (el l (i + 1))) := by rw [hX]; exact u1
      have hw1 : IntKind.i64.wrap ((i : Int) + 1) = ((i + 1 : Nat) : Int) := by rw [IntWalk.i64_in _ (by omega)]; omega
      have hn1 : ((i + 1 : Nat) : Int) < (n : Int) := by omega
      have hn0 : (i : Int) < (n : Int) := by omega
      have hXb : Below w.heap.size w wr := by rw [hX]; exact below_drewN (Below.refl _ _) nd
      have k89 := fun nq (hlt : el l i < el l (i + 1)) => c89.out i (wr.drewN nq) (below_drewN hXb nq) (by omega) hd hlt
      have hst := hds.out i hd
      obtain ⟨x, hx⟩ : ∃ x, x = el l i := ⟨_, rfl⟩
      obtain ⟨y, hy⟩ : ∃ y, y = el l (i + 1) := ⟨_, rfl⟩
      rw [← hx] at v0 k89 hst
      rw [← hy] at v1 k89 hst
      replace hx := Lib.hid hx
      replace hy := Lib.hid hy
      replace hd := Lib.hid hd
      replace hX := Lib.hid hX
      replace hXb := Lib.hid hXb
      clear u0 u1
      by_cases hxy : x < y
      · have k89' := Lib.hid (fun nq => k89 nq hxy)
        clear hst k89
        go_wp2
        go_quiet (fail)
        have kk := Lib.hid (k89'.out nq)
        unfold RaP at kk
        go_wp2_with fail
        refine kk.out.mono ?_
        rintro e X2 ⟨g, cap, r, hr1, hr2, rfl, hb2, hbl⟩
        have hb3 := Lib.hid (bel_trans (show Below w.heap.size w (wr.drewN nq) from below_drewN hXb.out nq) hb2)
        replace hr1 := Lib.hid hr1
        replace hr2 := Lib.hid hr2
        replace hbl := Lib.hid hbl
        clear hb2
        rw [← hn2.out]
        go_wp2
        go_ret
        exact .inr ⟨g, cap, r, hr1.out, hr2.out, by rw [← hn2.out]; rfl, hb3.out, hbl.out⟩
      · have hs := Lib.hid (hst (by omega))
        have hw2 : IntKind.i64.wrap ((i : Int) - 1) = (i : Int) - 1 := IntWalk.i64_in _ (by omega)
        clear hst k89
        go_wp2
        go_quiet (fail)
        go_wp2
        go_roundw
        case rel => exact ⟨(i : Int) - 1, nd + nq, by omega, by omega, rfl, by rw [hX.out, World.drewN_drewN], by rw [show ((i : Int) - 1 + 1).toNat = i by omega]; exact hs.out⟩
        case measure => simp [intOf]; omega
    · have hXb : Below w.heap.size w wr := by rw [hX]; exact below_drewN (Below.refl _ _) nd
      rw [show (z + 1).toNat = 0 by omega] at hd
      have hnn := Lib.hid (hno.out hd)
      replace hX := Lib.hid hX
      replace hXb := Lib.hid hXb
      replace hd := Lib.hid hd
      go_wp2
      go_ret
      exact .inl ⟨hnn.out, rfl, hXb.out⟩

namespace M
/-- What Next answers: the list and the error. -/
def nxR (J : List (List Jb)) (o : List Int) : List Int × Int := if errO J o = 0 then (match nx o with | some r => (r, 0) | none => ([], 5)) else ([], errO J o)
/-- Two neighbours exchanged. -/
def swp (o : List Int) (a : Nat) : List Int := (o.set a (el o (a + 1))).set (a + 1) (el o a)
/-- What Swap answers: the list, by how much the harm is greater, and the error. -/
def swR (J : List (List Jb)) (o : List Int) (z : Int) : List Int × Int × Int :=
  if errO J o = 0 then
    if 0 ≤ z ∧ z < (o.length : Int) - 1 then
      if el o z.toNat = el o (z.toNat + 1) then ([], 0, 5)
      else (swp o z.toNat, hm J (swp o z.toNat) o.length - hm J o o.length, 0)
    else ([], 0, 2)
  else ([], 0, errO J o)
theorem swp_len (o : List Int) (a : Nat) : (swp o a).length = o.length := by simp [swp]
theorem el_swp {o : List Int} {a : Nat} (h : a + 1 < o.length) (q : Nat) : el (swp o a) q = xch o a (a + 1) q := by
  unfold swp xch
  rw [el_set _ (by simp; omega), el_set _ (by omega)]
theorem swp_perm {o : List Int} {a : Nat} (h : a + 1 < o.length) : (swp o a).Perm o := by
  rw [List.perm_iff_count]
  intro b
  unfold swp
  rw [List.count_set (by simpa using h), List.count_set (by omega)]
  have e1 : (o.set a (el o (a + 1)))[a + 1]'(by simpa using h) = el o (a + 1) := by rw [List.getElem_set_ne (by omega), el_eq _ _ h]
  rw [e1, ← el_eq o a (by omega)]
  have h1 : el o a = b → 1 ≤ o.count b := fun e => List.count_pos_iff.2 (by rw [← e]; exact el_mem (by omega))
  by_cases c1 : el o a = b
  · have := h1 c1
    by_cases c2 : el o (a + 1) = b <;> simp [c1, c2] <;> omega
  · by_cases c2 : el o (a + 1) = b <;> simp [c1, c2]
theorem swp_err {J : List (List Jb)} {o : List Int} {a : Nat} (he : errO J o = 0) (h : a + 1 < o.length) : errO J (swp o a) = 0 := by
  obtain ⟨hv, hor⟩ := errO_ok he
  obtain ⟨_, h12, hin, hcn, _⟩ := ord_spec hv hor
  have hp := swp_perm h
  have : ordB J (swp o a) = true := by
    refine ord_of (by rw [swp_len]; omega) (fun i hi => ?_) (fun b hb => ?_)
    · have hm := hp.subset (el_mem hi)
      obtain ⟨j, hj, e⟩ := mem_el hm
      rw [← e]; exact hin j hj
    · rw [cnt_count, hp.count_eq, ← cnt_count]; exact hcn b hb
  unfold errO
  rw [if_pos (show valB J = true from decide_eq_true hv), if_pos this]
end M
/-- A slice held against nil. -/
theorem run_eql_nil (w : World) (a : Option Addr) (l c : Nat) : (binOp .eql 23 (.slice a l c) (.slice none 0 0)).run Try.prog w = .ok (.bool a.isNone) w := by
  unfold binOp
  simp only [Sem.run_bind, run_equal_slice_nil w 23 3 a l c Try.underlying23, Result.andThen_ok, Sem.run_pure]
attribute [local go_sem high] run_eql_nil
/-- A list that Next or Swap hands back. -/
def NxP (R : List Int × Int) (w : World) (e : Ending) (w' : World) : Prop :=
  ∃ A c, e = .returned (.tuple #[.slice A R.1.length c, .int .i64 R.2]) ∧ Below w.heap.size w w' ∧ Row w' w'.heap.size A R.1
def SwP (R : List Int × Int × Int) (w : World) (e : Ending) (w' : World) : Prop :=
  ∃ A c, e = .returned (.tuple #[.slice A R.1.length c, .int .i64 R.2.1, .int .i64 R.2.2]) ∧ Below w.heap.size w w' ∧ Row w' w'.heap.size A R.1
theorem blI_row {w : World} {g : Nat} {r : List Int} {n : Nat} (hn : r.length = n) (h : BlI w g n (el r)) (h63 : n ≤ 1000) : Row w w.heap.size (some ⟨g, 0, none⟩) r :=
  ⟨by omega, fun _ => ⟨g, 0, rfl, h.lt, fun i hi => by rw [Nat.zero_add]; exact h.cell (by omega)⟩⟩

set_option maxRecDepth 100000 in
set_option maxHeartbeats 4000000 in
theorem Next_any (B : Nat) (A Ao : Option Addr) (c co : Nat) (D : List Bc) (o : List Int) (w : World) (h : Bcs w B A D) (ho : Row w B Ao o) (hB : B ≤ w.heap.size) (hL : ∀ i, i < D.length → (be (bl D) i).length ≤ 100) :
    Calls Try.prog 41 #[.slice A D.length c, .slice Ao o.length co] w (NxP (nxR (bl D) o) w) := by
  have h63 := h.1
  have ho63 := ho.1
  have c55 := checkedOrder_any B A Ao c co D o w h ho hB hL
  unfold nxR NxP
  by_cases he : errO (bl D) o = 0
  · rw [if_pos he]
    rw [he] at c55
    obtain ⟨hv, hor⟩ := errO_ok he
    obtain ⟨-, h12, -, -, -⟩ := ord_spec hv hor
    have c73 := fun X (hX : Below w.heap.size w X) => following_any B Ao co o X (ho.below (hX.mono hB)) (Nat.le_trans hB hX.size) (by omega)
    unfold FoP RaP at c73
    have hsplit : (∃ r, nx o = some r) ∨ nx o = none := by cases nx o with | none => exact .inr rfl | some r => exact .inl ⟨r, rfl⟩
    rcases hsplit with ⟨r, hr⟩ | hr
    · rw [hr] at c73 ⊢
      simp only [] at c73 ⊢
      have c73' : ∀ X, Below w.heap.size w X → Calls Try.prog 73 #[.slice Ao o.length co] X fun e w' => ∃ g cap, r.length = o.length ∧ e = .returned (.slice (some ⟨g, 0, none⟩) o.length cap) ∧ Below X.heap.size X w' ∧ BlI w' g o.length (el r) := fun X hX => (c73 X hX).mono (by
        rintro e w' (⟨h1, _⟩ | ⟨g, cap, r', h1, h2, h3, h4, h5⟩)
        · cases h1
        · cases h1; exact ⟨g, cap, h2, h3, h4, h5⟩)
      clear c73
      generalize D.length = n at *
      generalize o.length = m at *
      replace hr := Lib.hid hr
      replace he := Lib.hid he
      replace hv := Lib.hid hv
      replace hor := Lib.hid hor
      replace c55 := Lib.hid c55
      replace c73' := Lib.hid c73'
      replace hL := Lib.hid hL
      replace h := Lib.hid h
      replace ho := Lib.hid ho
      go_enter Try.func41, Try.ntmps41
      go_wp2_with fail
      refine c55.out.mono ?_
      rintro e X1 ⟨rfl, hb1⟩
      have k73 := Lib.hid (c73'.out X1 hb1)
      replace hb1 := Lib.hid hb1
      go_wp2_with fail
      refine k73.out.mono ?_
      rintro e X2 ⟨g, cap, hrl, rfl, hb2, hbl⟩
      have hend := Lib.hid (bel_trans hb1.out hb2)
      have hrow := Lib.hid (blI_row hrl hbl (by omega))
      replace hrl := Lib.hid hrl
      replace hbl := Lib.hid hbl
      clear hb2 k73
      go_wp2
      exact bodyPost_ret (v := .tuple #[.slice (some ⟨g, 0, none⟩) m cap, .int .i64 0]) (by simp [results, Try.results41, go_sem]) rfl ⟨some ⟨g, 0, none⟩, cap, by rw [hrl.out], hend.out, hrow.out⟩
    · rw [hr] at c73 ⊢
      simp only [] at c73 ⊢
      have c73' : ∀ X, Below w.heap.size w X → Calls Try.prog 73 #[.slice Ao o.length co] X fun e w' => e = .returned (.slice none 0 0) ∧ Below X.heap.size X w' := fun X hX => (c73 X hX).mono (by
        rintro e w' (⟨_, h1, h2⟩ | ⟨g, cap, r', h1, _⟩)
        · exact ⟨h1, h2⟩
        · cases h1)
      clear c73
      generalize D.length = n at *
      generalize o.length = m at *
      replace hr := Lib.hid hr
      replace he := Lib.hid he
      replace hv := Lib.hid hv
      replace hor := Lib.hid hor
      replace c55 := Lib.hid c55
      replace c73' := Lib.hid c73'
      replace hL := Lib.hid hL
      replace h := Lib.hid h
      replace ho := Lib.hid ho
      go_enter Try.func41, Try.ntmps41
      go_wp2_with fail
      refine c55.out.mono ?_
      rintro e X1 ⟨rfl, hb1⟩
      have k73 := Lib.hid (c73'.out X1 hb1)
      replace hb1 := Lib.hid hb1
      go_wp2_with fail
      refine k73.out.mono ?_
      rintro e X2 ⟨rfl, hb2⟩
      have hend := Lib.hid (bel_trans hb1.out hb2)
      clear hb2 k73
      go_wp2
      exact bodyPost_ret (v := .tuple #[.slice none 0 0, .int .i64 5]) (by simp [results, Try.results41, go_sem]) rfl ⟨none, 0, rfl, hend.out, row_nil _ _ _⟩
  · rw [if_neg he]
    simp only []
    obtain ⟨E, hE⟩ : ∃ E, E = errO (bl D) o := ⟨_, rfl⟩
    rw [← hE] at c55 he ⊢
    generalize D.length = n at *
    generalize o.length = m at *
    replace hE := Lib.hid hE
    replace c55 := Lib.hid c55
    replace hL := Lib.hid hL
    replace h := Lib.hid h
    replace ho := Lib.hid ho
    go_enter Try.func41, Try.ntmps41
    go_wp2_with fail
    refine c55.out.mono ?_
    rintro e X1 ⟨rfl, hb1⟩
    replace hb1 := Lib.hid hb1
    go_wp2
    exact bodyPost_ret (v := .tuple #[.slice none 0 0, .int .i64 E]) (by simp [results, Try.results41, go_sem]) rfl ⟨none, 0, rfl, hb1.out, row_nil _ _ _⟩
end Go.Proofs.Ytgjgpcpghglnnaa
