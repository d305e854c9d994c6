/-
  The order that comes next: Next of the specification.
-/
import Derived.Test.YtgjgpcpghglnnaaMd
namespace Go.Proofs.Ytgjgpcpghglnnaa
open Go.RowKit Go.Deep M
set_option linter.unusedVariables false
set_option linter.unusedSimpArgs false

namespace M
/-- The least one of the greater numbers behind a place, up to k, as the loop has it: -1, or where it lies. -/
def LsI (l : List Int) (a k : Nat) (z : Int) : Prop :=
  (z = -1 ∧ ∀ j, a < j → j < k → ¬ el l a < el l j) ∨ ∃ t : Nat, z = (t : Nat) ∧ a < t ∧ t < k ∧ el l a < el l t ∧ ∀ j, a < j → j < k → el l a < el l j → el l t ≤ el l j
theorem lsI_zero (l : List Int) (a : Nat) : LsI l a (a + 1) (-1) := .inl ⟨rfl, fun j h1 h2 => by omega⟩
theorem lsI_no {l : List Int} {a k : Nat} {z : Int} (h : LsI l a k z) (hk : ¬ el l a < el l k) : LsI l a (k + 1) z := by
  rcases h with ⟨h1, h2⟩ | ⟨t, h1, h2, h3, h4, h5⟩
  · refine .inl ⟨h1, fun j ha hj => ?_⟩
    by_cases e : j = k
    · subst e; exact hk
    · exact h2 j ha (by omega)
  · refine .inr ⟨t, h1, h2, by omega, h4, fun j ha hj hb => ?_⟩
    by_cases e : j = k
    · subst e; exact absurd hb hk
    · exact h5 j ha (by omega) hb
theorem lsI_new {l : List Int} {a k : Nat} {z : Int} (h : LsI l a k z) (hak : a < k) (hk : el l a < el l k) (hz : z < 0 ∨ el l k < el l z.toNat) : LsI l a (k + 1) (k : Nat) := by
  refine .inr ⟨k, rfl, hak, by omega, hk, fun j ha hj hb => ?_⟩
  by_cases e : j = k
  · subst e; exact Int.le_refl _
  · rcases h with ⟨h1, h2⟩ | ⟨t, h1, h2, h3, h4, h5⟩
    · exact absurd hb (h2 j ha (by omega))
    · have h6 := h5 j ha (by omega) hb
      subst h1
      rw [Int.toNat_natCast] at hz
      omega
theorem lsI_old {l : List Int} {a k : Nat} {t : Nat} (h : LsI l a k (t : Nat)) (hk : ¬ el l k < el l t) : LsI l a (k + 1) (t : Nat) := by
  rcases h with ⟨h1, h2⟩ | ⟨t', h1, h2, h3, h4, h5⟩
  · omega
  · obtain rfl : t = t' := by omega
    refine .inr ⟨t, rfl, h2, by omega, h4, fun j ha hj hb => ?_⟩
    by_cases e : j = k
    · subst e; omega
    · exact h5 j ha (by omega) hb
end M

theorem blk_of {w : World} {b o : Nat} {v : Value} (h : w.cell? ⟨b, o, none⟩ = some v) : b < w.heap.size := by
  cases hh : w.heap[b]? with
  | none => simp [World.cell?, hh] at h
  | some ob => exact blk_lt hh
theorem one_at {w : World} {g : Nat} {z : Int} (h : w.cell? ⟨g, 0, none⟩ = some (.int .i64 z)) : ∀ j u, [Value.int .i64 z][j]? = some u → w.cell? ((⟨g, 0, none⟩ : Addr).add j) = some u := by
  intro j u hj
  match j, hj with
  | 0, hj => simp at hj; subst hj; rw [add_pl]; exact h
  | j + 1, hj => simp at hj
theorem alloc2_new (Z : World) (c1 c0 : Obj) : ((Z.alloc c1).alloc c0).drew.heap[Z.heap.size + 1]? = some c0 := by
  have h := heap_alloc_new (Z.alloc c1) c0
  rw [show (Z.alloc c1).heap.size = Z.heap.size + 1 by simp] at h
  exact h
theorem alloc2_old (Z : World) (c1 c0 : Obj) : ((Z.alloc c1).alloc c0).drew.heap[Z.heap.size]? = some c1 := by
  have h := (ba1 (Z.alloc c1) c0).block Z.heap.size (by simp)
  rw [heap_alloc_new] at h
  exact h
theorem cell_blk {w : World} {b : Nat} {v : Value} (h : w.heap[b]? = some (.cells #[v] 3 (0, 0))) : w.cell? ⟨b, 0, none⟩ = some v := by simp [World.cell?, h]
theorem own_empty {w : World} {base b : Nat} (h : w.heap[b]? = some (.cells #[] 3 (0, 0))) (hb : base ≤ b) : w.ownsRow base 3 1 (.slice (some ⟨b, 0, none⟩) 0 0) 0 [] :=
  ⟨by simp, .inr ⟨b, 0, #[], rfl, hb, h, Nat.le_refl _, by unfold maxLen; omega, by simp, by simp⟩⟩

set_option maxRecDepth 100000 in
set_option maxHeartbeats 4000000 in
theorem Next_ref_bad (B : Nat) (A Ao : Option Addr) (c co : Nat) (D : List Bc) (o : List Int) (w : World) (h : Bcs w B A D) (ho : Row w B Ao o) (hB : B ≤ w.heap.size) (hL : ∀ i, i < D.length → (be (bl D) i).length ≤ 100) (he : ¬ errO (bl D) o = 0) :
    Calls Try.prog 42 #[.slice A D.length c, .slice Ao o.length co] w (NxP (nxR (bl D) o) w) := by
  have h63 := h.1
  have ho63 := ho.1
  have c57 := asked_ref B A Ao c co D o w h ho hB hL
  unfold nxR NxP
  rw [if_neg he]
  simp only []
  obtain ⟨E, hE⟩ : ∃ E, E = errO (bl D) o := ⟨_, rfl⟩
  rw [← hE] at c57 he ⊢
  generalize D.length = n at *
  generalize o.length = m at *
  replace hE := Lib.hid hE
  replace c57 := Lib.hid c57
  replace hL := Lib.hid hL
  replace h := Lib.hid h
  replace ho := Lib.hid ho
  go_enter Try.func42, Try.ntmps42
  go_wp2_with fail
  refine c57.out.mono ?_
  rintro e X1 ⟨rfl, hb1⟩
  replace hb1 := Lib.hid hb1
  go_wp2
  exact bodyPost_ret (v := .tuple #[.slice none 0 0, .int .i64 E]) (by simp [results, Try.results42, go_sem]) rfl ⟨none, 0, rfl, hb1.out, row_nil _ _ _⟩

set_option maxRecDepth 100000 in
set_option maxHeartbeats 8000000 in
theorem Next_ref_ok (B : Nat) (A Ao : Option Addr) (c co : Nat) (D : List Bc) (o : List Int) (w : World) (h : Bcs w B A D) (ho : Row w B Ao o) (hB : B ≤ w.heap.size) (hL : ∀ i, i < D.length → (be (bl D) i).length ≤ 100) (hco : o.length ≤ co) (he : errO (bl D) o = 0) :
    Calls Try.prog 42 #[.slice A D.length c, .slice Ao o.length co] w (NxP (nxR (bl D) o) w) := by
  have h63 := h.1
  have c57 := asked_ref B A Ao c co D o w h ho hB hL
  rw [he] at c57
  obtain ⟨hv, hor⟩ := errO_ok he
  obtain ⟨-, h12, hin, -, -⟩ := ord_spec hv hor
  have hn6 : (bl D).length ≤ 6 := hv.1.2
  have hat := fun X (hX : Below w.heap.size w X) k (hk : k < o.length) => (ho.below (hX.mono hB)).at_ k hk
  obtain ⟨i3, ji, jz0, jz1, jz2⟩ := info_parts info3
  replace ji := Lib.hid ji
  replace jz0 := Lib.hid jz0
  replace jz1 := Lib.hid jz1
  replace jz2 := Lib.hid jz2
  have hno : Ds o 0 → nxR (bl D) o = ([], 5) := fun hd => by unfold nxR; rw [if_pos he, nx_none hd]
  have hyes : ∀ a t, a < t → t < o.length → Ds o (a + 1) → el o a < el o t → (∀ j, a < j → j < o.length → el o a < el o j → el o t ≤ el o j) →
      nxR (bl D) o = (o.take a ++ el o t :: srt ((o.drop (a + 1)).set (t - (a + 1)) (el o a)), 0) := fun a t h1 h2 h3 h4 h5 => by unfold nxR; rw [if_pos he, nx_least h1 h2 h3 h4 h5]
  have hds : ∀ a, Ds o (a + 1) → (∀ j, a < j → j < o.length → ¬ el o a < el o j) → Ds o a := fun k hd hn j hj hl => by
    by_cases e : j = k
    · subst e; have := hn (j + 1) (by omega) hl; omega
    · exact hd j (by omega) hl
  obtain ⟨R, hR⟩ : ∃ R, R = nxR (bl D) o := ⟨_, rfl⟩
  rw [← hR] at hno hyes ⊢
  obtain ⟨m, hm'⟩ : ∃ m, m = o.length := ⟨_, rfl⟩
  have hd0 : Ds o (m - 1) := fun j hj hl => by omega
  rw [← hm'] at c57 h12 hat hyes hds hco ⊢
  generalize D.length = n at *
  have hsub : IntKind.i64.wrap ((m : Int) - 1) = (m : Int) - 1 := IntWalk.i64_in _ (by omega)
  replace hm' := Lib.hid hm'
  replace hR := Lib.hid hR
  replace hno := Lib.hid hno
  replace hyes := Lib.hid hyes
  replace hds := Lib.hid hds
  replace hd0 := Lib.hid hd0
  replace hat := Lib.hid hat
  replace hin := Lib.hid hin
  replace hn6 := Lib.hid hn6
  replace c57 := Lib.hid c57
  replace he := Lib.hid he
  replace hv := Lib.hid hv
  replace hor := Lib.hid hor
  replace hL := Lib.hid hL
  replace h := Lib.hid h
  replace ho := Lib.hid ho
  go_enter Try.func42, Try.ntmps42
  go_wp2_with fail
  refine c57.out.mono ?_
  rintro e X1 ⟨rfl, hb1⟩
  replace hb1 := Lib.hid hb1
  go_wp2
  go_loopw [7, 8, 9] (fun s _ _ X => ∃ (z : Int) (nd : Nat), -1 ≤ z ∧ z ≤ (m : Int) - 1 ∧ s = .int .i64 z ∧ X = X1.drewN nd ∧ Ds o (z + 1).toNat) (fun s _ _ _ => (intOf s + 1).toNat)
  case atStart => exact ⟨(m : Int) - 1, 0, by omega, by omega, rfl, rfl, fun j hj hl => by have := hm'.out; omega⟩
  case round =>
    obtain ⟨z, nd, hz1, hz2, rfl, hX, hd⟩ := hrel
    by_cases hz : 0 ≤ z
    · obtain ⟨a, rfl⟩ := Int.eq_ofNat_of_zero_le hz
      rw [show ((a : Int) + 1).toNat = a + 1 by omega] at hd
      have ham : a < m := by omega
      have hw1 : IntKind.i64.wrap ((a : Int) + 1) = ((a + 1 : Nat) : Int) := by rw [IntWalk.i64_in _ (by omega)]; omega
      have hls0 := Lib.hid (lsI_zero o a)
      have hXz := Lib.hid (show ∃ nd, wr = X1.drewN nd from ⟨nd, hX⟩)
      clear hX
      replace hd := Lib.hid hd
      go_wp2
      go_loopw [8, 9] (fun ls s X => ∃ (k : Nat) (y : Int), a < k ∧ k ≤ m ∧ s = .int .i64 (k : Nat) ∧ ls = .int .i64 y ∧ LsI o a k y ∧ ∃ nd, X = X1.drewN nd) (fun _ s _ => m - (intOf s).toNat)
      case atStart => exact ⟨a + 1, -1, by omega, by omega, by simp; try omega, rfl, hls0.out, hXz.out⟩
      case round =>
        obtain ⟨k, y, hak, hkm, rfl, rfl, hls, nd2, hX2⟩ := hrel
        have hXb : Below w.heap.size w wr := by rw [hX2]; exact below_drewN hb1.out nd2
        by_cases hlk : k < m
        · obtain ⟨b, o1, rfl, _, u0⟩ := hat.out wr hXb a ham
          obtain ⟨b2, o2, hA2, _, u1⟩ := hat.out wr hXb k hlk
          injection hA2 with hA2
          injection hA2 with e1 e2 _
          subst e1
          subst e2
          have hki : (k : Int) < (m : Int) := by omega
          have hai : (a : Int) < (m : Int) := by omega
          have hw2 : IntKind.i64.wrap ((k : Int) + 1) = ((k + 1 : Nat) : Int) := by rw [IntWalk.i64_in _ (by omega)]; omega
          by_cases hgt : el o a < el o k
          · rcases (show (y = -1) ∨ ∃ t : Nat, y = (t : Nat) ∧ t < k from by rcases hls with ⟨h1, _⟩ | ⟨t, h1, _, h3, _⟩; exact .inl h1; exact .inr ⟨t, h1, h3⟩) with rfl | ⟨t, rfl, htk⟩
            · have hs := Lib.hid (lsI_new hls hak hgt (.inl (by omega)))
              obtain ⟨x, hx⟩ : ∃ x, x = el o a := ⟨_, rfl⟩
              obtain ⟨v, hv9⟩ : ∃ x, x = el o k := ⟨_, rfl⟩
              rw [← hx] at u0 hgt
              rw [← hv9] at u1 hgt
              replace hls := Lib.hid hls
              replace hx := Lib.hid hx
              replace hv9 := Lib.hid hv9
              replace hX2 := Lib.hid hX2
              replace hXb := Lib.hid hXb
              go_wp2
              go_quiet (fail)
              go_wp2
              go_roundw
              case rel => exact ⟨k + 1, (k : Nat), by omega, by omega, by go_num, rfl, hs.out, nd2 + nq, by rw [hX2.out, World.drewN_drewN]⟩
              case measure => simp [intOf]; omega
            · obtain ⟨b3, o3, hA3, _, u2⟩ := hat.out wr hXb t (by omega)
              injection hA3 with hA3
              injection hA3 with e1 e2 _
              subst e1
              subst e2
              have hti : (t : Int) < (m : Int) := by omega
              have ht0 : decide ((t : Int) < 0) = false := decide_eq_false (by omega)
              by_cases hkt : el o k < el o t
              · have hs := Lib.hid (lsI_new hls hak hgt (.inr (by rw [Int.toNat_natCast]; exact hkt)))
                obtain ⟨x, hx⟩ : ∃ x, x = el o a := ⟨_, rfl⟩
                obtain ⟨v, hv9⟩ : ∃ x, x = el o k := ⟨_, rfl⟩
                obtain ⟨v2, hv8⟩ : ∃ x, x = el o t := ⟨_, rfl⟩
                rw [← hx] at u0 hgt
                rw [← hv9] at u1 hgt hkt
                rw [← hv8] at u2 hkt
                replace hls := Lib.hid hls
                replace hx := Lib.hid hx
                replace hv9 := Lib.hid hv9
                replace hv8 := Lib.hid hv8
                replace hX2 := Lib.hid hX2
                replace hXb := Lib.hid hXb
                go_wp2
                go_quiet (fail)
                go_wp2
                go_roundw
                case rel => exact ⟨k + 1, (k : Nat), by omega, by omega, by go_num, rfl, hs.out, nd2 + nq, by rw [hX2.out, World.drewN_drewN]⟩
                case measure => simp [intOf]; omega
              · have hs := Lib.hid (lsI_old hls hkt)
                obtain ⟨x, hx⟩ : ∃ x, x = el o a := ⟨_, rfl⟩
                obtain ⟨v, hv9⟩ : ∃ x, x = el o k := ⟨_, rfl⟩
                obtain ⟨v2, hv8⟩ : ∃ x, x = el o t := ⟨_, rfl⟩
                rw [← hx] at u0 hgt
                rw [← hv9] at u1 hgt hkt
                rw [← hv8] at u2 hkt
                replace hls := Lib.hid hls
                replace hx := Lib.hid hx
                replace hv9 := Lib.hid hv9
                replace hv8 := Lib.hid hv8
                replace hX2 := Lib.hid hX2
                replace hXb := Lib.hid hXb
                go_wp2
                go_quiet (fail)
                go_wp2
                go_roundw
                case rel => exact ⟨k + 1, (t : Nat), by omega, by omega, by go_num, rfl, hs.out, nd2 + nq, by rw [hX2.out, World.drewN_drewN]⟩
                case measure => simp [intOf]; omega
          · have hs := Lib.hid (lsI_no hls hgt)
            obtain ⟨x, hx⟩ : ∃ x, x = el o a := ⟨_, rfl⟩
            obtain ⟨v, hv9⟩ : ∃ x, x = el o k := ⟨_, rfl⟩
            rw [← hx] at u0 hgt
            rw [← hv9] at u1 hgt
            have hgd : decide (x < v) = false := by simpa using hgt
            replace hgt := Lib.hid hgt
            replace hls := Lib.hid hls
            replace hx := Lib.hid hx
            replace hv9 := Lib.hid hv9
            replace hX2 := Lib.hid hX2
            replace hXb := Lib.hid hXb
            go_wp2
            go_quiet (fail)
            go_wp2
            go_roundw
            case rel => exact ⟨k + 1, y, by omega, by omega, by go_num, rfl, hs.out, nd2 + nq, by rw [hX2.out, World.drewN_drewN]⟩
            case measure => simp [intOf]; omega
        · have hk' : m = k := by omega
          subst hk'
          rcases hls with ⟨rfl, hls⟩ | ⟨t, rfl, hat2, htk, hlt, hle⟩
          · have hnd := Lib.hid (hds.out a hd.out (fun j h1 h2 => by have := hls j h1 h2; omega))
            have hw2 : IntKind.i64.wrap ((a : Int) - 1) = (a : Int) - 1 := IntWalk.i64_in _ (by omega)
            clear hls
            replace hX2 := Lib.hid hX2
            replace hXb := Lib.hid hXb
            go_wp2
            go_roundw
            case rel => exact ⟨(a : Int) - 1, nd2, by omega, by omega, rfl, hX2.out, by rw [show ((a : Int) - 1 + 1).toNat = a by omega]; exact hnd.out⟩
            case measure => simp [intOf]
          · have hRR := hyes.out a t hat2 htk hd.out hlt (fun j h1 h2 h3 => hle j h1 h2 h3)
            clear hlt hle
            obtain ⟨b, o1, rfl, _, _⟩ := hat.out wr hXb a ham
            have hlo : ∀ X, Below w.heap.size w X → ∀ q, q < m → X.cell? ⟨b, o1 + q, none⟩ = some (.int .i64 (el o q)) := fun X hXX q hq => by
              obtain ⟨b', o', e, _, hc⟩ := hat.out X hXX q hq
              cases e; exact hc
            have hbw : b < wr.heap.size := blk_of (hlo wr hXb a ham)
            obtain ⟨x, hx⟩ : ∃ x, x = el o t := ⟨_, rfl⟩
            obtain ⟨y, hy⟩ : ∃ x, x = el o a := ⟨_, rfl⟩
            rw [← hx, ← hy] at hRR
            obtain ⟨d, hdd⟩ : ∃ d, d = m - a := ⟨_, rfl⟩
            obtain ⟨l1, hl1⟩ : ∃ l, l = o.drop a := ⟨_, rfl⟩
            have hl1l : l1.length = d := by rw [hl1, List.length_drop, ← hm'.out, hdd]
            have hvl1 : (vals l1).length = d := by rw [vals_len, hl1l]
            obtain ⟨Zd, hZd⟩ : ∃ Zd, Zd = wr.alloc (.cells #[] 3) := ⟨_, rfl⟩
            have hbZd : Below wr.heap.size wr Zd := by rw [hZd]; exact ba1 wr _
            have own1 : Zd.ownsRow wr.heap.size 3 1 (.slice (some ⟨wr.heap.size, 0, none⟩) 0 0) 0 [] := by rw [hZd]; exact empty_own wr 3
            have news1 : ∀ j u, (vals l1)[j]? = some u → Zd.cell? ((⟨b, o1 + a, none⟩ : Addr).add j) = some u := fun j u hu => by
              obtain ⟨hj, rfl⟩ := news_get hu
              rw [add_pl, hl1, el_drop, Nat.add_assoc]
              exact hlo Zd (bel_trans hXb hbZd) (a + j) (by omega)
            have hZs : wr.heap.size ≤ Zd.heap.size := hbZd.size
            have hd1 : 1 < d := by omega
            have hda : m - a = d := hdd.symm
            have hti : ¬ (t : Int) < 0 := by omega
            have hta : IntKind.i64.wrap ((t : Int) - (a : Int)) = ((t - a : Nat) : Int) := by rw [IntWalk.i64_in _ (by omega)]; omega
            have hta2 : t - a < d := by omega
            have hai : (a : Int) ≤ (m : Int) := by omega
            have hac : ¬ a = co := by omega
            have hXs := hXb.size
            replace own1 := Lib.hid own1
            replace news1 := Lib.hid news1
            replace hvl1 := Lib.hid hvl1
            replace hbZd := Lib.hid hbZd
            replace hlo := Lib.hid hlo
            replace hRR := Lib.hid hRR
            replace hx := Lib.hid hx
            replace hy := Lib.hid hy
            replace hdd := Lib.hid hdd
            replace hl1 := Lib.hid hl1
            replace hl1l := Lib.hid hl1l
            replace hX2 := Lib.hid hX2
            replace hXb := Lib.hid hXb
            replace hda := Lib.hid hda
            subst hZd
            go_wp2_with (at_builtin
                         refine wpList_append_own _ rfl (.tmp 60) (.tmp 63) 23 rfl wr.heap.size 3 i3 (.int .i64 0) 1 8 Try.underlying23 ji.out jz0.out jz1.out jz2.out rfl (by decide) _ _ _ rfl own1.out ⟨b, o1 + a, none⟩ (m - a) (co - a) (vals l1) rfl (by rw [hvl1.out, Nat.mul_one, hda.out]) news1.out (fun u hu => by obtain ⟨_, _, rfl⟩ := List.mem_map.1 hu; rfl) (by unfold maxLen; omega) (by omega) hZs ?_
                         intro v' w1 hown' hgrow _
                         have hbb := Lib.hid (below_grown hgrow (B := wr.heap.size) hZs (fun k e => by cases e; exact Nat.le_refl _))
                         have hown2 : w1.ownsRow wr.heap.size 3 1 v' l1.length (vals l1) := by rw [hl1l.out, ← hda.out]; simpa using hown'
                         obtain ⟨gl, cl, rfl, hcl, hgl, hbl⟩ := own_blk hown2 (by rw [hl1l.out]; omega)
                         rw [hl1l.out] at hbl hcl
                         have hb4 := bel_trans hXb.out (hbZd.out.trans hbb.out)
                         have c0 := hbl.cell (show 0 < d by omega)
                         rw [hl1.out, el_drop, Nat.add_zero, ← hy.out] at c0
                         have c1 := hbl.cell hta2
                         have f1 := hbl.fz (t - a)
                         have hbgl := hbl.lt
                         have hbl2 := (hbl.set hta2 y)
                         have hb5 : Below w.heap.size w (w1.setCell ⟨gl, t - a, none⟩ (.int .i64 y)) := hb4.setCell (show w.heap.size ≤ gl by omega) _
                         replace hbb := Lib.hid hbb
                         replace hb4 := Lib.hid hb4
                         replace hb5 := Lib.hid hb5
                         replace hbl := Lib.hid hbl
                         replace hbl2 := Lib.hid hbl2
                         rw [hl1l.out]
                         clear hown' hgrow hown2)
            have hglZ : gl < (w1.setCell ⟨gl, t - a, none⟩ (.int .i64 y)).heap.size := by simp; exact hbgl
            clear c0 c1 f1 hbgl hbl hb4 hbb
            generalize w1.setCell ⟨gl, t - a, none⟩ (.int .i64 y) = Z at hb5 hbl2 hglZ ⊢
            have u0 := hlo.out Z hb5.out t htk
            rw [← hx.out] at u0
            have hbZ := blk_of u0
            have htm : (t : Int) < (m : Int) := by omega
            have hac2 : (a : Int) ≤ (co : Int) := by omega
            have hac3 : a ≤ co := by omega
            have hws := hb5.out.size
            obtain ⟨l2, hl2⟩ : ∃ l, l = o.take a := ⟨_, rfl⟩
            have hl2l : l2.length = a := by rw [hl2, List.length_take, ← hm'.out]; omega
            have hvl2 : (vals l2).length = a := by rw [vals_len, hl2l]
            have hnw : ∀ W, Below Z.heap.size Z W → ∀ j u, (vals l2)[j]? = some u → W.cell? ((⟨b, o1, none⟩ : Addr).add j) = some u := fun W hW j u hu => by
              obtain ⟨hj, rfl⟩ := news_get hu
              rw [hl2l] at hj
              rw [add_pl, hl2, el_take hj]
              exact hlo.out W (bel_trans hb5.out hW) j (by omega)
            have hx1 : ∀ u ∈ [Value.int .i64 x], u.oneCell' = true := fun u hu => by cases List.mem_singleton.1 hu; rfl
            have hx2 : ∀ u ∈ vals l2, u.oneCell' = true := fun u hu => by obtain ⟨_, _, rfl⟩ := List.mem_map.1 hu; rfl
            replace hl2 := Lib.hid hl2
            replace hl2l := Lib.hid hl2l
            replace hvl2 := Lib.hid hvl2
            replace hnw := Lib.hid hnw
            replace hx1 := Lib.hid hx1
            replace hx2 := Lib.hid hx2
            go_region_law (first
              | (refine step_append_own rfl (.tmp 73) (.tmp 76) 23 rfl Z.heap.size 3 i3 (.int .i64 0) 1 8 Try.underlying23 ji.out jz0.out jz1.out jz2.out rfl (by decide) (.slice (some ⟨Z.heap.size, 0, none⟩) 0 0) 0 [] rfl (own_empty (by first | exact heap_alloc_new Z _ | exact ((ba1 (Z.alloc _) _).block _ (by simp)).trans (heap_alloc_new Z _) | exact alloc2_new _ _ _) (by simp)) ⟨b, o1, none⟩ a co (vals l2) rfl (by rw [hvl2.out, Nat.mul_one]) (hnw.out _ (below_drewN (by repeat (first | exact Below.refl _ _ | refine Below.alloc ?_ (by simp) _)) 1)) hx2.out (by unfold maxLen; omega) (by omega) (by simp; try omega) ?_
                 intro v1 w2 hown1 hgrow1
                 have hbb1 : Below Z.heap.size Z w2 := (show Below Z.heap.size Z _ from below_drewN (by repeat (first | exact Below.refl _ _ | refine Below.alloc ?_ (by simp) _)) 1).trans (below_grown hgrow1 (by simp; try omega) (fun k e => by cases e; simp))
                 have u1 := (hbb1.cell (p := ⟨b, o1 + t, none⟩) hbZ).trans u0
                 have hkp := Lib.hid (fun q (v : Value) h hq => hgrow1.cell (a := ⟨q, 0, none⟩) (v := v) h hq)
                 have hz2 := hbb1.size
                 rw [Nat.zero_add, List.nil_append] at hown1
                 replace hown1 := Lib.hid hown1
                 replace hbb1 := Lib.hid hbb1
                 clear hgrow1)
              | (refine step_append_own rfl (.tmp 73) (.tmp 76) 23 rfl Z.heap.size 3 i3 (.int .i64 0) 1 8 Try.underlying23 ji.out jz0.out jz1.out jz2.out rfl (by decide) (.slice (some ⟨Z.heap.size + 1, 0, none⟩) 0 0) 0 [] rfl (own_empty (by first | exact heap_alloc_new Z _ | exact ((ba1 (Z.alloc _) _).block _ (by simp)).trans (heap_alloc_new Z _) | exact alloc2_new _ _ _) (by simp)) ⟨b, o1, none⟩ a co (vals l2) rfl (by rw [hvl2.out, Nat.mul_one]) (hnw.out _ (below_drewN (by repeat (first | exact Below.refl _ _ | refine Below.alloc ?_ (by simp) _)) 1)) hx2.out (by unfold maxLen; omega) (by omega) (by simp; try omega) ?_
                 intro v1 w2 hown1 hgrow1
                 have hbb1 : Below Z.heap.size Z w2 := (show Below Z.heap.size Z _ from below_drewN (by repeat (first | exact Below.refl _ _ | refine Below.alloc ?_ (by simp) _)) 1).trans (below_grown hgrow1 (by simp; try omega) (fun k e => by cases e; simp))
                 have u1 := (hbb1.cell (p := ⟨b, o1 + t, none⟩) hbZ).trans u0
                 have hkp := Lib.hid (fun q (v : Value) h hq => hgrow1.cell (a := ⟨q, 0, none⟩) (v := v) h hq)
                 have hz2 := hbb1.size
                 rw [Nat.zero_add, List.nil_append] at hown1
                 replace hown1 := Lib.hid hown1
                 replace hbb1 := Lib.hid hbb1
                 clear hgrow1)
              | (refine step_append_own rfl (.tmp 77) (.tmp 82) 23 rfl Z.heap.size 3 i3 (.int .i64 0) 1 8 Try.underlying23 ji.out jz0.out jz1.out jz2.out rfl (by decide) _ a (vals l2) rfl (own_up hown1.out (ba1 _ _)) ⟨w2.heap.size, 0, none⟩ 1 1 [.int .i64 x] rfl rfl (one_new _ _) hx1.out (by unfold maxLen; omega) (by omega) (by simp; try omega) ?_
                 intro v3 w3 hown3 hgrow3
                 have hbb3 := hbb1.out.trans (((ba1 w2 _).mono hz2).trans (below_grown hgrow3 (by simp; try omega) (fun k e => (hown1.out.lt k e).1)))
                 replace hown3 := Lib.hid hown3
                 replace hbb3 := Lib.hid hbb3
                 clear hgrow3)
              | (refine step_append_own rfl (.tmp 77) (.tmp 82) 23 rfl Z.heap.size 3 i3 (.int .i64 0) 1 8 Try.underlying23 ji.out jz0.out jz1.out jz2.out rfl (by decide) _ a (vals l2) rfl hown1.out ⟨Z.heap.size + 1, 0, none⟩ 1 1 [.int .i64 x] rfl rfl (one_at (hkp.out (Z.heap.size + 1) (.int .i64 x) (cell_blk (alloc2_new _ _ _)) (fun e => by have e' : some (Z.heap.size + 1) = some Z.heap.size := e; injection e' with e'; omega))) hx1.out (by unfold maxLen; omega) (by omega) hz2 ?_
                 intro v3 w3 hown3 hgrow3
                 have hbb3 := hbb1.out.trans (below_grown hgrow3 hz2 (fun k e => (hown1.out.lt k e).1))
                 replace hown3 := Lib.hid hown3
                 replace hbb3 := Lib.hid hbb3
                 clear hgrow3)
              | (refine step_append_own rfl (.tmp 77) (.tmp 82) 23 rfl Z.heap.size 3 i3 (.int .i64 0) 1 8 Try.underlying23 ji.out jz0.out jz1.out jz2.out rfl (by decide) _ a (vals l2) rfl hown1.out ⟨Z.heap.size, 0, none⟩ 1 1 [.int .i64 x] rfl rfl (one_at (hkp.out (Z.heap.size) (.int .i64 x) (cell_blk (alloc2_old _ _ _)) (fun e => by have e' : some Z.heap.size = some (Z.heap.size + 1) := e; injection e' with e'; omega))) hx1.out (by unfold maxLen; omega) (by omega) hz2 ?_
                 intro v3 w3 hown3 hgrow3
                 have hbb3 := hbb1.out.trans (below_grown hgrow3 hz2 (fun k e => (hown1.out.lt k e).1))
                 replace hown3 := Lib.hid hown3
                 replace hbb3 := Lib.hid hbb3
                 clear hgrow3))
            all_goals
              have hb6 := bel_trans hb5.out hbb3.out
              obtain ⟨zs, hzs⟩ : ∃ zs, zs = (o.drop (a + 1)).set (t - (a + 1)) y := ⟨_, rfl⟩
              have hRR' := hRR.out
              rw [← hzs, ← hl2.out] at hRR'
              have hzl : zs.length = d - 1 := by rw [hzs, List.length_set, List.length_drop, ← hm'.out, hdd.out]; omega
              have hmo := hm'.out
              have hdo := hdd.out
              have htl : t - (a + 1) < (o.drop (a + 1)).length := by rw [List.length_drop, ← hmo]; omega
              have hze : ∀ q, el zs q = if q = t - (a + 1) then y else el o (a + 1 + q) := fun q => by rw [hzs, el_set _ htl, el_drop]
              have hrow : Row w3 w3.heap.size (some ⟨gl, 1, none⟩) zs := by
                have hb := hbl2.out.to (hbb3.out.block gl hglZ)
                refine ⟨by omega, fun _ => ⟨gl, 1, rfl, hb.lt, fun q hq => ?_⟩⟩
                rw [hb.cell (show 1 + q < d by omega), hze, hl1.out, el_drop]
                by_cases e : q = t - (a + 1)
                · rw [if_pos e, if_pos (by omega)]
                · rw [if_neg e, if_neg (by omega)]
                  have : a + (1 + q) = a + 1 + q := by omega
                  rw [this]
              have hin6 : ∀ u ∈ zs, 0 ≤ u ∧ u < 6 := fun u hu => by
                obtain ⟨q, hq, rfl⟩ := mem_el hu
                have h6 := hn6.out
                rw [hze]
                by_cases e : q = t - (a + 1)
                · rw [if_pos e, hy.out]
                  have := hin.out a (by omega)
                  omega
                · rw [if_neg e]
                  have := hin.out (a + 1 + q) (by omega)
                  omega
              have k74 := sorted_ref w3.heap.size (some ⟨gl, 1, none⟩) (cl - 1) zs w3 hrow (Nat.le_refl _) (by omega) hin6
              rw [hzl] at k74
              have hcl1 : ¬ 1 = cl := by omega
              have hcl2 : 1 ≤ d := by omega
              have hd12 : a + d ≤ 12 := by omega
              have hsl := srt_len zs
              rw [hzl] at hsl
              have hws3 := hb6.size
              have hzw3 := hbb3.out.size
              clear hze htl hrow hin6
              replace k74 := Lib.hid k74
              replace hb6 := Lib.hid hb6
              replace hRR' := Lib.hid hRR'
              replace hzs := Lib.hid hzs
              replace hzl := Lib.hid hzl
              replace hsl := Lib.hid hsl
              replace hmo := Lib.hid hmo
              replace hdo := Lib.hid hdo
              go_wp2_with fail
              (with_reducible refine k74.out.mono ?_)
              rintro e X5 ⟨v5, rfl, hF⟩
              obtain ⟨g5, cap5, rfl, hcap5, _, hbl5⟩ := own_blk hF.own (by rw [hsl.out]; omega)
              have news5 : ∀ j u, (vals (srt zs))[j]? = some u → X5.cell? ((⟨g5, 0, none⟩ : Addr).add j) = some u := fun j u hu => by
                obtain ⟨hj, rfl⟩ := news_get hu
                rw [add_pl, Nat.zero_add]
                exact hbl5.cell hj
              have own5 := own_up hown3.out hF.below
              have hb7 := bel_trans hb6.out hF.below
              have hz5 : Z.heap.size ≤ X5.heap.size := Nat.le_trans hzw3 hF.below.size
              have hv5 : (vals (srt zs)).length = d - 1 := by rw [vals_len, hsl.out]
              rw [hsl.out]
              replace hF := Lib.hid hF
              replace hbl5 := Lib.hid hbl5
              replace news5 := Lib.hid news5
              replace own5 := Lib.hid own5
              replace hb7 := Lib.hid hb7
              replace hv5 := Lib.hid hv5
              clear hcap5
              go_wp2_with (at_builtin
                           refine wpList_append_own _ rfl (.tmp 84) (.tmp 87) 23 rfl Z.heap.size 3 i3 (.int .i64 0) 1 8 Try.underlying23 ji.out jz0.out jz1.out jz2.out rfl (by decide) _ _ _ rfl own5.out ⟨g5, 0, none⟩ (d - 1) cap5 (vals (srt zs)) rfl (by rw [hv5.out, Nat.mul_one]) news5.out (fun u hu => by obtain ⟨_, _, rfl⟩ := List.mem_map.1 hu; rfl) (by unfold maxLen; omega) (by omega) hz5 ?_
                           intro v6 w6 hown6 hgrow6 _
                           have hR1 : R.1.length = a + 1 + (d - 1) := by rw [hRR'.out]; simp [hl2l.out, hsl.out]; omega
                           have hown6' : w6.ownsRow Z.heap.size 3 1 v6 R.1.length (vals R.1) := by rw [hR1, hRR'.out]; simpa [vals] using hown6
                           obtain ⟨A6, c6, rfl, hrow6⟩ := own_row hown6' (by rw [hR1]; omega)
                           have hend := Lib.hid (hb7.out.trans (below_grown hgrow6 (B := w.heap.size) (by omega) (fun k e => by have := (own5.out.lt k e).1; omega)))
                           replace hrow6 := Lib.hid hrow6
                           replace hR1 := Lib.hid hR1
                           clear hown6 hown6' hgrow6)
              exact bodyPost_ret (v := .tuple #[.slice A6 R.1.length c6, .int .i64 0]) (by simp [results, Try.results42, go_sem]) rfl ⟨A6, c6, by rw [show R.2 = 0 by rw [hRR'.out]], hend.out, hrow6.out⟩
    · have hXb : Below w.heap.size w wr := by rw [hX]; exact below_drewN hb1.out nd
      rw [show (z + 1).toNat = 0 by omega] at hd
      have hnn := Lib.hid (hno.out hd)
      replace hX := Lib.hid hX
      replace hXb := Lib.hid hXb
      replace hd := Lib.hid hd
      go_wp2
      exact bodyPost_ret (v := .tuple #[.slice none 0 0, .int .i64 5]) (by simp [results, Try.results42, go_sem]) rfl (by rw [hnn.out]; exact ⟨none, 0, rfl, hXb.out, row_nil _ _ _⟩)
end Go.Proofs.Ytgjgpcpghglnnaa
