/-
  The numbers of a list in ascending order: the specification's function; an append inside a region that draws its order.
-/
import Derived.Test.YtgjgpcpghglnnaaMc
namespace Go.Proofs.Ytgjgpcpghglnnaa
open Go.RowKit Go.Deep M
set_option linter.unusedVariables false
set_option linter.unusedSimpArgs false

section
open Go
variable {P : Program}
theorem step_append_own {ops : Array Oper} {o : Oper} {a : Act} {w : World} {K : Act → World → Prop} {Q : Exit → Act → World → Prop} {E : Prop} (hgd : o.guard = none) (s x : Operand) (t : TypeId)
    (ho : o.op = .call { callee := .builtin .append, args := #[s, x], argTypes := #[t, t] })
    (base : Nat) (e : TypeId) (i : TypeInfo) (z : Value) (size bytes : Nat) (ht : P.underlying t = some (.slice e)) (hi : P.info? e = some i) (hz : i.zero = some z)
    (hsize : i.size = size) (hby : i.bytes = bytes) (hzs : z.cells.size = size) (hsz : 0 < size)
    (v : Value) (n : Nat) (xs : List Value) (hs : a.eval s = v) (hown : w.ownsRow base e size v n xs)
    (ad : Addr) (m c : Nat) (news : List Value) (hx : a.eval x = .slice (some ad) m c) (hl : news.length = m * size) (hnews : ∀ j u, news[j]? = some u → w.cell? (ad.add j) = some u) (h1 : ∀ u ∈ news, u.oneCell' = true)
    (h63 : n + m ≤ maxLen) (hbytes : (n + m) * bytes ≤ 140737488355328) (hbase : base ≤ w.heap.size)
    (h : ∀ v' w', w'.ownsRow base e size v' (n + m) (xs ++ news) → w.grownBy w' v.ownBlock → K (a.put o.dst v') w') :
    if Region.wanted o (yielded ops a.tmps) = true then Oper.wp P o a w K Q else E := by
  have hw : Region.wanted o (yielded ops a.tmps) = true := by simp [Region.wanted, hgd]
  rw [if_pos hw]
  exact wp_append_own w s x t ho base e i z size bytes ht hi hz hsize hby hzs hsz v n xs hs hown ad m c news hx hl hnews h1 h63 hbytes hbase fun v' w' h2 h3 _ => h v' w' h2 h3
end

namespace M
/-- The numbers below n of a list, in ascending order. -/
def so (l : List Int) : Nat → List Int
  | 0 => []
  | n + 1 => so l n ++ List.replicate (cnt l (n : Nat) l.length) (n : Int)
theorem so_succ (l : List Int) (n : Nat) : so l (n + 1) = so l n ++ List.replicate (cnt l (n : Nat) l.length) (n : Int) := rfl
def cJ (l : List Int) : List (List Jb) := (List.range 6).map fun (k : Nat) => List.replicate (cnt l (k : Nat) l.length) ⟨0, 0⟩
theorem cJ_at (l : List Int) {k : Nat} (h : k < 6) : (be (cJ l) k).length = cnt l (k : Nat) l.length := by
  unfold be cJ
  simp [List.getD_eq_getElem?_getD, h]
theorem so_fo (l : List Int) : ∀ n, n ≤ 6 → so l n = fo (cJ l) n := by
  intro n
  induction n with
  | zero => intro _; rfl
  | succ n ih => intro h; rw [so_succ, fo_succ, ih (by omega), cJ_at l (by omega)]
theorem so_srt {l : List Int} (h : ∀ y ∈ l, 0 ≤ y ∧ y < 6) : so l 6 = srt l := by
  have hJ : (cJ l).length = 6 := by simp [cJ]
  rw [so_fo l 6 (Nat.le_refl _)]
  refine srt_of ?_ (fo_sorted _ 6)
  rw [List.perm_iff_count]
  intro a
  by_cases ha : 0 ≤ a ∧ a < 6
  · obtain ⟨b, rfl⟩ := Int.eq_ofNat_of_zero_le ha.1
    have hb : b < 6 := by omega
    have h1 := fo_count (cJ l) b (by rw [hJ]; exact hb)
    rw [hJ] at h1
    show (fo (cJ l) 6).count ((b : Nat) : Int) = l.count ((b : Nat) : Int)
    rw [h1, cJ_at l hb, cnt_count]
  · rw [List.count_eq_zero.2 fun hm => ha (by have := fo_mem hm; exact ⟨this.1, by omega⟩), List.count_eq_zero.2 fun hm => ha (h a hm)]
theorem so_len {l : List Int} {m : Nat} (hm : l.length ≤ m) : ∀ n, (so l n).length ≤ m * n := by
  intro n
  induction n with
  | zero => exact Nat.le_refl _
  | succ n ih =>
    have := cnt_le l (n : Nat) l.length
    rw [so_succ, List.length_append, List.length_replicate, Nat.mul_succ]
    omega
end M

set_option maxRecDepth 100000 in
set_option maxHeartbeats 8000000 in
theorem sorted_ref (B : Nat) (A : Option Addr) (c : Nat) (l : List Int) (w : World) (h : Row w B A l) (hB : B ≤ w.heap.size) (h12 : l.length ≤ 12) (hin : ∀ y ∈ l, 0 ≤ y ∧ y < 6) :
    Calls Try.prog 74 #[.slice A l.length c] w fun e w' => ∃ v, e = .returned v ∧ FoW w v (srt l) w' := by
  have hat := fun X (hX : Below w.heap.size w X) k (hk : k < l.length) => (h.below (hX.mono hB)).at_ k hk
  obtain ⟨i3, ji, jz0, jz1, jz2⟩ := info_parts info3
  replace ji := Lib.hid ji
  replace jz0 := Lib.hid jz0
  replace jz1 := Lib.hid jz1
  replace jz2 := Lib.hid jz2
  have hsl := so_len (l := l) h12
  have hss := so_succ l
  have hcs := fun b k => cnt_succ l b k
  have hcl := fun b k => cnt_le l b k
  rw [← so_srt hin]
  obtain ⟨n, hn⟩ : ∃ n, n = l.length := ⟨_, rfl⟩
  rw [← hn] at hat h12 hss ⊢
  have hW0 : FoW w (.slice none 0 0) (so l 0) w := ⟨Below.refl _ _, ⟨rfl, .inl ⟨rfl, rfl⟩⟩⟩
  replace hW0 := Lib.hid hW0
  replace hn := Lib.hid hn
  replace hat := Lib.hid hat
  replace hsl := Lib.hid hsl
  replace hss := Lib.hid hss
  replace hcs := Lib.hid hcs
  replace hcl := Lib.hid hcl
  replace hin := Lib.hid hin
  replace h := Lib.hid h
  go_enter Try.func74, Try.ntmps74
  go_wp2
  go_loopw [3, 4, 5] (fun v s _ X => ∃ k : Nat, k ≤ 6 ∧ s = .int .i64 (k : Nat) ∧ FoW w v (so l k) X) (fun _ s _ _ => 6 - (intOf s).toNat)
  case atStart => exact ⟨0, by omega, rfl, hW0.out⟩
  case round =>
    clear hW0
    obtain ⟨k, hk, rfl, hW⟩ := hrel
    by_cases hlk : k < 6
    · have hs1 := hss.out k
      have hl1 := hsl.out k
      have hcz := Lib.hid (show so l k ++ List.replicate (cnt l (k : Nat) 0) (k : Int) = so l k from by show so l k ++ [] = so l k; rw [List.append_nil])
      replace hs1 := Lib.hid hs1
      have hki : (k : Int) < 6 := by omega
      replace hW := Lib.hid hW
      go_wp2
      go_loopw [3, 5] (fun v s X => ∃ t : Nat, t ≤ n ∧ s = .int .i64 (t : Nat) ∧ FoW w v (so l k ++ List.replicate (cnt l (k : Nat) t) (k : Int)) X) (fun _ s _ => n - (intOf s).toNat)
      case atStart => exact ⟨0, by omega, rfl, by rw [hcz.out]; exact hW.out⟩
      case round =>
        obtain ⟨t, ht, rfl, hW2⟩ := hrel
        by_cases hlt : t < n
        · obtain ⟨b, o, rfl, hb, e0⟩ := hat.out wr hW2.below t hlt
          have hc1 := hcs.out (k : Nat) t
          have hc2 := hcl.out (k : Nat) t
          obtain ⟨y, hy⟩ : ∃ y, y = el l t := ⟨_, rfl⟩
          rw [← hy] at e0 hc1
          obtain ⟨q, hq⟩ : ∃ q, q = cnt l (k : Nat) t := ⟨_, rfl⟩
          rw [← hq] at hc1 hc2 hW2
          obtain ⟨L, hL⟩ : ∃ L, L = so l k ++ List.replicate q (k : Int) := ⟨_, rfl⟩
          have hLl : L.length ≤ 12 * k + 12 := by rw [hL, List.length_append, List.length_replicate]; omega
          rw [← hL] at hW2
          have hst : y = (k : Int) → L ++ [(k : Int)] = so l k ++ List.replicate (cnt l (k : Nat) (t + 1)) (k : Int) := fun e => by
            rw [hc1, if_pos e, hL, List.append_assoc, rep_succ]
          have hst2 : ¬ y = (k : Int) → L = so l k ++ List.replicate (cnt l (k : Nat) (t + 1)) (k : Int) := fun e => by
            rw [hc1, if_neg e, Nat.add_zero, hL]
          have hXs := hW2.below.size
          replace hy := Lib.hid hy
          replace hq := Lib.hid hq
          replace hL := Lib.hid hL
          replace hc1 := Lib.hid hc1
          by_cases hyk : y = (k : Int)
          · have hs := Lib.hid (hst hyk)
            clear hst hst2
            have hn1 := Lib.hid (one_new wr (k : Int))
            have hX1 := Lib.hid (hW2.up (ba1 wr (.cells #[.int .i64 (k : Nat)] 3)))
            have hZ9 : w.heap.size ≤ (wr.alloc (.cells #[.int .i64 (k : Nat)] 3)).heap.size := by simp; omega
            have hyk2 : (y == (k : Int)) = true := by simpa using hyk
            replace hyk := Lib.hid hyk
            replace hW2 := Lib.hid hW2
            go_wp2_with (at_builtin
                         refine wpList_append_own _ rfl (.tmp 22) (.tmp 24) 23 rfl w.heap.size 3 i3 (.int .i64 0) 1 8 Try.underlying23 ji.out jz0.out jz1.out jz2.out rfl (by decide) _ _ _ rfl hX1.out.own ⟨wr.heap.size, 0, none⟩ 1 1 [.int .i64 (k : Nat)] rfl rfl hn1.out (fun u hu => by cases List.mem_singleton.1 hu; rfl) (by unfold maxLen; omega) (by omega) hZ9 ?_
                         intro v' w2 hown' hgrow _
                         have hX4 := Lib.hid (hX1.out.app (l := [(k : Int)]) (by simpa [vals] using hown') hgrow)
                         obtain ⟨A1, c1, rfl⟩ := own_slice hown'
                         clear hown' hgrow)
            go_roundw
            case rel => exact ⟨t + 1, by omega, by go_num, by rw [← hs.out]; exact hX4.out⟩
            case measure => simp [intOf]; omega
          · have hs := Lib.hid (hst2 hyk)
            clear hst hst2
            have hyk2 : (y == (k : Int)) = false := by simpa using hyk
            replace hyk := Lib.hid hyk
            replace hW2 := Lib.hid hW2
            go_wp2
            go_roundw
            case rel => exact ⟨t + 1, by omega, by go_num, by rw [← hs.out]; exact hW2.out⟩
            case measure => simp [intOf]; omega
        · have ht' : t = n := by omega
          subst ht'
          rw [← hs1.out] at hW2
          replace hW2 := Lib.hid hW2
          go_wp2
          go_roundw
          case rel => exact ⟨k + 1, by omega, by go_num, hW2.out⟩
          case measure => simp [intOf]; omega
    · have hk' : k = 6 := by omega
      subst hk'
      replace hW := Lib.hid hW
      go_wp2
      go_ret
      exact ⟨_, rfl, hW.out⟩
end Go.Proofs.Ytgjgpcpghglnnaa
