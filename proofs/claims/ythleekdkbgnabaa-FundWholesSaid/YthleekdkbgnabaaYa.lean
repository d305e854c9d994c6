/-
  slices.Sorted of slices.Values of integers: what it hands back owns the numbers in their order.
-/
import Derived.Test.YthleekdkbgnabaaY
import Derived.Test.YthleekdkbgnabaaW
import Derived.Sort.OwnSortedInts
namespace Go.Proofs.Ythleekdkbgnabaa
open Go.RowKit Go.Deep M
set_option linter.unusedVariables false
set_option linter.unusedSimpArgs false


theorem AppendSeq_any (Bv : Nat) (A : Option Addr) (c : Nat) (zs : List Int) (w : World) (hBv : Bv < w.heap.size) (hv : w.cell? ⟨Bv, 0, none⟩ = some (.slice A zs.length c)) (hr : Row w w.heap.size A zs) (h12 : zs.length ≤ 1000) :
    Calls Try.prog 129 #[.slice none 0 0, .func (.func 119) #[] #[.pointer (some ⟨Bv, 0, none⟩)]] w fun e w' => ∃ v, e = .returned v ∧ Below w.heap.size w w' ∧ w'.ownsRow (w.heap.size + 1) 3 1 v zs.length (vals zs) :=
  (callsIn_wide (n := 1)).1 (AppendSeq_in 1 (Nat.le_refl _) Bv A c zs w hBv hv hr h12)

set_option maxRecDepth 100000 in
set_option maxHeartbeats 2000000 in
theorem Collect_any (Bv : Nat) (A : Option Addr) (c : Nat) (zs : List Int) (w : World) (hBv : Bv < w.heap.size) (hv : w.cell? ⟨Bv, 0, none⟩ = some (.slice A zs.length c)) (hr : Row w w.heap.size A zs) (h12 : zs.length ≤ 1000) :
    Calls Try.prog 117 #[.func (.func 119) #[] #[.pointer (some ⟨Bv, 0, none⟩)]] w fun e w' => ∃ v, e = .returned v ∧ Below w.heap.size w w' ∧ w'.ownsRow (w.heap.size + 1) 3 1 v zs.length (vals zs) := by
  have k := Lib.hid (AppendSeq_any Bv A c zs w hBv hv hr h12)
  replace hv := Lib.hid hv
  replace hr := Lib.hid hr
  go_enter Try.func117, Try.ntmps117
  go_wp2_with fail
  refine k.out.mono ?_
  rintro e X ⟨v, rfl, hb, ho⟩
  replace hb := Lib.hid hb
  replace ho := Lib.hid ho
  go_wp2
  go_ret
  exact ⟨v, rfl, hb.out, ho.out⟩

theorem Sort_own {X : World} {base : Nat} {v : Value} {zs : List Int} (ho : X.ownsRow base 3 1 v zs.length (vals zs)) (hB : base ≤ X.heap.size) (h12 : zs.length ≤ 1000) :
    Calls Try.prog 118 #[v] X fun e w' => e = .returned (.tuple #[]) ∧ Below base X w' ∧ w'.ownsRow base 3 1 v zs.length (vals (srt zs)) := by
  rcases ho.2 with ⟨rfl, hz⟩ | ⟨gb, cap, cur, rfl, hbase, hgb, r1, r2, r3, r4⟩
  · have hss : zs = [] := List.eq_nil_of_length_eq_zero hz
    subst hss
    refine (Any.slices_Sort_int_none Try.lays189 none 0 X).mono ?_
    rintro e w' ⟨rfl, rfl⟩
    exact ⟨rfl, Below.refl _ _, by simpa [srt, vals] using ho⟩
  · have hH : «Sort».Holds (Value.int .i64) X gb 0 zs.toArray := holds_of_blockI hgb (by simpa [vals] using r4)
    refine (Any.slices_Sort_int Try.lays189 gb 0 cap zs X hH (blk_lt hgb) (by omega)).mono ?_
    rintro e w' ⟨rfl, nn, os, rfl⟩
    exact ⟨rfl, (Below.refl base X).grown (grownBy_sortedI _) hB (fun j hj => by cases hj; exact hbase), ownsRow_sortedI (srt_len zs) hbase hgb r1 r2 r3⟩

set_option maxRecDepth 100000 in
set_option maxHeartbeats 2000000 in
theorem Sorted_any (Bv : Nat) (A : Option Addr) (c : Nat) (zs : List Int) (w : World) (hBv : Bv < w.heap.size) (hv : w.cell? ⟨Bv, 0, none⟩ = some (.slice A zs.length c)) (hr : Row w w.heap.size A zs) (h12 : zs.length ≤ 1000) :
    Calls Try.prog 95 #[.func (.func 119) #[] #[.pointer (some ⟨Bv, 0, none⟩)]] w fun e w' => ∃ v, e = .returned v ∧ Below w.heap.size w w' ∧ w'.ownsRow (w.heap.size + 1) 3 1 v (srt zs).length (vals (srt zs)) := by
  have k := Lib.hid (Collect_any Bv A c zs w hBv hv hr h12)
  have hso := Lib.hid (fun X (hX : Below w.heap.size w X) v (ho : X.ownsRow (w.heap.size + 1) 3 1 v zs.length (vals zs)) (hs : w.heap.size + 1 ≤ X.heap.size) => Sort_own ho hs h12)
  replace hv := Lib.hid hv
  replace hr := Lib.hid hr
  rw [srt_len]
  have hcl : ∀ (X : World) v, X.ownsRow (w.heap.size + 1) 3 1 v zs.length (vals zs) → Below w.heap.size w X → Calls Try.prog 118 #[v] X fun e w' => e = .returned (.tuple #[]) ∧ Below w.heap.size w w' ∧ w'.ownsRow (w.heap.size + 1) 3 1 v zs.length (vals (srt zs)) := by
    intro X v ho hX
    rcases ho.2 with ⟨rfl, hz⟩ | ⟨gb, cap, cur, rfl, hbase, hgb, _⟩
    · have hss : zs = [] := List.eq_nil_of_length_eq_zero hz
      subst hss
      refine (Any.slices_Sort_int_none Try.lays189 none 0 X).mono ?_
      rintro e w' ⟨rfl, rfl⟩
      exact ⟨rfl, hX, by simpa [srt, vals] using ho⟩
    · have := blk_lt hgb
      refine (hso.out X hX _ ho (by omega)).mono ?_
      rintro e w' ⟨rfl, hb, h'⟩
      exact ⟨rfl, hX.trans (hb.mono (by omega)), h'⟩
  replace hcl := Lib.hid hcl
  go_enter Try.func95, Try.ntmps95
  go_wp2_with fail
  refine k.out.mono ?_
  rintro e X ⟨v, rfl, hb, ho⟩
  have k94 := Lib.hid (hcl.out X v ho hb)
  replace hb := Lib.hid hb
  replace ho := Lib.hid ho
  go_wp2_with fail
  refine k94.out.mono ?_
  rintro e X2 ⟨rfl, hb2, ho2⟩
  replace hb2 := Lib.hid hb2
  replace ho2 := Lib.hid ho2
  go_wp2
  go_ret
  exact ⟨v, rfl, hb2.out, ho2.out⟩
end Go.Proofs.Ythleekdkbgnabaa
