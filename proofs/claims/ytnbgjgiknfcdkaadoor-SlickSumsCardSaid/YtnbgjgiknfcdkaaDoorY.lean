/-
  'isAmounts' of any slick.
-/
import Derived.Test.YtnbgjgiknfcdkaaDoorV
namespace Go.Proofs.YtnbgjgiknfcdkaaDoor
open Go.RowKit Go.Deep M
set_option linter.unusedVariables false
set_option linter.unusedSimpArgs false

/-- A number of parts that no amount may be. -/
def badA (k : Nat) (v : Int) : Bool := decide (v < 0) || decide (36000 * (16 : Int) ^ k < v)
/-- There is a bad one among the first m. -/
def badIn (k : Nat) (a : List Int) : Nat → Bool
  | 0 => false
  | m + 1 => badIn k a m || badA k (el a m)
theorem badIn_of {k : Nat} {a : List Int} : ∀ (m j : Nat), j < m → badA k (el a j) = true → badIn k a m = true
  | m + 1, j, hj, hb => by
    show (badIn k a m || badA k (el a m)) = true
    by_cases e : j = m
    · subst e; rw [hb]; simp
    · rw [badIn_of m j (by omega) hb]; rfl
theorem not_badIn {k : Nat} {a : List Int} : ∀ (m : Nat), badIn k a m = false ↔ ∀ j, j < m → badA k (el a j) = false
  | 0 => ⟨fun _ j hj => absurd hj (by omega), fun _ => rfl⟩
  | m + 1 => by
    show (badIn k a m || badA k (el a m)) = false ↔ _
    rw [Bool.or_eq_false_iff, not_badIn m]
    constructor
    · rintro ⟨h1, h2⟩ j hj
      by_cases e : j = m
      · subst e; exact h2
      · exact h1 j (by omega)
    · intro h
      exact ⟨fun j hj => h j (by omega), h m (by omega)⟩

set_option maxRecDepth 100000 in
set_option maxHeartbeats 4000000 in
theorem bad_any (k : Nat) (b : Nat) (v : Int) (w : World) (hk : k ≤ 5) (hc : w.cell? ⟨b, 0, none⟩ = some (.int .i64 k)) :
    Calls Tryd.prog 90 #[.int .i64 v, .pointer (some ⟨b, 0, none⟩)] w fun e w' => e = .returned (.bool (badA k v)) ∧ w = w' := by
  have hm := most_any k w hk
  unfold badA
  generalize 36000 * (16 : Int) ^ k = p at *
  cases h0 : decide (v < 0) with
  | true =>
    clear hm
    go_enter Tryd.func90, Tryd.ntmps90
    go_wp2
    go_ret
    exact ⟨rfl, rfl⟩
  | false =>
    replace hm := Lib.hid hm
    go_enter Tryd.func90, Tryd.ntmps90
    go_wp2_with fail
    refine hm.out.mono ?_
    rintro e w1 ⟨rfl, rfl⟩
    go_wp2
    go_ret
    exact ⟨rfl, rfl⟩

set_option maxRecDepth 100000 in
set_option maxHeartbeats 4000000 in
theorem index_any (B : Nat) (k : Nat) (b : Nat) (A : Option Addr) (c : Nat) (a : List Int) (w : World) (hk : k ≤ 5) (hc : w.cell? ⟨b, 0, none⟩ = some (.int .i64 k)) (ha : Row w B A a) (hl : a.length ≤ 901) :
    Calls Tryd.prog 97 #[.slice A a.length c, .func (.func 90) #[] #[.pointer (some ⟨b, 0, none⟩)]] w fun e w' => ∃ r : Int, e = .returned (.int .i64 r) ∧ decide (0 ≤ r) = badIn k a a.length ∧ w = w' := by
  have cb : ∀ i, Calls Tryd.prog 90 #[.int .i64 (el a i), .pointer (some ⟨b, 0, none⟩)] w fun e w' => e = .returned (.bool (badA k (el a i))) ∧ w = w' := fun i => bad_any k b (el a i) w hk hc
  replace cb := Lib.hid cb
  go_enter Tryd.func97, Tryd.ntmps97
  go_wp2
  go_loop [8] (fun i => ∃ j : Nat, j ≤ a.length ∧ i = .int .i64 j ∧ badIn k a j = false) (fun i => a.length - (intOf i).toNat)
  case atStart => exact ⟨0, Nat.zero_le _, rfl, rfl⟩
  case round =>
    obtain ⟨j, hj, rfl, hnb⟩ := hrel
    by_cases hlt : j < a.length
    · obtain ⟨b', o', rfl, hb', hcell⟩ := ha.at_ j hlt
      have hjj : (j : Int) < ((a.length : Nat) : Int) := by omega
      cases hbb : badA k (el a j) with
      | true =>
        have hall := badIn_of a.length j hlt hbb
        have c1 := cb.out j
        rw [hbb] at c1
        replace c1 := Lib.hid c1
        replace hall := Lib.hid hall
        replace hnb := Lib.hid hnb
        clear hbb cb
        go_wp2_with fail
        refine c1.out.mono ?_
        rintro e w1 ⟨rfl, rfl⟩
        go_wp2
        go_ret
        exact ⟨(j : Int), rfl, by rw [hall.out]; simp, rfl⟩
      | false =>
        have hn2 : badIn k a (j + 1) = false := by show (badIn k a j || badA k (el a j)) = false; rw [hnb, hbb]; rfl
        have c1 := cb.out j
        rw [hbb] at c1
        replace c1 := Lib.hid c1
        replace hn2 := Lib.hid hn2
        replace hnb := Lib.hid hnb
        clear hbb cb
        go_wp2_with fail
        refine c1.out.mono ?_
        rintro e w1 ⟨rfl, rfl⟩
        go_wp2
        go_round
        case rel => exact ⟨j + 1, by omega, by go_num, hn2.out⟩
        case measure => simp [intOf]; omega
    · have hjj : ¬ (j : Int) < ((a.length : Nat) : Int) := by omega
      obtain rfl : j = a.length := by omega
      replace hnb := Lib.hid hnb
      go_wp2
      go_ret
      exact ⟨-1, rfl, by rw [hnb.out]; rfl, rfl⟩

set_option maxRecDepth 100000 in
set_option maxHeartbeats 4000000 in
theorem contains_any (B : Nat) (k : Nat) (b : Nat) (A : Option Addr) (c : Nat) (a : List Int) (w : World) (hk : k ≤ 5) (hc : w.cell? ⟨b, 0, none⟩ = some (.int .i64 k)) (ha : Row w B A a) (hl : a.length ≤ 901) :
    Calls Tryd.prog 87 #[.slice A a.length c, .func (.func 90) #[] #[.pointer (some ⟨b, 0, none⟩)]] w fun e w' => e = .returned (.bool (badIn k a a.length)) ∧ w = w' := by
  have c97 := index_any B k b A c a w hk hc ha hl
  generalize badIn k a a.length = q at *
  replace c97 := Lib.hid c97
  clear hc ha
  go_enter Tryd.func87, Tryd.ntmps87
  go_wp2_with fail
  refine c97.out.mono ?_
  rintro e w1 ⟨r, rfl, hr, rfl⟩
  replace hr := Lib.hid hr
  go_wp2
  go_ret
  exact ⟨ret_bool hr.out, rfl⟩

/-- What isAmounts answers. -/
def amtsB (K : Int) (a : List Int) : Bool := movesB K && !(badIn K.toNat a a.length)

set_option maxRecDepth 100000 in
set_option maxHeartbeats 4000000 in
theorem isAmounts_any (B : Nat) (K : Int) (A : Option Addr) (c : Nat) (O : List Int) (aw : Int) (w : World) (hO : Row w B A O) (hB : B ≤ w.heap.size) (hl : O.length ≤ 900) :
    Calls Tryd.prog 74 #[.agg #[.int .i64 K, .slice A O.length c, .int .i64 aw]] w fun e w' => e = .returned (.bool (amtsB K (amt O aw))) ∧ Below w.heap.size w w' := by
  have hb0 := ba1 w (.cells #[.int .i64 K, .slice A O.length c, .int .i64 aw] 28)
  unfold amtsB
  cases hmv : movesB K with
  | false =>
    replace hb0 := Lib.hid hb0
    go_enter Tryd.func74, Tryd.ntmps74
    go_wp2_with fail
    refine (isMoves_any K _).mono ?_
    rintro e w1 ⟨rfl, rfl⟩
    rw [hmv]
    go_wp2
    go_ret
    exact ⟨rfl, hb0.out⟩
  | true =>
  have hKb : 0 ≤ K ∧ K ≤ 5 := by unfold movesB at hmv; simpa using hmv
  obtain ⟨k, rfl⟩ : ∃ k : Nat, K = k := ⟨K.toNat, by omega⟩
  have hk : k ≤ 5 := by omega
  rw [Int.toNat_natCast]
  have t0 := Tri.new w (.int .i64 k) (.slice A O.length c) (.int .i64 aw)
  have la : (amt O aw).length = O.length + 1 := amt_len _ _
  have c64 := amounts_row (B := B) (K := k) (c := c) (aw := aw) (hO.below (hb0.mono hB)) (Nat.le_trans hB hb0.size) hl
  have c87 : ∀ X A' c', X.cell? ⟨w.heap.size, 0, none⟩ = some (.int .i64 k) → Row X X.heap.size A' (amt O aw) → Calls Tryd.prog 87 #[.slice A' (O.length + 1) c', .func (.func 90) #[] #[.pointer (some ⟨w.heap.size, 0, none⟩)]] X fun e w' => e = .returned (.bool (badIn k (amt O aw) (amt O aw).length)) ∧ X = w' := fun X A' c' hc hr => by
    rw [← la]
    exact contains_any X.heap.size k w.heap.size A' c' (amt O aw) X hk hc hr (by rw [la]; omega)
  generalize badIn k (amt O aw) (amt O aw).length = q at *
  replace c64 := Lib.hid c64
  replace c87 := Lib.hid c87
  replace la := Lib.hid la
  replace hb0 := Lib.hid hb0
  replace t0 := Lib.hid t0
  go_enter Tryd.func74, Tryd.ntmps74
  go_wp2_with fail
  refine (isMoves_any k _).mono ?_
  rintro e w1 ⟨rfl, rfl⟩
  rw [hmv]
  go_wp2_with fail
  refine c64.out.mono ?_
  rintro e w2 ⟨A', c', rfl, hb2, hr2⟩
  have e2 : (O ++ [aw]).length = O.length + 1 := la.out
  rw [e2]
  have t2 := t0.out.up hb2
  have hbb := hb0.out.trans (hb2.mono hb0.out.size)
  have hr3 : Row w2 w2.heap.size A' (amt O aw) := hr2
  clear hb2 hr2
  go_wp2_with fail
  refine (c87.out _ A' c' t2.c0 hr3).mono ?_
  rintro e w3 ⟨rfl, rfl⟩
  go_wp2
  go_ret
  exact ⟨by simp, hbb⟩
end Go.Proofs.YtnbgjgiknfcdkaaDoor
