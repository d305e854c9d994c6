/-
  Sums and moves; two slicks that came in at the door.
-/
import Derived.Test.YtnbgjgiknfcdkaaDoorW
namespace Go.Proofs.YtnbgjgiknfcdkaaDoor
open Go.ChangeShapes Go.WideShapes Go.ChangeAt Go.RowKit Go.Deep M
set_option linter.unusedVariables false
set_option linter.unusedSimpArgs false

theorem ad_len (m : Nat) (a b : List Int) : (ad m a b).length = m := mk_len _ _
theorem ad_el {m i : Nat} (a b : List Int) (h : i < m) : el (ad m a b) i = el a i + el b i := mk_el _ _ _ h
theorem mv_ad {w h : Nat} {L : List Bool} {S : List Int} (a b : List Int) : mv w h L S (ad (w * h + 1) a b) = ad (w * h + 1) (mv w h L S a) (mv w h L S b) := by
  refine ints_ext (by rw [mv_len, ad_len]) (fun i hi => ?_)
  rw [mv_len] at hi
  rw [mv_el (by omega), ad_el _ _ hi, mv_el (by omega), mv_el (by omega)]
  unfold mvF
  rw [← sm_add]
  refine sm_congr _ (fun p hp => ?_)
  rw [ad_el _ _ hp, Int.add_mul]
theorem af_ad {w h : Nat} {L : List Bool} {S : List Int} (n : Nat) (a b : List Int) : af w h L S n (ad (w * h + 1) a b) = ad (w * h + 1) (af w h L S n a) (af w h L S n b) := by
  induction n with
  | zero => rfl
  | succ n ih =>
    show mv w h L S (af w h L S n (ad (w * h + 1) a b)) = ad (w * h + 1) (mv w h L S (af w h L S n a)) (mv w h L S (af w h L S n b))
    rw [ih, mv_ad]

/-- What Sum answers to two slicks behind the same moves. -/
theorem sum_after {w h : Nat} {L : List Bool} {S : List Int} {K : Nat} {O O' : List Int} {aw aw' : Int} {n : Nat} (hB : Bay w h L S) (hV : validB w h L (w * h) S = true) (hL : L.length = w * h)
    (hs : slkB L.length K O aw = true) (hs' : slkB L.length K O' aw' = true) (hss : slkB L.length K (pre (w * h) (ad (w * h + 1) (amt O aw) (amt O' aw'))) (el (ad (w * h + 1) (amt O aw) (amt O' aw')) (w * h)) = true) (hn : K + n ≤ 5) :
    sumR w h L (w * h) S ((K + n : Nat) : Int) (pre (w * h) (af w h L S n (amt O aw))) (el (af w h L S n (amt O aw)) (w * h)) ((K + n : Nat) : Int) (pre (w * h) (af w h L S n (amt O' aw'))) (el (af w h L S n (amt O' aw')) (w * h))
      = (((K + n : Nat) : Int), pre (w * h) (af w h L S n (ad (w * h + 1) (amt O aw) (amt O' aw'))), el (af w h L S n (ad (w * h + 1) (amt O aw) (amt O' aw'))) (w * h), 0) := by
  have h1 := slk_of hs
  have h2 := slk_of hs'
  have h3 := slk_of hss
  obtain ⟨e1, p1⟩ := slk_after (n := n) hB h1.2 (by rw [h1.1, hL]) hn
  obtain ⟨e2, p2⟩ := slk_after (n := n) hB h2.2 (by rw [h2.1, hL]) hn
  obtain ⟨e3, p3⟩ := slk_after (n := n) hB h3.2 (pre_len _ _) hn
  have e4 : amt (pre (w * h) (ad (w * h + 1) (amt O aw) (amt O' aw'))) (el (ad (w * h + 1) (amt O aw) (amt O' aw')) (w * h)) = ad (w * h + 1) (amt O aw) (amt O' aw') := amt_pre (ad_len _ _ _)
  rw [e4] at p3
  rw [← Int.natCast_add] at p1 p2 p3
  unfold sumR
  rw [hV, if_pos rfl, if_pos (slkB_true (by rw [pre_len, hL]) p1), if_pos (slkB_true (by rw [pre_len, hL]) p2), if_pos rfl, hL, e1, e2, ← af_ad, if_pos (slkB_true (pre_len _ _) p3)]

theorem und62 : Tryd.prog.underlying 62 = some (.array 2 28) := by kernel_rfl
theorem size62 : Tryd.prog.cellsOf 62 = 6 := by kernel_rfl

section
variable {H : Type} {enc : TypeId × Value → H} {W : World}
set_option maxRecDepth 100000 in
theorem slick_cells {fuel : Nat} {c0 c1 c2 : Value} {x : DataW H × List MemPlace} (h : DataW.trod enc Tryd.prog W 0 (fun _ => true) true fuel 28 [c0, c1, c2] = some x) :
    ∃ (K aw : Int) (aO : Option Addr) (cO : Nat) (O : List Int), c0 = .int .i64 K ∧ c1 = .slice aO O.length cO ∧ c2 = .int .i64 aw ∧ Row W W.heap.size aO O := by
  obtain ⟨y0, y1, y2, n, _, _, h0, h1, h2⟩ := trod_struct3 Tryd.underlying28 h
  obtain ⟨K, e0, _, _⟩ := DataW.trod_int Tryd.underlying3 (show DataW.trod _ Tryd.prog W 0 _ _ n 3 [c0] = some y0 from h0)
  obtain ⟨aw, e2, _, _⟩ := DataW.trod_int Tryd.underlying3 (show DataW.trod _ Tryd.prog W 0 _ _ n 3 [c2] = some y2 from h2)
  obtain ⟨aO, nO, cO, O, e1, e3, hO⟩ := row_of (show DataW.trod _ Tryd.prog W 0 _ _ n 26 [c1] = some y1 from h1)
  subst e3
  exact ⟨K, aw, aO, cO, O, by simpa using e0, e1, by simpa using e2, hO⟩

set_option maxRecDepth 100000 in
theorem slicks_in {v : Value} {d : DataW H} {p : List MemPlace} {b0 : Nat} (hv : Value.okWide Tryd.prog W .any b0 62 v) (h : DataW.Trod enc Tryd.prog W 0 (fun _ => true) true 62 v d p) :
    ∃ (K aw : Int) (aO : Option Addr) (cO : Nat) (O : List Int) (K' aw' : Int) (aO' : Option Addr) (cO' : Nat) (O' : List Int),
      v = .agg #[.int .i64 K, .slice aO O.length cO, .int .i64 aw, .int .i64 K', .slice aO' O'.length cO', .int .i64 aw'] ∧ Row W W.heap.size aO O ∧ Row W W.heap.size aO' O' := by
  simp only [Value.okWide, und62] at hv
  obtain ⟨cs, rfl, hsz, _⟩ := hv
  rw [size62] at hsz
  obtain ⟨fuel, hf⟩ := h
  obtain ⟨xs, m1, _, _, hlen, hn, hel⟩ := DataW.trod_array und62 hf
  match cs, hsz with
  | ⟨[a0, a1, a2, b0, b1, b2]⟩, _ =>
    have h0 := hel 0 (by omega)
    have h1 := hel 1 (by omega)
    rw [cells28] at h0 h1
    have k0 : xs[0]? = some (xs[0]'(by omega)) := List.getElem?_eq_getElem (by omega)
    have k1 : xs[1]? = some (xs[1]'(by omega)) := List.getElem?_eq_getElem (by omega)
    obtain ⟨K, aw, aO, cO, O, e0, e1, e2, hO⟩ := slick_cells (c0 := a0) (c1 := a1) (c2 := a2) (h0.trans k0)
    obtain ⟨K', aw', aO', cO', O', e0', e1', e2', hO'⟩ := slick_cells (c0 := b0) (c1 := b1) (c2 := b2) (h1.trans k1)
    exact ⟨K, aw, aO, cO, O, K', aw', aO', cO', O', by rw [e0, e1, e2, e0', e1', e2'], hO, hO'⟩
end
end Go.Proofs.YtnbgjgiknfcdkaaDoor
