/-
  Claims less losses: the specification's function; lists of ratios that a call owns.
-/
import Derived.Test.YthleekdkbgnabaaP
namespace Go.Proofs.Ythleekdkbgnabaa
open Go.RowKit Go.Deep M
set_option linter.unusedVariables false
set_option linter.unusedSimpArgs false

/-! ### lists of ratios that a call owns -/
def rvals (L : List Rt) : List Value := L.flatMap fun x => [.int .i64 x.n, .int .i64 x.d]
theorem rvals_len (L : List Rt) : (rvals L).length = L.length * 2 := by
  induction L with
  | nil => rfl
  | cons x t ih =>
    have : rvals (x :: t) = [.int .i64 x.n, .int .i64 x.d] ++ rvals t := rfl
    rw [this, List.length_append, ih]; simp; omega
theorem rvals_app (L K : List Rt) : rvals (L ++ K) = rvals L ++ rvals K := by simp [rvals]
theorem rvals_get (L : List Rt) : ∀ j, j < L.length → (rvals L)[j * 2]? = some (.int .i64 (rt L j).n) ∧ (rvals L)[j * 2 + 1]? = some (.int .i64 (rt L j).d) := by
  induction L with
  | nil => intro j hj; simp at hj
  | cons x t ih =>
    intro j hj
    have e : rvals (x :: t) = .int .i64 x.n :: .int .i64 x.d :: rvals t := rfl
    rw [e]
    cases j with
    | zero => simp [rt]
    | succ j =>
      have := ih j (by simpa using hj)
      have e1 : (j + 1) * 2 = j * 2 + 1 + 1 := by omega
      rw [e1]
      simpa [rt] using this
def mkQ (F : Nat → Rt) (n : Nat) : List Rt := (List.range n).map F
theorem mkQ_len (F : Nat → Rt) (n : Nat) : (mkQ F n).length = n := by simp [mkQ]
theorem mkQ_at (F : Nat → Rt) (n i : Nat) (h : i < n) : rt (mkQ F n) i = F i := by rw [rt_eq _ _ (by rw [mkQ_len]; exact h)]; simp [mkQ]
theorem mkQ_snoc (F : Nat → Rt) (n : Nat) : rvals (mkQ F (n + 1)) = rvals (mkQ F n) ++ [.int .i64 (F n).n, .int .i64 (F n).d] := by
  have : mkQ F (n + 1) = mkQ F n ++ [F n] := by simp [mkQ, List.range_succ]
  rw [this, rvals_app]; rfl
/-- What is owned and not empty, as a block. -/
theorem own_blkR {w : World} {base n : Nat} {v : Value} {F : Nat → Rt} (h : w.ownsRow base 37 2 v n (rvals (mkQ F n))) (hp : 0 < n) :
    ∃ g cap, v = .slice (some ⟨g, 0, none⟩) n cap ∧ base ≤ g ∧ BlR w g n F := by
  rcases h.2 with ⟨hv, h0⟩ | ⟨g, cap, cur, hv, hge, hh, hcap, hmax, hsz, htake⟩
  · omega
  · refine ⟨g, cap, hv, hge, cur, hh, fun i hi => ?_⟩
    have hl := mkQ_len F n
    obtain ⟨a, b⟩ := rvals_get (mkQ F n) i (by omega)
    rw [mkQ_at _ _ _ hi] at a b
    rw [← htake, List.getElem?_take, if_pos (by omega), Array.getElem?_toList] at a b
    exact ⟨a, b⟩
theorem news2 (X : World) (q : Rt) : ∀ j u, [Value.int .i64 q.n, Value.int .i64 q.d][j]? = some u → (X.alloc (.cells #[.int .i64 q.n, .int .i64 q.d] 37)).cell? ((⟨X.heap.size, 0, none⟩ : Addr).add j) = some u :=
  World.news_of_block (w := X.alloc (.cells #[.int .i64 q.n, .int .i64 q.d] 37)) (World.alloc_heap_new X (.cells #[.int .i64 q.n, .int .i64 q.d] 37))

theorem one2 (q : Rt) : ∀ u ∈ [Value.int .i64 q.n, Value.int .i64 q.d], u.oneCell' = true := fun u hu => by
  rcases List.mem_cons.1 hu with rfl | hu
  · rfl
  · cases List.mem_singleton.1 hu; rfl

set_option maxRecDepth 100000 in
set_option maxHeartbeats 8000000 in
theorem less_ref (B : Nat) (A : Option Addr) (c c' gl : Nat) (l : List Int) (f : Nat → Rt) (w : World) (h : Row w B A l) (hB : B ≤ w.heap.size) (hv : vC l) (hf : BlR w gl l.length f) (hmid : ∀ i, i < l.length → midR (f i)) :
    Calls Try.prog 86 #[.slice A l.length c, .slice (some ⟨gl, 0, none⟩) l.length c'] w fun r w' => ∃ g cp, r = .returned (.slice (some ⟨g, 0, none⟩) l.length cp) ∧ AwW w l.length g (lsL l f) w' := by
  obtain ⟨i3, ji, jz0, jz1, jz2⟩ := info_parts info37
  replace ji := Lib.hid ji
  replace jz0 := Lib.hid jz0
  replace jz1 := Lib.hid jz1
  replace jz2 := Lib.hid jz2
  have h63 := h.1
  have hn := val_len hv
  have hat := fun X (hX : Below w.heap.size w X) k (hk : k < l.length) => (h.below (hX.mono hB)).at_ k hk
  have hx := fun k (hkl : k < l.length) => hv.2 k hkl
  have hls : ∀ k, mk (el l k * (f k).d - (f k).n) (f k).d = lsL l f k := fun k => rfl
  have hgl := hf.lt
  have hfc := fun X (hX : Below w.heap.size w X) => hf.to (hX.block _ hgl)
  have hown0 : w.ownsRow w.heap.size 37 2 (.slice none 0 0) 0 (rvals (mkQ (lsL l f) 0)) := ⟨rfl, .inl ⟨rfl, rfl⟩⟩
  generalize lsL l f = F at *
  generalize l.length = n at *
  have kr := fun X (p q : Int) (hp : -1001000000 ≤ p ∧ p ≤ 1001000000) (hq : 1 ≤ q ∧ q ≤ 1000000) => Ratio_ref p q X (by omega) (by omega)
  replace hat := Lib.hid hat
  replace hx := Lib.hid hx
  replace hls := Lib.hid hls
  replace hfc := Lib.hid hfc
  replace hf := Lib.hid hf
  replace hgl := Lib.hid hgl
  replace hmid := Lib.hid hmid
  replace kr := Lib.hid kr
  replace h := Lib.hid h
  replace hv := Lib.hid hv
  replace hown0 := Lib.hid hown0
  obtain ⟨hn1, hn8⟩ := hn
  go_enter Try.func86, Try.ntmps86
  go_wp2
  go_loopw [6, 5] (fun i v wr => ∃ k : Nat, k ≤ n ∧ i = .int .i64 (k : Nat) ∧ Below w.heap.size w wr ∧ wr.ownsRow w.heap.size 37 2 v k (rvals (mkQ F k))) (fun i _ _ => n - (intOf i).toNat)
  case atStart => exact ⟨0, by omega, rfl, Below.refl _ _, hown0.out⟩
  case round =>
    clear hown0
    obtain ⟨k, hkk, rfl, hX, hown⟩ := hrel
    by_cases hkn : k < n
    · obtain ⟨b, o, rfl, hb', _⟩ := hat.out wr hX k hkn
      have hxk := hx.out k hkn
      have hF := hls.out k
      have hmq := hmid.out k hkn
      unfold okC at hxk
      unfold midR at hmq
      have p1 := prod_b (a := el l k) (b := (f k).d) (x := 1000) (y := 1000000) (by omega) (by omega) (by omega)
      obtain ⟨pm, hpm⟩ : ∃ z, z = el l k * (f k).d := ⟨_, rfl⟩
      rw [← hpm] at p1 hF
      have w1 : IntKind.i64.wrap (el l k * (f k).d) = pm := by rw [← hpm]; exact IntWalk.i64_in _ (by omega)
      have w2 : IntKind.i64.wrap (pm - (f k).n) = pm - (f k).n := IntWalk.i64_in _ (by omega)
      have d72 := fun X => kr.out X (pm - (f k).n) (f k).d (by omega) (by omega)
      rw [hF] at d72
      unfold rtV at d72
      obtain ⟨r, hr⟩ : ∃ r, r = pm - (f k).n := ⟨_, rfl⟩
      rw [← hr] at d72
      have w2' : IntKind.i64.wrap (pm - (f k).n) = r := by rw [w2, hr]
      clear w2
      have hS : ∀ X, Below wr.heap.size wr X → X.cell? ⟨b, o + k, none⟩ = some (.int .i64 (el l k)) ∧ X.cell? ⟨gl, k * 2, none⟩ = some (.int .i64 (f k).n) ∧ X.cell? ⟨gl, k * 2 + 1, none⟩ = some (.int .i64 (f k).d) := fun X hXX => by
        obtain ⟨b2, o2, e, _, q0⟩ := hat.out X (bel_trans hX hXX) k hkn
        cases e
        have q := hfc.out X (bel_trans hX hXX)
        exact ⟨q0, q.c0 hkn, q.c1 hkn⟩
      have how : ∀ X, Below wr.heap.size wr X → X.ownsRow w.heap.size 37 2 u5 k (rvals (mkQ F k)) := fun X hXX => own_up hown hXX
      have hsz : ∀ X, Below wr.heap.size wr X → w.heap.size ≤ X.heap.size := fun X hXX => (bel_trans hX hXX).size
      have rest : ∀ X g cap w1, Below wr.heap.size wr X → w1.ownsRow w.heap.size 37 2 (.slice (some ⟨g, 0, none⟩) (k + 1) cap) (k + 1) (rvals (mkQ F k) ++ [.int .i64 (F k).n, .int .i64 (F k).d]) → X.grownBy w1 u5.ownBlock →
          (w1.cell? ⟨b, o + k, none⟩ = some (.int .i64 (el l k)) ∧ w1.cell? ⟨gl, k * 2, none⟩ = some (.int .i64 (f k).n) ∧ w1.cell? ⟨gl, k * 2 + 1, none⟩ = some (.int .i64 (f k).d)) ∧ Below w.heap.size w w1 ∧ w1.ownsRow w.heap.size 37 2 (.slice (some ⟨g, 0, none⟩) (k + 1) cap) (k + 1) (rvals (mkQ F (k + 1))) := fun X g cap w1 hXX ho hg => by
        have hbw : Below w.heap.size w w1 := (bel_trans hX hXX).grown hg (hsz X hXX) (fun x hx => ((how X hXX).lt x hx).1)
        obtain ⟨b2, o2, e, _, q0⟩ := hat.out w1 hbw k hkn
        cases e
        have q := hfc.out w1 hbw
        exact ⟨⟨q0, q.c0 hkn, q.c1 hkn⟩, hbw, by rw [mkQ_snoc]; exact ho⟩
      have hkn2 : (k : Int) < (n : Int) := by omega
      have h0 : Below wr.heap.size wr wr.drew := below_drewN (Below.refl _ _) 1
      have k0 := hS _ h0
      generalize F k = Q at *
      generalize el l k = x at *
      replace d72 := Lib.hid d72
      replace hS := Lib.hid hS
      replace how := Lib.hid how
      replace hsz := Lib.hid hsz
      replace rest := Lib.hid rest
      replace hown := Lib.hid hown
      replace hX := Lib.hid hX
      replace hF := Lib.hid hF
      replace hpm := Lib.hid hpm
      replace hr := Lib.hid hr
      replace hmq := Lib.hid hmq
      replace hxk := Lib.hid hxk
      go_wp2
      go_region_held_law (fun X => X.cell? ⟨b, o + k, none⟩ = some (.int .i64 x) ∧ X.cell? ⟨gl, k * 2, none⟩ = some (.int .i64 (f k).n) ∧ X.cell? ⟨gl, k * 2 + 1, none⟩ = some (.int .i64 (f k).d))
        (first | with_reducible exact k0 | with_reducible exact k1 | with_reducible exact k2 | with_reducible exact k3)
        (first
          | (go_simp; go_at_call 72; refine (d72.out _).mono ?_; rintro e X1 ⟨rfl, hb1⟩; have h1 := bel_trans h0 hb1; have k1 := hS.out _ h1; have h2 := bel_trans h1 (ba1 X1 (.cells #[.int .i64 Q.n, .int .i64 Q.d] 37)); have k2 := hS.out _ h2; have own2 := how.out _ h2; have sz2 := hsz.out _ h2; have nw2 := news2 X1 Q)
          | (refine step_append_lies _ rfl (.tmp 13) (.tmp 36) 25 rfl w.heap.size 37 i3 (.agg #[.int .i64 0, .int .i64 0]) 2 16 Try.underlying25 ji.out jz0.out jz1.out jz2.out rfl (by decide) _ k _ rfl own2 ⟨X1.heap.size, 0, none⟩ 1 1 [.int .i64 Q.n, .int .i64 Q.d] rfl rfl nw2 (one2 Q) (by omega) (by unfold maxLen; omega) (by omega) sz2 _ rfl ?_; intro g cap w1 hown1 hgrow hat1 hlt1; obtain ⟨k3, z3, z4⟩ := rest.out _ g cap w1 h2 hown1 hgrow; clear hown1 hgrow hat1 hlt1))
      go_wp2
      go_roundw
      case rel => exact ⟨k + 1, by omega, by go_num, z3, z4⟩
      case measure => simp [intOf]; omega
    · have : k = n := by omega
      subst this
      obtain ⟨g, cap, rfl, hge, hbl⟩ := own_blkR hown (by omega)
      have hfin := Lib.hid (show AwW w k g F wr from ⟨hX, hge, hbl⟩)
      replace hown := Lib.hid hown
      replace hX := Lib.hid hX
      replace hbl := Lib.hid hbl
      go_wp2
      go_ret
      exact ⟨g, cap, rfl, hfin.out⟩
end Go.Proofs.Ythleekdkbgnabaa
