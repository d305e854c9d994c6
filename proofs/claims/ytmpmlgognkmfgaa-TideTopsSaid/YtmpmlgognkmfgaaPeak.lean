/-
  The contracts of Highest and Farthest of the program: what is told of a peak.
-/
import Derived.Test.YtmpmlgognkmfgaaFar
import Derived.BigQuiet
namespace Go.Proofs.Ytmpmlgognkmfgaa
open Go.RowKit Go.Deep M
set_option linter.unusedVariables false
set_option linter.unusedSimpArgs false

def PK (p : (Nat × Int) × Int) : Ending := .returned (.tuple #[Agg p.1, .int .i64 p.2])
def pkR (a b : Bool) (q : Nat × Int) : (Nat × Int) × Int := if a then (if b then (q, 0) else ((0, 0), 2)) else ((0, 0), 10)

set_option maxHeartbeats 1000000 in
set_option maxRecDepth 100000 in
theorem told_peak0 (B : Nat) (A : Option Addr) (c : Nat) (T : List (List Int)) (g : FuncId) (Fa : Option Addr) (Fc : Nat) (fs : List Bool) (q : Nat × Int) (w : World) (h : Mat w B A T) (hB : B ≤ w.heap.size) (hf : Bools ((w.alloc (.cells #[.int .i64 0, .int .i64 0] 71)).alloc (.cells #[.int .i64 0, .int .i64 0] 71)) Fa fs)
    (hen : ∀ (args : Array Value) (w : World), (callFunc g args).run Try.prog w = .ok (.enter g args) w)
    (h0 : validB T = true → allB fs = true → Calls Try.prog g #[.slice A T.length c] ((w.alloc (.cells #[.int .i64 0, .int .i64 0] 71)).alloc (.cells #[.int .i64 0, .int .i64 0] 71)) fun e w' => e = .returned (Agg q) ∧ Below ((w.alloc (.cells #[.int .i64 0, .int .i64 0] 71)).alloc (.cells #[.int .i64 0, .int .i64 0] 71)).heap.size ((w.alloc (.cells #[.int .i64 0, .int .i64 0] 71)).alloc (.cells #[.int .i64 0, .int .i64 0] 71)) w') :
    Calls Try.prog 72 #[.slice A T.length c, .func (Fn.func g) #[] #[], .slice Fa fs.length Fc] w fun e w' => e = PK (pkR (validB T) (allB fs) q) ∧ Below w.heap.size w w' := by
  have hM := (h.alloc hB (.cells #[.int .i64 0, .int .i64 0] 71)).alloc (by simp; omega) (.cells #[.int .i64 0, .int .i64 0] 71)
  cases hv : validB T with
  | false =>
    have hbb : Below w.heap.size w ((w.alloc (.cells #[.int .i64 0, .int .i64 0] 71)).alloc (.cells #[.int .i64 0, .int .i64 0] 71)) := ((Below.refl _ _).alloc (Nat.le_refl _) _).alloc (by simp) _
    have pa : Pair ((w.alloc (.cells #[.int .i64 0, .int .i64 0] 71)).alloc (.cells #[.int .i64 0, .int .i64 0] 71)) w.heap.size 0 0 := (Pair.new w 0 0).below ((Below.refl _ _).alloc (Nat.le_refl _) _) (by simp)
    have pb : Pair ((w.alloc (.cells #[.int .i64 0, .int .i64 0] 71)).alloc (.cells #[.int .i64 0, .int .i64 0] 71)) (w.heap.size + 1) 0 0 := by simpa using Pair.new (w.alloc (.cells #[.int .i64 0, .int .i64 0] 71)) 0 0
    have a1 := pa.c0
    have a2 := pa.c1
    have a3 := pa.fz 0
    have a4 := pa.fz 1
    have b1 := pb.c0
    have b2 := pb.c1
    have ps := pa.set 0 0
    have j1 := ps.c0
    have j2 := ps.c1
    have hbs := (hbb.setCell (p := ⟨w.heap.size, 0, none⟩) (Nat.le_refl _) (.int .i64 0)).setCell (p := ⟨w.heap.size, 1, none⟩) (Nat.le_refl _) (.int .i64 0)
    replace hv := Lib.hid hv
    clear h0 hen
    go_enter Try.func72, Try.ntmps72
    go_wp2_with fail
    refine (valid_any B _ _ _ _ hM).mono ?_
    rintro e w' ⟨rfl, rfl⟩
    rw [hv.out]
    go_wp2
    exact bodyPost_ret (v := .tuple #[.agg #[.int .i64 0, .int .i64 0], .int .i64 10]) (by simp [results, Try.results72, go_sem, a1, a2]) rfl ⟨by simp [pkR, PK, Agg], hbb⟩
  | true =>
    cases ha : allB fs with
    | false =>
      have hbb : Below w.heap.size w ((w.alloc (.cells #[.int .i64 0, .int .i64 0] 71)).alloc (.cells #[.int .i64 0, .int .i64 0] 71)) := ((Below.refl _ _).alloc (Nat.le_refl _) _).alloc (by simp) _
      have pa : Pair ((w.alloc (.cells #[.int .i64 0, .int .i64 0] 71)).alloc (.cells #[.int .i64 0, .int .i64 0] 71)) w.heap.size 0 0 := (Pair.new w 0 0).below ((Below.refl _ _).alloc (Nat.le_refl _) _) (by simp)
      have pb : Pair ((w.alloc (.cells #[.int .i64 0, .int .i64 0] 71)).alloc (.cells #[.int .i64 0, .int .i64 0] 71)) (w.heap.size + 1) 0 0 := by simpa using Pair.new (w.alloc (.cells #[.int .i64 0, .int .i64 0] 71)) 0 0
      have a1 := pa.c0
      have a2 := pa.c1
      have a3 := pa.fz 0
      have a4 := pa.fz 1
      have b1 := pb.c0
      have b2 := pb.c1
      have ps := pa.set 0 0
      have j1 := ps.c0
      have j2 := ps.c1
      have hbs := (hbb.setCell (p := ⟨w.heap.size, 0, none⟩) (Nat.le_refl _) (.int .i64 0)).setCell (p := ⟨w.heap.size, 1, none⟩) (Nat.le_refl _) (.int .i64 0)
      replace hv := Lib.hid hv
      replace ha := Lib.hid ha
      clear h0 hen
      go_enter Try.func72, Try.ntmps72
      go_wp2_with fail
      refine (valid_any B _ _ _ _ hM).mono ?_
      rintro e w' ⟨rfl, rfl⟩
      rw [hv.out]
      go_wp2_with fail
      refine (containsFalse _ _ _ _ hf).mono ?_
      rintro e w' ⟨rfl, rfl⟩
      rw [ha.out]
      go_wp2
      exact bodyPost_ret (v := .tuple #[.agg #[.int .i64 0, .int .i64 0], .int .i64 2]) (by simp [results, Try.results72, go_sem, a1, a2]) rfl ⟨by simp [pkR, PK, Agg], hbb⟩
    | true =>
      have hbb : Below w.heap.size w ((w.alloc (.cells #[.int .i64 0, .int .i64 0] 71)).alloc (.cells #[.int .i64 0, .int .i64 0] 71)) := ((Below.refl _ _).alloc (Nat.le_refl _) _).alloc (by simp) _
      have pa : Pair ((w.alloc (.cells #[.int .i64 0, .int .i64 0] 71)).alloc (.cells #[.int .i64 0, .int .i64 0] 71)) w.heap.size 0 0 := (Pair.new w 0 0).below ((Below.refl _ _).alloc (Nat.le_refl _) _) (by simp)
      have pb : Pair ((w.alloc (.cells #[.int .i64 0, .int .i64 0] 71)).alloc (.cells #[.int .i64 0, .int .i64 0] 71)) (w.heap.size + 1) 0 0 := by simpa using Pair.new (w.alloc (.cells #[.int .i64 0, .int .i64 0] 71)) 0 0
      have a1 := pa.c0
      have a2 := pa.c1
      have a3 := pa.fz 0
      have a4 := pa.fz 1
      have b1 := pb.c0
      have b2 := pb.c1
      replace h0 : Calls Try.prog g #[.slice A T.length c] ((w.alloc (.cells #[.int .i64 0, .int .i64 0] 71)).alloc (.cells #[.int .i64 0, .int .i64 0] 71)) fun e w' => e = .returned (Agg q) ∧ Below w.heap.size w w' ∧ Pair w' w.heap.size 0 0 :=
        (h0 hv ha).mono fun e w' ⟨he, hb⟩ => ⟨he, hbb.trans (hb.mono (by simp; omega)), pa.below hb (by simp; omega)⟩
      obtain ⟨x, y⟩ := q
      unfold Agg at h0
      replace h0 := Lib.hid h0
      replace hv := Lib.hid hv
      replace ha := Lib.hid ha
      go_enter Try.func72, Try.ntmps72
      go_wp2_with fail
      refine (valid_any B _ _ _ _ hM).mono ?_
      rintro e w' ⟨rfl, rfl⟩
      rw [hv.out]
      go_wp2_with fail
      refine (containsFalse _ _ _ _ hf).mono ?_
      rintro e w' ⟨rfl, rfl⟩
      rw [ha.out]
      go_wp2_with fail
      refine h0.out.mono ?_
      clear a1 a2 a3 a4 b1 b2 pa pb hbb
      rintro e w1 ⟨rfl, hb, hp⟩
      have k1 := hp.c0
      have k2 := hp.c1
      have k3 := hp.fz 0
      have k4 := hp.fz 1
      have hpn := hp.set (x : Int) y
      have hbn := (hb.setCell (p := ⟨w.heap.size, 0, none⟩) (Nat.le_refl _) (.int .i64 (x : Int))).setCell (p := ⟨w.heap.size, 1, none⟩) (Nat.le_refl _) (.int .i64 y)
      clear hp hb
      go_wp2
      have j1 := hpn.c0
      have j2 := hpn.c1
      exact bodyPost_ret (v := .tuple #[.agg #[.int .i64 (x : Int), .int .i64 y], .int .i64 0]) (by simp [results, Try.results72, go_sem, j1, j2]) rfl ⟨by simp [pkR, PK, Agg], hbn⟩

set_option maxHeartbeats 1000000 in
set_option maxRecDepth 100000 in
theorem told_peak1 (B : Nat) (A : Option Addr) (c : Nat) (T : List (List Int)) (g : FuncId) (p : Value) (Fa : Option Addr) (Fc : Nat) (fs : List Bool) (q : Nat × Int) (w : World) (h : Mat w B A T) (hB : B ≤ w.heap.size) (hf : Bools ((w.alloc (.cells #[.int .i64 0, .int .i64 0] 71)).alloc (.cells #[.int .i64 0, .int .i64 0] 71)) Fa fs)
    (hen : ∀ (args : Array Value) (w : World), (callFunc g args).run Try.prog w = .ok (.enter g args) w)
    (h0 : validB T = true → allB fs = true → Calls Try.prog g #[.slice A T.length c, p] ((w.alloc (.cells #[.int .i64 0, .int .i64 0] 71)).alloc (.cells #[.int .i64 0, .int .i64 0] 71)) fun e w' => e = .returned (Agg q) ∧ Below ((w.alloc (.cells #[.int .i64 0, .int .i64 0] 71)).alloc (.cells #[.int .i64 0, .int .i64 0] 71)).heap.size ((w.alloc (.cells #[.int .i64 0, .int .i64 0] 71)).alloc (.cells #[.int .i64 0, .int .i64 0] 71)) w') :
    Calls Try.prog 72 #[.slice A T.length c, .func (Fn.func g) #[] #[p], .slice Fa fs.length Fc] w fun e w' => e = PK (pkR (validB T) (allB fs) q) ∧ Below w.heap.size w w' := by
  have hM := (h.alloc hB (.cells #[.int .i64 0, .int .i64 0] 71)).alloc (by simp; omega) (.cells #[.int .i64 0, .int .i64 0] 71)
  cases hv : validB T with
  | false =>
    have hbb : Below w.heap.size w ((w.alloc (.cells #[.int .i64 0, .int .i64 0] 71)).alloc (.cells #[.int .i64 0, .int .i64 0] 71)) := ((Below.refl _ _).alloc (Nat.le_refl _) _).alloc (by simp) _
    have pa : Pair ((w.alloc (.cells #[.int .i64 0, .int .i64 0] 71)).alloc (.cells #[.int .i64 0, .int .i64 0] 71)) w.heap.size 0 0 := (Pair.new w 0 0).below ((Below.refl _ _).alloc (Nat.le_refl _) _) (by simp)
    have pb : Pair ((w.alloc (.cells #[.int .i64 0, .int .i64 0] 71)).alloc (.cells #[.int .i64 0, .int .i64 0] 71)) (w.heap.size + 1) 0 0 := by simpa using Pair.new (w.alloc (.cells #[.int .i64 0, .int .i64 0] 71)) 0 0
    have a1 := pa.c0
    have a2 := pa.c1
    have a3 := pa.fz 0
    have a4 := pa.fz 1
    have b1 := pb.c0
    have b2 := pb.c1
    have ps := pa.set 0 0
    have j1 := ps.c0
    have j2 := ps.c1
    have hbs := (hbb.setCell (p := ⟨w.heap.size, 0, none⟩) (Nat.le_refl _) (.int .i64 0)).setCell (p := ⟨w.heap.size, 1, none⟩) (Nat.le_refl _) (.int .i64 0)
    replace hv := Lib.hid hv
    clear h0 hen
    go_enter Try.func72, Try.ntmps72
    go_wp2_with fail
    refine (valid_any B _ _ _ _ hM).mono ?_
    rintro e w' ⟨rfl, rfl⟩
    rw [hv.out]
    go_wp2
    exact bodyPost_ret (v := .tuple #[.agg #[.int .i64 0, .int .i64 0], .int .i64 10]) (by simp [results, Try.results72, go_sem, a1, a2]) rfl ⟨by simp [pkR, PK, Agg], hbb⟩
  | true =>
    cases ha : allB fs with
    | false =>
      have hbb : Below w.heap.size w ((w.alloc (.cells #[.int .i64 0, .int .i64 0] 71)).alloc (.cells #[.int .i64 0, .int .i64 0] 71)) := ((Below.refl _ _).alloc (Nat.le_refl _) _).alloc (by simp) _
      have pa : Pair ((w.alloc (.cells #[.int .i64 0, .int .i64 0] 71)).alloc (.cells #[.int .i64 0, .int .i64 0] 71)) w.heap.size 0 0 := (Pair.new w 0 0).below ((Below.refl _ _).alloc (Nat.le_refl _) _) (by simp)
      have pb : Pair ((w.alloc (.cells #[.int .i64 0, .int .i64 0] 71)).alloc (.cells #[.int .i64 0, .int .i64 0] 71)) (w.heap.size + 1) 0 0 := by simpa using Pair.new (w.alloc (.cells #[.int .i64 0, .int .i64 0] 71)) 0 0
      have a1 := pa.c0
      have a2 := pa.c1
      have a3 := pa.fz 0
      have a4 := pa.fz 1
      have b1 := pb.c0
      have b2 := pb.c1
      have ps := pa.set 0 0
      have j1 := ps.c0
      have j2 := ps.c1
      have hbs := (hbb.setCell (p := ⟨w.heap.size, 0, none⟩) (Nat.le_refl _) (.int .i64 0)).setCell (p := ⟨w.heap.size, 1, none⟩) (Nat.le_refl _) (.int .i64 0)
      replace hv := Lib.hid hv
      replace ha := Lib.hid ha
      clear h0 hen
      go_enter Try.func72, Try.ntmps72
      go_wp2_with fail
      refine (valid_any B _ _ _ _ hM).mono ?_
      rintro e w' ⟨rfl, rfl⟩
      rw [hv.out]
      go_wp2_with fail
      refine (containsFalse _ _ _ _ hf).mono ?_
      rintro e w' ⟨rfl, rfl⟩
      rw [ha.out]
      go_wp2
      exact bodyPost_ret (v := .tuple #[.agg #[.int .i64 0, .int .i64 0], .int .i64 2]) (by simp [results, Try.results72, go_sem, a1, a2]) rfl ⟨by simp [pkR, PK, Agg], hbb⟩
    | true =>
      have hbb : Below w.heap.size w ((w.alloc (.cells #[.int .i64 0, .int .i64 0] 71)).alloc (.cells #[.int .i64 0, .int .i64 0] 71)) := ((Below.refl _ _).alloc (Nat.le_refl _) _).alloc (by simp) _
      have pa : Pair ((w.alloc (.cells #[.int .i64 0, .int .i64 0] 71)).alloc (.cells #[.int .i64 0, .int .i64 0] 71)) w.heap.size 0 0 := (Pair.new w 0 0).below ((Below.refl _ _).alloc (Nat.le_refl _) _) (by simp)
      have pb : Pair ((w.alloc (.cells #[.int .i64 0, .int .i64 0] 71)).alloc (.cells #[.int .i64 0, .int .i64 0] 71)) (w.heap.size + 1) 0 0 := by simpa using Pair.new (w.alloc (.cells #[.int .i64 0, .int .i64 0] 71)) 0 0
      have a1 := pa.c0
      have a2 := pa.c1
      have a3 := pa.fz 0
      have a4 := pa.fz 1
      have b1 := pb.c0
      have b2 := pb.c1
      replace h0 : Calls Try.prog g #[.slice A T.length c, p] ((w.alloc (.cells #[.int .i64 0, .int .i64 0] 71)).alloc (.cells #[.int .i64 0, .int .i64 0] 71)) fun e w' => e = .returned (Agg q) ∧ Below w.heap.size w w' ∧ Pair w' w.heap.size 0 0 :=
        (h0 hv ha).mono fun e w' ⟨he, hb⟩ => ⟨he, hbb.trans (hb.mono (by simp; omega)), pa.below hb (by simp; omega)⟩
      obtain ⟨x, y⟩ := q
      unfold Agg at h0
      replace h0 := Lib.hid h0
      replace hv := Lib.hid hv
      replace ha := Lib.hid ha
      go_enter Try.func72, Try.ntmps72
      go_wp2_with fail
      refine (valid_any B _ _ _ _ hM).mono ?_
      rintro e w' ⟨rfl, rfl⟩
      rw [hv.out]
      go_wp2_with fail
      refine (containsFalse _ _ _ _ hf).mono ?_
      rintro e w' ⟨rfl, rfl⟩
      rw [ha.out]
      go_wp2_with fail
      refine h0.out.mono ?_
      clear a1 a2 a3 a4 b1 b2 pa pb hbb
      rintro e w1 ⟨rfl, hb, hp⟩
      have k1 := hp.c0
      have k2 := hp.c1
      have k3 := hp.fz 0
      have k4 := hp.fz 1
      have hpn := hp.set (x : Int) y
      have hbn := (hb.setCell (p := ⟨w.heap.size, 0, none⟩) (Nat.le_refl _) (.int .i64 (x : Int))).setCell (p := ⟨w.heap.size, 1, none⟩) (Nat.le_refl _) (.int .i64 y)
      clear hp hb
      go_wp2
      have j1 := hpn.c0
      have j2 := hpn.c1
      exact bodyPost_ret (v := .tuple #[.agg #[.int .i64 (x : Int), .int .i64 y], .int .i64 0]) (by simp [results, Try.results72, go_sem, j1, j2]) rfl ⟨by simp [pkR, PK, Agg], hbn⟩


def peakR (T : List (List Int)) : (Nat × Int) × Int := pkR (validB T) true (topS T)
def peakD (T : List (List Int)) (n : Int) : (Nat × Int) × Int := pkR (validB T) (spanB n) (topD T n.toNat)
/-- What Highest and Farthest return. -/
def R3 (p : (Nat × Int) × Int) : Ending := .returned (.tuple #[.int .i64 p.1.1, .int .i64 p.1.2, .int .i64 p.2])
theorem enter73 (args : Array Value) (w : World) : (callFunc 73 args).run Try.prog w = .ok (.enter 73 args) w := enter_of Try.func73 (by kernel_rfl) rfl args w
theorem enter74 (args : Array Value) (w : World) : (callFunc 74 args).run Try.prog w = .ok (.enter 74 args) w := enter_of Try.func74 (by kernel_rfl) rfl args w

theorem told_highest (B : Nat) (A : Option Addr) (c : Nat) (T : List (List Int)) (w : World) (h : Mat w B A T) (hB : B ≤ w.heap.size) :
    Calls Try.prog 72 #[.slice A T.length c, .func (Fn.func 73) #[] #[], .slice none 0 0] w fun e w' => e = PK (peakR T) ∧ Below w.heap.size w w' :=
  told_peak0 B A c T 73 none 0 [] (topS T) w h hB (bools_none _) enter73 fun hv _ =>
    highest_any B A c T _ ((h.alloc hB _).alloc (by simp; omega) _) (by simp; omega) (val_of hv)

theorem told_farthest (B : Nat) (A : Option Addr) (c : Nat) (T : List (List Int)) (n : Int) (w : World) (h : Mat w B A T) (hB : B ≤ w.heap.size) :
    Calls Try.prog 72 #[.slice A T.length c, .func (Fn.func 74) #[] #[.pointer (some ⟨w.heap.size, 0, none⟩)], .slice (some ⟨w.heap.size + 1, 0, none⟩) 1 1]
      ((w.alloc (.cells #[.int .i64 n] 3)).alloc (.cells #[.bool (spanB n)] 4)) fun e w' => e = PK (peakD T n) ∧ Below w.heap.size w w' := by
  have hbb : Below w.heap.size w ((w.alloc (.cells #[.int .i64 n] 3)).alloc (.cells #[.bool (spanB n)] 4)) := ((Below.refl _ _).alloc (Nat.le_refl _) _).alloc (by simp) _
  have hM := (h.alloc hB (.cells #[.int .i64 n] 3)).alloc (by simp; omega) (.cells #[.bool (spanB n)] 4)
  refine (told_peak1 B A c T 74 _ (some ⟨w.heap.size + 1, 0, none⟩) 1 [spanB n] (topD T n.toNat) _ hM (by simp; omega) (bools_one (by simp [go_sem])) enter74 (fun hv ha => ?_)).mono ?_
  · rw [allB_one] at ha
    have hn := of_spanB ha
    have hnn : ((n.toNat : Nat) : Int) = n := by omega
    refine farClo B A c T n.toNat w.heap.size _ ((hM.alloc (by simp; omega) _).alloc (by simp; omega) _) (by simp; omega) (val_of hv) (by omega) ?_ (by simp; omega)
    simp [go_sem, hnn]
  · rintro e w' ⟨rfl, hb⟩
    exact ⟨by rw [allB_one]; rfl, hbb.trans (hb.mono (by simp; omega))⟩

set_option maxHeartbeats 1000000 in
theorem Highest_any (B : Nat) (A : Option Addr) (c : Nat) (T : List (List Int)) (w : World) (h : Mat w B A T) (hB : B ≤ w.heap.size) :
    Calls Try.prog 34 #[.slice A T.length c] w fun e w' => e = R3 (peakR T) ∧ Below w.heap.size w w' := by
  have h3 := told_highest B A c T w h hB
  generalize peakR T = q at h3 ⊢
  obtain ⟨⟨x, y⟩, z⟩ := q
  unfold PK Agg at h3
  replace h3 := Lib.hid h3
  go_enter Try.func34, Try.ntmps34
  go_wp2_with fail
  refine h3.out.mono ?_
  rintro e w1 ⟨rfl, hb⟩
  dsimp only
  go_wp2_with fail
  have hba := hb.alloc hb.size (.cells #[.int .i64 (x : Int), .int .i64 y] 71)
  replace hb := hb.size
  have hpn := Pair.new w1 (x : Int) y
  have k1 := hpn.c0
  have k2 := hpn.c1
  clear hpn
  generalize w1.alloc (.cells #[.int .i64 (x : Int), .int .i64 y] 71) = w2 at hba k1 k2 ⊢
  generalize w1.heap.size = m at k1 k2 ⊢
  go_quiet (fail)
  go_wp2
  go_ret3
  exact ⟨rfl, below_drewN hba _⟩

set_option maxHeartbeats 1000000 in
theorem Farthest_any (B : Nat) (A : Option Addr) (c : Nat) (T : List (List Int)) (n : Int) (w : World) (h : Mat w B A T) (hB : B ≤ w.heap.size) :
    Calls Try.prog 36 #[.slice A T.length c, .int .i64 n] w fun e w' => e = R3 (peakD T n) ∧ Below w.heap.size w w' := by
  have h3 := told_farthest B A c T n w h hB
  generalize peakD T n = q at h3 ⊢
  obtain ⟨⟨x, y⟩, z⟩ := q
  unfold PK Agg at h3
  replace h3 := Lib.hid h3
  go_enter Try.func36, Try.ntmps36
  go_wp2_with fail
  refine (isSpan_any _ _).mono ?_
  rintro e w' ⟨rfl, rfl⟩
  go_wp2_with fail
  refine h3.out.mono ?_
  rintro e w1 ⟨rfl, hb⟩
  dsimp only
  go_wp2_with fail
  have hba := hb.alloc hb.size (.cells #[.int .i64 (x : Int), .int .i64 y] 71)
  replace hb := hb.size
  have hpn := Pair.new w1 (x : Int) y
  have k1 := hpn.c0
  have k2 := hpn.c1
  clear hpn
  generalize w1.alloc (.cells #[.int .i64 (x : Int), .int .i64 y] 71) = w2 at hba k1 k2 ⊢
  generalize w1.heap.size = m at k1 k2 ⊢
  go_quiet (fail)
  go_wp2
  go_ret3
  exact ⟨rfl, below_drewN hba _⟩

end Go.Proofs.Ytmpmlgognkmfgaa
