/-
  The contracts of the program's functions: the tide back, the tide shifted.
-/
import Derived.Test.YtmpmlgognkmfgaaMade
namespace Go.Proofs.Ytmpmlgognkmfgaa
open Go.RowKit Go.Deep M
set_option linter.unusedVariables false
set_option linter.unusedSimpArgs false

def bkRow (l : List Int) : List Int := mk (fun k => - M.at_ l (-(k : Int))) l.length
def shRow (by_ : Int) (l : List Int) : List Int := mk (fun k => M.at_ l ((k : Int) + by_)) l.length
def bkT (T : List (List Int)) : List (List Int) := mkT (fun k => bkRow (row T k)) T.length
def shT (by_ : Int) (T : List (List Int)) : List (List Int) := mkT (fun k => shRow by_ (row T k)) T.length
theorem mild_at {l : List Int} (h : Mild l) (hl : 1 ≤ l.length) (t : Int) : -100 ≤ M.at_ l t ∧ M.at_ l t ≤ 100 := h.2 _ (idx_lt t _ hl)

set_option maxHeartbeats 1000000 in
theorem backElem (B : Nat) (Ai : Option Addr) (ci : Nat) (l : List Int) (k p : Nat) (w : World) (hr : Row w B Ai l) (hm : Mild l) (hl : 1 ≤ l.length) (hk : k ≤ 12) (hp : w.cell? ⟨p, 0, none⟩ = some (.slice Ai l.length ci)) :
    Calls Try.prog 97 #[.int .i64 k, .pointer (some ⟨p, 0, none⟩)] w fun e w' => e = .returned (.int .i64 (- M.at_ l (-(k : Int)))) ∧ ∃ m, w' = w.drewN m := by
  obtain ⟨b, o, rfl, hb, hc⟩ := hr.at_hour (-(k : Int)) hl
  obtain ⟨m1, m2⟩ := hour_range (-(k : Int)) l.length hl
  obtain ⟨a1, a2⟩ := mild_at hm hl (-(k : Int))
  have h12 := hm.1
  have e1 : IntKind.i64.wrap (-(k : Int)) = -(k : Int) := IntWalk.i64_in _ (by omega)
  have e2 : IntKind.i64.wrap (- M.at_ l (-(k : Int))) = - M.at_ l (-(k : Int)) := IntWalk.i64_in _ (by omega)
  have hb1 : -4000000000000000000 ≤ -(k : Int) ∧ -(k : Int) ≤ 4000000000000000000 := by omega
  have hl2 : l.length ≤ 1000000 := by omega
  go_enter Try.func97, Try.ntmps97
  go_wp2
  go_quiet ((go_at_call 84; (with_reducible exact quiet_left (modulo_any _ _ _ hb1 hl hl2))))
  clear e1 e2
  go_wp2
  go_ret
  exact ⟨rfl, _, rfl⟩

set_option maxHeartbeats 1000000 in
theorem shiftElem (B : Nat) (Ai : Option Addr) (ci : Nat) (l : List Int) (k p q : Nat) (by_ : Int) (w : World) (hr : Row w B Ai l) (hm : Mild l) (hl : 1 ≤ l.length) (hk : k ≤ 12) (hby : -1000000 ≤ by_ ∧ by_ ≤ 1000000)
    (hp : w.cell? ⟨p, 0, none⟩ = some (.slice Ai l.length ci)) (hq : w.cell? ⟨q, 0, none⟩ = some (.int .i64 by_)) :
    Calls Try.prog 95 #[.int .i64 k, .pointer (some ⟨p, 0, none⟩), .pointer (some ⟨q, 0, none⟩)] w fun e w' => e = .returned (.int .i64 (M.at_ l ((k : Int) + by_))) ∧ ∃ m, w' = w.drewN m := by
  obtain ⟨b, o, rfl, hb, hc⟩ := hr.at_hour ((k : Int) + by_) hl
  obtain ⟨m1, m2⟩ := hour_range ((k : Int) + by_) l.length hl
  obtain ⟨a1, a2⟩ := mild_at hm hl ((k : Int) + by_)
  have h12 := hm.1
  have e1 : IntKind.i64.wrap ((k : Int) + by_) = (k : Int) + by_ := IntWalk.i64_in _ (by omega)
  have hb1 : -4000000000000000000 ≤ (k : Int) + by_ ∧ (k : Int) + by_ ≤ 4000000000000000000 := by omega
  have hl2 : l.length ≤ 1000000 := by omega
  go_enter Try.func95, Try.ntmps95
  go_wp2
  go_quiet ((go_at_call 84; (with_reducible exact quiet_left (modulo_any _ _ _ hb1 hl hl2))))
  clear e1
  go_wp2
  go_ret
  exact ⟨rfl, _, rfl⟩

theorem copyElem (B : Nat) (Ai : Option Addr) (ci : Nat) (l : List Int) (k p : Nat) (w : World) (hr : Row w B Ai l) (hk : k < l.length) (hp : w.cell? ⟨p, 0, none⟩ = some (.slice Ai l.length ci)) :
    Calls Try.prog 99 #[.int .i64 k, .pointer (some ⟨p, 0, none⟩)] w fun e w' => e = .returned (.int .i64 (el l k)) ∧ w = w' := by
  obtain ⟨b, o, rfl, hb, hc⟩ := hr.at_ k hk
  have h63 := hr.1
  go_enter Try.func99, Try.ntmps99
  go_wp2
  go_ret
  exact ⟨rfl, rfl⟩

theorem enter97 (args : Array Value) (w : World) : (callFunc 97 args).run Try.prog w = .ok (.enter 97 args) w := enter_of Try.func97 (by kernel_rfl) rfl args w
theorem enter95 (args : Array Value) (w : World) : (callFunc 95 args).run Try.prog w = .ok (.enter 95 args) w := enter_of Try.func95 (by kernel_rfl) rfl args w
theorem enter99 (args : Array Value) (w : World) : (callFunc 99 args).run Try.prog w = .ok (.enter 99 args) w := enter_of Try.func99 (by kernel_rfl) rfl args w
theorem enter96 (args : Array Value) (w : World) : (callFunc 96 args).run Try.prog w = .ok (.enter 96 args) w := enter_of Try.func96 (by kernel_rfl) rfl args w
theorem enter94 (args : Array Value) (w : World) : (callFunc 94 args).run Try.prog w = .ok (.enter 94 args) w := enter_of Try.func94 (by kernel_rfl) rfl args w
theorem enter98 (args : Array Value) (w : World) : (callFunc 98 args).run Try.prog w = .ok (.enter 98 args) w := enter_of Try.func98 (by kernel_rfl) rfl args w
theorem enter80 (args : Array Value) (w : World) : (callFunc 80 args).run Try.prog w = .ok (.enter 80 args) w := enter_of Try.func80 (by kernel_rfl) rfl args w
theorem enter77 (args : Array Value) (w : World) : (callFunc 77 args).run Try.prog w = .ok (.enter 77 args) w := enter_of Try.func77 (by kernel_rfl) rfl args w

/-- A closure's variable, in whatever world has only grown. -/
theorem caught {w W : World} {v : Value} {t : TypeId} (hb : Below (w.alloc (.cells #[v] t)).heap.size (w.alloc (.cells #[v] t)) W) : W.cell? ⟨w.heap.size, 0, none⟩ = some v := by
  rw [hb.cell (p := ⟨w.heap.size, 0, none⟩) (by simp)]; simp [go_sem]
theorem newRow_of {w : World} {v : Value} {t : TypeId} {l : List Int} {e : Ending} {w' : World} (h : NewRow (w.alloc (.cells #[v] t)) l e w') : NewRow w l e w' := by
  obtain ⟨A, c, he, hb, hr⟩ := h
  exact ⟨A, c, he, ((Below.refl _ _).alloc (Nat.le_refl _) _).trans (hb.mono (by simp)), hr.more (by simp)⟩

theorem backMade (B : Nat) (Ai : Option Addr) (ci : Nat) (l : List Int) (w : World) (hr : Row w B Ai l) (hB : B ≤ w.heap.size) (hm : Mild l) (hl : 1 ≤ l.length) :
    Calls Try.prog 90 #[.int .i64 l.length, .func (Fn.func 97) #[] #[.pointer (some ⟨w.heap.size, 0, none⟩)]] (w.alloc (.cells #[.slice Ai l.length ci] 31)) (NewRow w (bkRow l)) := by
  have h12 := hm.1
  refine (made1 97 (.pointer (some ⟨w.heap.size, 0, none⟩)) l.length (fun k => - M.at_ l (-(k : Int))) _ (by omega) enter97 (fun k hk W hb => ?_)).mono fun e w' h => newRow_of h.plain
  refine (backElem B Ai ci l k w.heap.size W ((hr.alloc hB _).below (hb.mono (by simp; omega))) hm hl (by omega) (caught hb)).mono ?_
  rintro e w' ⟨rfl, m, rfl⟩
  exact ⟨rfl, below_drewN (Below.refl _ _) m⟩
theorem copyMade (B : Nat) (Ai : Option Addr) (ci : Nat) (l : List Int) (w : World) (hr : Row w B Ai l) (hB : B ≤ w.heap.size) (hm : Mild l) :
    Calls Try.prog 90 #[.int .i64 l.length, .func (Fn.func 99) #[] #[.pointer (some ⟨w.heap.size, 0, none⟩)]] (w.alloc (.cells #[.slice Ai l.length ci] 31)) (NewRow w (mk (el l) l.length)) := by
  have h12 := hm.1
  refine (made1 99 (.pointer (some ⟨w.heap.size, 0, none⟩)) l.length (el l) _ (by omega) enter99 (fun k hk W hb => ?_)).mono fun e w' h => newRow_of h.plain
  refine (copyElem B Ai ci l k w.heap.size W ((hr.alloc hB _).below (hb.mono (by simp; omega))) hk (caught hb)).mono ?_
  rintro e w' ⟨rfl, rfl⟩
  exact ⟨rfl, Below.refl _ _⟩
theorem shiftMade (B : Nat) (Ai : Option Addr) (ci : Nat) (l : List Int) (q : Nat) (by_ : Int) (w : World) (hr : Row w B Ai l) (hB : B ≤ w.heap.size) (hm : Mild l) (hl : 1 ≤ l.length) (hby : -1000000 ≤ by_ ∧ by_ ≤ 1000000) (hq : w.cell? ⟨q, 0, none⟩ = some (.int .i64 by_)) :
    Calls Try.prog 90 #[.int .i64 l.length, .func (Fn.func 95) #[] #[.pointer (some ⟨w.heap.size, 0, none⟩), .pointer (some ⟨q, 0, none⟩)]] (w.alloc (.cells #[.slice Ai l.length ci] 31)) (NewRow w (shRow by_ l)) := by
  have h12 := hm.1
  have hq0 := World.block_lt_of_cell? _ _ hq
  refine (made2 95 (.pointer (some ⟨w.heap.size, 0, none⟩)) (.pointer (some ⟨q, 0, none⟩)) l.length (fun k => M.at_ l ((k : Int) + by_)) _ (by omega) enter95 (fun k hk W hb => ?_)).mono fun e w' h => newRow_of h.plain
  refine (shiftElem B Ai ci l k w.heap.size q by_ W ((hr.alloc hB _).below (hb.mono (by simp; omega))) hm hl (by omega) hby (caught hb) ?_).mono ?_
  · have hq0' : q < w.heap.size := hq0
    rw [hb.cell (p := ⟨q, 0, none⟩) (by simp; omega), World.cell?_alloc_lt _ _ _ hq0']; exact hq
  · rintro e w' ⟨rfl, m, rfl⟩
    exact ⟨rfl, below_drewN (Below.refl _ _) m⟩

theorem backRow (B : Nat) (Ai : Option Addr) (ci : Nat) (l : List Int) (w : World) (hr : Row w B Ai l) (hB : B ≤ w.heap.size) (hm : Mild l) (hl : 1 ≤ l.length) :
    Calls Try.prog 96 #[.slice Ai l.length ci] w (NewRow w (bkRow l)) := by
  have h := Lib.hid (backMade B Ai ci l w hr hB hm hl)
  go_enter Try.func96, Try.ntmps96
  go_wp2_with fail
  refine h.out.mono ?_
  rintro e w' ⟨A', c', rfl, hb, hrow⟩
  go_wp2
  go_ret
  exact ⟨A', c', rfl, hb, hrow⟩
theorem copyRow (B : Nat) (Ai : Option Addr) (ci : Nat) (l : List Int) (w : World) (hr : Row w B Ai l) (hB : B ≤ w.heap.size) (hm : Mild l) :
    Calls Try.prog 98 #[.slice Ai l.length ci] w (NewRow w (mk (el l) l.length)) := by
  have h := Lib.hid (copyMade B Ai ci l w hr hB hm)
  go_enter Try.func98, Try.ntmps98
  go_wp2_with fail
  refine h.out.mono ?_
  rintro e w' ⟨A', c', rfl, hb, hrow⟩
  go_wp2
  go_ret
  exact ⟨A', c', rfl, hb, hrow⟩
theorem shiftRow (B : Nat) (Ai : Option Addr) (ci : Nat) (l : List Int) (q : Nat) (by_ : Int) (w : World) (hr : Row w B Ai l) (hB : B ≤ w.heap.size) (hm : Mild l) (hl : 1 ≤ l.length) (hby : -1000000 ≤ by_ ∧ by_ ≤ 1000000) (hq : w.cell? ⟨q, 0, none⟩ = some (.int .i64 by_)) :
    Calls Try.prog 94 #[.slice Ai l.length ci, .pointer (some ⟨q, 0, none⟩)] w (NewRow w (shRow by_ l)) := by
  have h := Lib.hid (shiftMade B Ai ci l q by_ w hr hB hm hl hby hq)
  go_enter Try.func94, Try.ntmps94
  go_wp2_with fail
  refine h.out.mono ?_
  rintro e w' ⟨A', c', rfl, hb, hrow⟩
  go_wp2
  go_ret
  exact ⟨A', c', rfl, hb, hrow⟩

theorem back_any (B : Nat) (A : Option Addr) (c : Nat) (T : List (List Int)) (w : World) (h : Mat w B A T) (hB : B ≤ w.heap.size) (hv : Val T) :
    Calls Try.prog 80 #[.slice A T.length c] w (NewMat w (bkT T)) := by
  have hn := hv.1.2
  have h3 := Lib.hid ((each0 B A c T 96 (fun k => bkRow (row T k)) w h hB (by omega) enter96 (fun k hk W Ai ci hb hr => backRow B Ai ci _ W hr (by have := hb.size; omega) (mild_of hv k hk) (row_len hv k hk).1)).mono fun e w' h => h.mat)
  go_enter Try.func80, Try.ntmps80
  go_wp2_with fail
  refine h3.out.mono ?_
  rintro e w' ⟨A', c', rfl, hb, hrow⟩
  go_wp2
  go_ret
  exact ⟨A', c', rfl, hb, hrow⟩
theorem mk_self (l : List Int) : mk (el l) l.length = l := by
  apply List.ext_getElem (by rw [mk_len])
  intro i h1 h2
  have := mk_el (el l) l.length i h2
  rw [el_eq _ _ h1, el_eq _ _ h2] at this
  exact this
theorem mkT_self (T : List (List Int)) : mkT (row T) T.length = T := by
  apply List.ext_getElem (by rw [mkT_len])
  intro i h1 h2
  have := mkT_row (row T) T.length i h2
  rw [row_eq _ _ h1, row_eq _ _ h2] at this
  exact this
theorem copied_any (B : Nat) (A : Option Addr) (c : Nat) (T : List (List Int)) (w : World) (h : Mat w B A T) (hB : B ≤ w.heap.size) (hv : Val T) :
    Calls Try.prog 81 #[.slice A T.length c] w (NewLaid w T.length (row T)) := by
  have hn := hv.1.2
  have h3 := Lib.hid (each0 B A c T 98 (row T) w h hB (by omega) enter98 (fun k hk W Ai ci hb hr => by
    have := copyRow B Ai ci _ W hr (by have := hb.size; omega) (mild_of hv k hk)
    rwa [mk_self] at this))
  go_enter Try.func81, Try.ntmps81
  go_wp2_with fail
  refine h3.out.mono ?_
  rintro e w' ⟨rfl, hb, hz, hl, hn'⟩
  go_wp2
  go_ret
  exact ⟨rfl, hb, hz, hl, hn'⟩
theorem shifted3 (B : Nat) (A : Option Addr) (c : Nat) (T : List (List Int)) (by_ : Int) (w : World) (h : Mat w B A T) (hB : B ≤ w.heap.size) (hv : Val T) (hby : -1000000 ≤ by_ ∧ by_ ≤ 1000000) :
    Calls Try.prog 93 #[.slice A T.length c, .func (Fn.func 94) #[] #[.pointer (some ⟨w.heap.size, 0, none⟩)]] (w.alloc (.cells #[.int .i64 by_] 3)) (NewMat w (shT by_ T)) := by
  have hn := hv.1.2
  refine (each1 B A c T 94 (.pointer (some ⟨w.heap.size, 0, none⟩)) (fun k => shRow by_ (row T k)) _ (h.alloc hB _) (by simp; omega) (by omega) enter94
    (fun k hk W Ai ci hb hr => shiftRow B Ai ci _ w.heap.size by_ W hr (by have := hb.size; simp at this; omega) (mild_of hv k hk) (row_len hv k hk).1 hby (caught hb))).mono ?_
  intro e w' h0
  obtain ⟨A', c', rfl, hb, hrow⟩ := h0.mat
  exact ⟨A', c', rfl, ((Below.refl _ _).alloc (Nat.le_refl _) _).trans (hb.mono (by simp)), hrow⟩
theorem shifted_any (B : Nat) (A : Option Addr) (c : Nat) (T : List (List Int)) (by_ : Int) (w : World) (h : Mat w B A T) (hB : B ≤ w.heap.size) (hv : Val T) (hby : -1000000 ≤ by_ ∧ by_ ≤ 1000000) :
    Calls Try.prog 78 #[.slice A T.length c, .int .i64 by_] w (NewMat w (shT by_ T)) := by
  have h3 := Lib.hid (shifted3 B A c T by_ w h hB hv hby)
  go_enter Try.func78, Try.ntmps78
  go_wp2_with fail
  refine h3.out.mono ?_
  rintro e w' ⟨A', c', rfl, hb, hrow⟩
  go_wp2
  go_ret
  exact ⟨A', c', rfl, hb, hrow⟩
theorem shiftClo (B : Nat) (A : Option Addr) (c : Nat) (T : List (List Int)) (by_ : Int) (p : Nat) (w : World) (h : Mat w B A T) (hB : B ≤ w.heap.size) (hv : Val T) (hby : -1000000 ≤ by_ ∧ by_ ≤ 1000000) (hp : w.cell? ⟨p, 0, none⟩ = some (.int .i64 by_)) :
    Calls Try.prog 77 #[.slice A T.length c, .pointer (some ⟨p, 0, none⟩)] w (NewMat w (shT by_ T)) := by
  go_enter Try.func77, Try.ntmps77
  go_wp2_with fail
  refine (shifted_any B A c T by_ w h hB hv hby).mono ?_
  rintro e w' ⟨A', c', rfl, hb, hrow⟩
  go_wp2
  go_ret
  exact ⟨A', c', rfl, hb, hrow⟩

/-! ### what is told -/
def backR (T : List (List Int)) : List (List Int) × Int := if validB T then (bkT T, 0) else ([], 10)
def shiftR (T : List (List Int)) (by_ : Int) : List (List Int) × Int := if validB T then (if hourB by_ then (shT by_ T, 0) else ([], 2)) else ([], 10)
/-- What a function with a new tide and an error returns. -/
def NewMatE (w : World) (p : List (List Int) × Int) (e : Ending) (w' : World) : Prop := ∃ A c, e = .returned (.tuple #[.slice A p.1.length c, .int .i64 p.2]) ∧ Below w.heap.size w w' ∧ Mat w' w'.heap.size A p.1
theorem newMat_none (w : World) (x : Int) {p : List (List Int) × Int} (h : p = ([], x)) : NewMatE w p (.returned (.tuple #[.slice none 0 0, .int .i64 x])) w := by
  subst h
  exact ⟨none, 0, rfl, Below.refl _ _, by simp, fun h => absurd h (by simp)⟩

theorem Back_any (B : Nat) (A : Option Addr) (c : Nat) (T : List (List Int)) (w : World) (h : Mat w B A T) (hB : B ≤ w.heap.size) :
    Calls Try.prog 41 #[.slice A T.length c] w (NewMatE w (backR T)) := by
  have h3 : Calls Try.prog 76 #[.slice A T.length c, .func (Fn.func 80) #[] #[], .slice none 0 0] w (NewMatE w (backR T)) := by
    refine told_rows0 B A c T 80 _ 0 [] _ w h (bools_none w) enter80 (fun hv => ?_) (fun hv ha => ?_) (fun hv ha => ?_)
    · exact newMat_none w 10 (by unfold backR; rw [hv]; rfl)
    · rw [allB_none] at ha; cases ha
    · refine (back_any B A c T w h hB (val_of hv)).mono ?_
      rintro e w' ⟨A', c', rfl, hb, hrow⟩
      have : backR T = (bkT T, 0) := by unfold backR; rw [hv]; rfl
      exact ⟨_, rfl, A', c', by rw [this], hb, by rw [this]; exact hrow⟩
  generalize backR T = p at h3 ⊢
  obtain ⟨U, x⟩ := p
  replace h3 := Lib.hid h3
  go_enter Try.func41, Try.ntmps41
  go_wp2_with fail
  refine h3.out.mono ?_
  rintro e w' ⟨A', c', rfl, hb, hrow⟩
  go_wp2
  go_ret2
  exact ⟨A', c', rfl, hb, hrow⟩

theorem told_shift (B : Nat) (A : Option Addr) (c : Nat) (T : List (List Int)) (by_ : Int) (w : World) (h : Mat w B A T) (hB : B ≤ w.heap.size) :
    Calls Try.prog 76 #[.slice A T.length c, .func (Fn.func 77) #[] #[.pointer (some ⟨w.heap.size, 0, none⟩)], .slice (some ⟨w.heap.size + 1, 0, none⟩) 1 1]
      ((w.alloc (.cells #[.int .i64 by_] 3)).alloc (.cells #[.bool (hourB by_)] 4)) (NewMatE w (shiftR T by_)) := by
  have hbb : Below w.heap.size w ((w.alloc (.cells #[.int .i64 by_] 3)).alloc (.cells #[.bool (hourB by_)] 4)) := ((Below.refl _ _).alloc (Nat.le_refl _) _).alloc (by simp) _
  have hM := (h.alloc hB (.cells #[.int .i64 by_] 3)).alloc (by simp; omega) (.cells #[.bool (hourB by_)] 4)
  have key : ∀ {p : List (List Int) × Int} {e w'}, NewMatE ((w.alloc (.cells #[.int .i64 by_] 3)).alloc (.cells #[.bool (hourB by_)] 4)) p e w' → NewMatE w p e w' := fun ⟨A', c', he, hb, hrow⟩ => ⟨A', c', he, hbb.trans (hb.mono (by simp; omega)), hrow⟩
  refine told_rows1 B A c T 77 _ (some ⟨w.heap.size + 1, 0, none⟩) 1 [hourB by_] _ _ hM (bools_one (by simp [go_sem])) enter77 (fun hv => ?_) (fun hv ha => ?_) (fun hv ha => ?_)
  · exact key (newMat_none _ 10 (by unfold shiftR; rw [hv]; rfl))
  · rw [allB_one] at ha
    exact key (newMat_none _ 2 (by unfold shiftR; rw [hv, ha]; rfl))
  · rw [allB_one] at ha
    refine (shiftClo B A c T by_ w.heap.size _ hM (by simp; omega) (val_of hv) (of_hourB ha) (by simp [go_sem])).mono ?_
    rintro e w' ⟨A', c', rfl, hb, hrow⟩
    have : shiftR T by_ = (shT by_ T, 0) := by unfold shiftR; rw [hv, ha]; rfl
    exact ⟨_, rfl, key ⟨A', c', by rw [this], hb, by rw [this]; exact hrow⟩⟩
theorem Shifted_any (B : Nat) (A : Option Addr) (c : Nat) (T : List (List Int)) (by_ : Int) (w : World) (h : Mat w B A T) (hB : B ≤ w.heap.size) :
    Calls Try.prog 38 #[.slice A T.length c, .int .i64 by_] w (NewMatE w (shiftR T by_)) := by
  have h3 := told_shift B A c T by_ w h hB
  generalize shiftR T by_ = p at h3 ⊢
  obtain ⟨U, x⟩ := p
  replace h3 := Lib.hid h3
  go_enter Try.func38, Try.ntmps38
  go_wp2_with fail
  refine (isHour_any _ _).mono ?_
  rintro e w' ⟨rfl, rfl⟩
  go_wp2_with fail
  refine h3.out.mono ?_
  rintro e w' ⟨A', c', rfl, hb, hrow⟩
  go_wp2
  go_ret2
  exact ⟨A', c', rfl, hb, hrow⟩

end Go.Proofs.Ytmpmlgognkmfgaa
